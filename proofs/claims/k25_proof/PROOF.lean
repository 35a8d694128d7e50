import PyProof.Rows.All
import Wide.All
import OpenK.AllK
import Wide.FinOn
import Lean
import PyProof.EqAt
import PyProof.EqKinds
import PyProof.TupleCall
import PyProof.Rows.SortPure
import PyProof.Rows.SortWalk
import PyProof.AttrMissHeap
import KE.KDictOf
import KE.KIntText
import PyProof.StrBlockH
import PyProof.CallStr
import PyProof.StrLawsIn
import PyProof.StrLawsOcc
import PyProof.StationsW
import PyProof.ExcClass2
import PyProof.ExcBaseAll.ValueError
import PyProof.RulesTry
import PyProof.Rows.CatchBare
import PyProof.Rows.CatchOwn
import OpenK.KOwn
import PyProof.NsDelKeeps
import PyProof.Rows.RuleDivmod
import PyProof.Rows.SumAny
import PyProof.ExcInit
import PyProof.InstStore
import OpenK.KMake
import PyProof.InstStoreFacts
import PyProof.ExcAttrAll.ValueError
import OpenK.KCls
import PySem.Challenge.RW_carpetkin_k25_knotted
set_option hygiene false in
local macro_rules
|`(tactic|simp! [$a,*])=>`(tactic|simp (disch:=omega) only [$a,*])
|`(tactic|simp! [$a,*] at $l:ident)=>`(tactic|simp (disch:=omega) only [$a,*] at $l:ident)
set_option hygiene false in
local macro_rules
|`(tactic|ext a)=>`(tactic|(refine P9 (b5 m9 O.kc_Plain O.fi_Plain_cloth (by lia) rfl (b5 m8 O.kc_Named O.fi_Named_cloth (by lia) rfl (b5 g.d_Beside_cloth O.kc_Beside O.fi_Beside_cloth (by lia) rfl (b5 g.d_Above_cloth O.kc_Above O.fi_Above_cloth (by lia) rfl (b5 g.d_Across_cloth O.kc_Across O.fi_Across_cloth (by lia) rfl (b5 g.d_Down_cloth O.kc_Down O.fi_Down_cloth (by lia) rfl (b5 g.d_Turned_cloth O.kc_Turned O.fi_Turned_cloth (by lia) rfl (b5 g.d_Dyed_cloth O.kc_Dyed O.fi_Dyed_cloth (by lia) rfl B0)))))))) hr ?_ ?_ ?_))
|`(tactic|ext b)=>`(tactic|(refine P9 (b5 o8 O.kc_Plain O.fi_Plain_size (by lia) rfl (b5 o0 O.kc_Named O.fi_Named_size (by lia) rfl (b5 g.d_Beside_size O.kc_Beside O.fi_Beside_size (by lia) rfl (b5 g.d_Above_size O.kc_Above O.fi_Above_size (by lia) rfl (b5 g.d_Across_size O.kc_Across O.fi_Across_size (by lia) rfl (b5 g.d_Down_size O.kc_Down O.fi_Down_size (by lia) rfl (b5 g.d_Turned_size O.kc_Turned O.fi_Turned_size (by lia) rfl (b5 g.d_Dyed_size O.kc_Dyed O.fi_Dyed_size (by lia) rfl B0)))))))) hr ?_ ?_ ?_))
|`(tactic|ext c)=>`(tactic|(refine b9 ?_ ?_))
|`(tactic|ext d)=>`(tactic|(rw [y6] at ok;rw [t7] at hd;rw [z8] at e))
|`(tactic|ext e)=>`(tactic|(intro pins s σ H x y v u Q I rx ry h;obtain⟨F,ra,rb,rz,s0,h1,h2,h3,k⟩:=h))
|`(tactic|ext f)=>`(tactic|(intro pins s σ H xs us Q I rv h;obtain⟨F,x,rx,rz,rfl,s0,h1,h2,k⟩:=h))
|`(tactic|ext g)=>`(tactic|(rw [z8] at e;rw [y6] at ok;rw [t7] at h))
|`(tactic|ext h)=>`(tactic|(unfold A7;refine(g6 (e4 _)).trans ?_;refine(g6 (e5 _)).trans ?_;refine(b7 rfl).trans ?_;refine(b7 rfl).trans ?_))
|`(tactic|ext i)=>`(tactic|(intro X hP hw hK hc i pins s σ H E I hf st hg;subst hP hw hK))
|`(tactic|ext j)=>`(tactic|(refine c8 ?_;refine i0 ?_))
|`(tactic|ext k)=>`(tactic|(obtain⟨o,e,c,d⟩:=st;exact⟨o,e,λv z=>by rw [d] at z;cases z⟩))
|`(tactic|ext l)=>`(tactic|(intro X hP hw hK hc i pins s σ H I fi st hg;subst hP hw hK))
|`(tactic|ext m)=>`(tactic|(obtain⟨f0,f1,f2,f3,f4,f5⟩:=hf it (by simp)))
|`(tactic|ext n)=>`(tactic|(intro pins s σ H Q I h))
|`(tactic|ext o)=>`(tactic|(intro pins s σ H x y v u Q I rx ry h))
|`(tactic|ext p)=>`(tactic|(obtain⟨x,e1,e⟩:=bind_some e;have hp':=ih (n+1) (by lia) p x ok.2.2 (by lia) e1))
|`(tactic|ext q)=>`(tactic|(intro ds o h e;rw [J6] at e;rw [a2E] at o;rw [a1D] at h;obtain⟨d,e1,e⟩:=bind_some e))
|`(tactic|ext r)=>`(tactic|(rw [y6] at ok))
|`(tactic|ext s)=>`(tactic|(intro C fp pins s H))
|`(tactic|ext t)=>`(tactic|(obtain⟨ds,e1,e⟩:=bind_some e;have hp:=lst ps ds ok.2.2 (by lia) e1))
|`(tactic|ext u)=>`(tactic|(intro pins s σ H x v vl vu lo hi sl Q I rx hs pl pu h;obtain⟨a,xs,rfl,hx,hw,q⟩:=h;cases rx;obtain⟨its,r,ht,hz⟩:=I.tuple hx;have hlen:its.toArray.size=xs.length:=by rw [Ai];exact r.length.symm))
|`(tactic|ext v)=>`(tactic|(obtain⟨t,rfl⟩:=rx;obtain⟨t',rfl⟩:=ry))
|`(tactic|ext w)=>`(tactic|(unfold a0N at e;rw [if_pos rfl] at e;split at e))
|`(tactic|ext x)=>`(tactic|(unfold a0N at e;rw [if_neg Ac] at e;split at e))
set_option hygiene false in
local macro_rules
|`(tactic|exists z0,$k,$s,$e)=>`(tactic|(refine n0 (k:=$k) D $s (λ_ _ _ _ _ _=>$e) λf cdv A outer s H E hr=> ?_;have S:=$s;have hu:=hr.units))
|`(tactic|exists z1,$k,$s,$e)=>`(tactic|(refine y0 (k:=$k) D $s (λ_ _ _ _ _ _=>$e) λcdv A outer s H E hr=> ?_;have S:=$s;have hu:=hr.units))
|`(tactic|exists y0,$y,$n,$i,$d)=>`(tactic|refine S6 (ys:=$y) (N0:=$n) (λ_ _ h=>h) ?_ ⟨by kernel_rfl,rfl,of_decide_eq_true rfl,of_decide_eq_true rfl,of_decide_eq_true rfl⟩ ?_ (λC fp pins s H=>r0 (i:=$i) $d rfl (Or.inl rfl)) (λn h=>z7 (i:=$i) (Nat.le_of_eq h)) (λC fp pins s H=>R3) ?_)
set_option Elab.async false
set_option linter.all false
set_option maxRecDepth 100000
noncomputable section
open PySem renaming Value -> AA
open PySem renaming Addr -> AB
open PySem.Str renaming ofString -> AC
open PySem renaming Shared -> AD
open PySem.W renaming Frag -> AE
open PySem renaming wpAny_bind -> AF
open PySem renaming Expr -> AG
open PySem renaming wpAny -> AH
open PySem renaming World -> AI
open PySem renaming Program -> AJ
open PySem renaming Around -> AK
open PySem renaming starEach -> AL
open PySem renaming sizeLine -> AM
open List renaming map_cons -> AN
open Option renaming bind_some -> AO
open List renaming replicate -> AQ
open PySem renaming wpAny_pure -> AR
open Nat renaming le_refl -> AS
open List renaming range -> AT
open PySem.Heap renaming lt_size -> AU
open PySem.Heap renaming get?_push_of_some -> AV
open List renaming length_map -> AW
open List renaming length_cons -> AX
open List renaming length_append -> AY
open List renaming mem_cons_self -> AZ
open List renaming mem_cons_of_mem -> Aa
open List renaming mem_cons -> Ab
open Bool renaming false_ne_true -> Ac
open PySem.Heap renaming get?_push_size -> Ae
open Nat renaming ne_of_lt -> Af
open List renaming append_nil -> Ag
open List renaming map_map -> Ah
open List renaming size_toArray -> Ai
open List renaming getElem?_eq_some_iff -> Aj
open List renaming length_range -> Ak
open List renaming replicate_zero -> Al
open List renaming length_nil -> Am
open List renaming map_nil -> An
open List renaming getElem?_map -> Ao
open List renaming replicate_succ -> Ap
open Nat renaming lt_of_lt_of_le -> Aq
open List renaming cons_append -> Ar
open List renaming nil_append -> As
open List renaming mem_append_right -> At
open List renaming map_append -> Au
open List renaming getElem?_eq_getElem -> Av
open List renaming getElem?_append_left -> Aw
open List renaming mem_append -> Ax
open List renaming set_cons_zero -> Ay
open List renaming set_cons_succ -> Az
open Option renaming map_some -> BA
open Int renaming toNat_natCast -> BB
open List renaming mem_map -> BC
open Nat renaming le_of_lt -> BD
open List renaming mem_of_getElem? -> BE
open List renaming getElem?_set_self -> BF
open Bool renaming false_eq_true -> BG
open Option renaming some→ξ,none→ζ
namespace L2
open PySem PySem.Spec PyProof.Rows
theorem B7{α β γ:Type _}{p q r:α->β->γ->Prop}{C:Prop}(h:∃a b c,p a b c/\q a b c/\r a b c)(k:∀a b c,p a b c->q a b c->r a b c->C):C:=
 h.elim λa h=>h.elim λb h=>h.elim λc h=>k a b c h.1 h.2.1 h.2.2
theorem v9{α β:Type _}{p q r:α->β->Prop}{C:Prop}(h:∃a b,p a b/\q a b/\r a b)(k:∀a b,p a b->q a b->r a b->C):C:=
 h.elim λa h=>h.elim λb h=>k a b h.1 h.2.1 h.2.2
theorem a9d{α β:Type _}{p q r s:α->β->Prop}{C:Prop}(h:∃a b,p a b/\q a b/\r a b/\s a b)(k:∀a b,p a b->q a b->r a b->s a b->C):C:=
 h.elim λa h=>h.elim λb h=>k a b h.1 h.2.1 h.2.2.1 h.2.2.2
abbrev u8:=Sum Int Str
def a7a:u8->AA->Bool
 | .inl k,v=>Value.isInt k v
 | .inr x,v=>Value.isStrOf x v
def b8P(w:AI):u8->Int
 | .inl k=>hashInt k
 | .inr x=>hashStr w x
theorem G6:∀{k:u8} {v:AA},a7a k v=true->(∃i t,k=Sum.inl i/\v=Value.int i t)\/(∃x t,k=Sum.inr x/\v=Value.str x t)
 | .inl i,v,h=>by
   obtain⟨t,e⟩:=Value.isInt_shape (k:=i) (v:=v) h;exact .inl ⟨i,t,rfl,e⟩
 | .inr x,v,h=>by
   obtain⟨t,e⟩:=Value.isStrOf_shape (x:=x) (v:=v) h;exact .inr ⟨x,t,rfl,e⟩
theorem b8Q(i:Int)(t:Tok):a7a (.inl i) (.int i t)=true:=by simp [a7a,Value.isInt]
theorem b8S(x:Str)(t:Tok):a7a (.inr x) (.str x t)=true:=by simp [a7a,Value.isStrOf]
theorem c4M(a b:Int):decide ((Sum.inl a:u8)=Sum.inl b)=(a==b):=by
 by_cases e:a=b
 ·subst e;simp
 ·have h:¬(Sum.inl a:u8)=Sum.inl b:=λq=>e (Sum.inl.inj q);rw [decide_eq_false h];exact(beq_eq_false_iff_ne.mpr e).symm
theorem c4P(a b:Str):decide ((Sum.inr a:u8)=Sum.inr b)=decide (a=b):=by
 by_cases e:a=b
 ·subst e;simp
 ·have h:¬(Sum.inr a:u8)=Sum.inr b:=λq=>e (Sum.inr.inj q);rw [decide_eq_false h,decide_eq_false e]
theorem c4N(a:Int)(b:Str):decide ((Sum.inl a:u8)=Sum.inr b)=false:=decide_eq_false (λq=>nomatch q)
theorem c4O(a:Str)(b:Int):decide ((Sum.inr a:u8)=Sum.inl b)=false:=decide_eq_false (λq=>nomatch q)
def B1(prog:AJ)(w:AI):PySem.KeyKind prog w u8 where
 is:=a7a
 hash:=b8P w
 inj:=λv a b ha hb=>by
  rcases G6 ha with⟨i,t,rfl,rfl⟩|⟨x,t,rfl,rfl⟩
  ·rcases G6 hb with⟨j,u,rfl,e⟩|⟨y,u,rfl,e⟩
   ·injection e with e1 _;rw [e1]
   ·exact nomatch e
  ·rcases G6 hb with⟨j,u,rfl,e⟩|⟨y,u,rfl,e⟩
   ·exact nomatch e
   ·injection e with e1 _;rw [e1]
 byValue:=λk v h=>by
   rcases G6 h with⟨i,t,rfl,rfl⟩|⟨x,t,rfl,rfl⟩<;>rfl
 pyHash:=λhv h=>by
  rcases G6 hv with⟨i,t,rfl,rfl⟩|⟨x,t,rfl,rfl⟩
  ·exact wpAny_pyHash_int h
  ·exact wpAny_pyHash_str h
 eqBool:=λhu hv h=>by
  rcases G6 hu with⟨i,t,rfl,rfl⟩|⟨x,t,rfl,rfl⟩
  ·rcases G6 hv with⟨j,u,rfl,rfl⟩|⟨y,u,rfl,rfl⟩
   ·rw [c4M] at h;exact wpAny_eqBool_int h
   ·rw [c4N] at h;exact SeqAt.EqAt.int_str i t y u _ _ _ _ h
  ·rcases G6 hv with⟨j,u,rfl,rfl⟩|⟨y,u,rfl,rfl⟩
   ·rw [c4O] at h;exact SeqAt.EqAt.str_int x t j u _ _ _ _ h
   ·rw [c4P] at h;exact wpAny_eqBool_str h
 «strs»:=λk x t v h=>by
  rcases G6 h with⟨i,u,rfl,e⟩|⟨y,u,rfl,e⟩
  ·exact nomatch e
  ·injection e with e1 _
   subst e1;cases v<;>rfl
theorem a8G(prog:AJ)(w:AI)(i:Int)(t:Tok):(B1 prog w).is (.inl i) (.int i t)=true:=b8Q i t
theorem a8H(prog:AJ)(w:AI)(x:Str)(t:Tok):(B1 prog w).is (.inr x) (.str x t)=true:=b8S x t
inductive V where
 |non|bl (b:Bool)|int (i:Int)|str (x:Str)|byt (b:Array UInt8)|flt (b:UInt64)|ref (a:AB)|ty (n:String)
 deriving DecidableEq
def w6:V->AA->Prop
 | .non,u=>u=Value.none
 | .bl b,u=>u=Value.bool b
 | .int i,u=>∃t,u=Value.int i t
 | .str x,u=>∃t,u=Value.str x t
 | .byt b,u=>∃t,u=Value.bytes b t
 | .flt b,u=>∃t,u=Value.float b t
 | .ref a,u=>u=Value.ref a
 | .ty n,u=>u=Value.type n
abbrev u9:List V->List AA->Prop:=Paired w6
theorem u9.length{xs:List V}{us:List AA}(r:u9 xs us):xs.length=us.length:=Paired.length r
theorem u9.get:∀{xs:List V} {us:List AA} {i:Nat} {x:V},u9 xs us->xs[i]?=ξ x->∃u,us[i]?=ξ u/\w6 x u
 |_,_,_,_,.nil,e=>by simp at e
 |_,_,0,_,.cons r _,e=>by simp at e;subst e;exact⟨_,rfl,r⟩
 |_,_,i+1,x,.cons _ t,e=>by
  obtain⟨u,h1,h2⟩:=u9.get (i:=i) (x:=x) t (by simpa using e)
  exact⟨u,by simpa using h1,h2⟩
theorem u9.append:∀{xs ys:List V} {us ws:List AA},u9 xs us->u9 ys ws->u9 (xs++ys) (us++ws)
 |_,_,_,_,.nil,s=>s
 |_,_,_,_,.cons r t,s=> .cons r (u9.append t s)
theorem u9.take:∀{xs:List V} {us:List AA} (n:Nat),u9 xs us->u9 (xs.take n) (us.take n)
 |_,_,0,_=> .nil
 |_,_,_+1,.nil=> .nil
 |_,_,n+1,.cons r t=> .cons r (u9.take n t)
theorem u9.drop:∀{xs:List V} {us:List AA} (n:Nat),u9 xs us->u9 (xs.drop n) (us.drop n)
 |_,_,0,r=>r
 |_,_,_+1,.nil=> .nil
 |_,_,n+1,.cons _ t=>u9.drop n t
def a3D:Option V->Option AA->Prop
 |some v,ξ u=>w6 v u
 |none,ζ=>True
 |_,_=>False
def KV{κ:Type}:List (κ×V)->List (κ×AA)->Prop:=Paired λ(p:κ×V) (q:κ×AA)=>p.1=q.1/\w6 p.2 q.2
def kV:u8->V
 | .inl i=> .int i
 | .inr x=> .str x
inductive HO where
 |lst (xs:List V)
 |tup (xs:List V)
 |dK (kvs:List (u8×V))|dT (kvs:List (List u8×V))
 |set (S:Int->Bool) (n:Nat)
 |ins (C dx:AB) (fs:List (Str×V))
 |own (x:AB)
 |xd (fs:List (Str×V))
 |met (f x:AB)
 |rng (lo hi:Int)
 |frz (o:Obj) (u:HO)
 |tbl (ps:Array AA)
 |ext (φ:Heap->Prop)
abbrev Hp:=AB->Option HO
def B9(H:Hp)(a:AB)(o:HO):Hp:=λb=>if b=a then ξ o else H b
theorem r9{H:Hp}{a:AB}{o:HO}:B9 H a o a=ξ o:=by unfold B9;rw [if_pos rfl]
theorem l8{H:Hp}{a b:AB}{o:HO}(h:b≠a):B9 H a o b=H b:=by unfold B9;rw [if_neg h]
theorem b76{H:Hp}{a:AB}{o u:HO}:B9 (B9 H a o) a u=B9 H a u:=by
 funext b;unfold B9;split<;>rfl
theorem b7I{H:Hp}{a b:AB}{o u:HO}(h:H a=ξ o)(h':H b=ξ u)(d:o≠u):a≠b:=by
 intro e;subst e;rw [h] at h';exact d (Option.some.inj h')
theorem m5{H:Hp}{a b:AB}{o:HO}(h:H a=ξ o)(h':H b=ζ):a≠b:=by
 intro e;subst e;rw [h] at h';cases h'
section
variable (P:AJ)(w:AI)
def N4(H:Hp)(h:Heap)(a:AB):HO->Prop
 | .lst xs=>xs.length<=AM/\∃(its:List AA) (n:Nat),u9 xs its/\h.get? a=ξ {cls:= .type "list",data:= .seq its.toArray n}
 | .tup xs=>xs.length<=AM/\∃its:List AA,u9 xs its/\IsTup h a its.toArray
 | .dK kvs=>kvs.length<=AM/\(a==sysModules)=false/\∃vs,KV kvs vs/\h.DictOf (B1 P w) a vs
 | .dT kvs=>kvs.length<=AM/\(a==sysModules)=false/\∃xs:List (List u8×AB×AA),
  Paired (λ(p:List u8×V) (q:List u8×AB×AA)=>p.1=q.1/\H q.2.1=ξ (.tup (p.1.map kV))/\w6 p.2 q.2.2) kvs xs/\
  ∃o es ep,h.get? a=ξ o/\o.ExactDict/\o.data= .dict es ep/\es.toList=xs.map (entryOfKey (tupleKind (B1 P w)))/\(xs.map (·.1)).Nodup
 | .set S n=>h.SetOf (intKind P w) a S n
 | .ins C dx fs=>H dx=ξ (.own a)/\fs.length<=1000/\dx≠a/\h.get? a=ξ (PySem.W.instObj C dx)/\
  ∃mA,h.Ns1 dx mA/\(∀f,a3D (fs.lookup f) (mA f))/\PySem.Within mA (fs.map (·.1))
 | .own _=>∃o,h.get? a=ξ o
 | .xd fs=>∃mA,h.Ns1 a mA/\∀f,a3D (fs.lookup f) (mA f)
 | .rng lo hi=>∃t u v,h.get? a=ξ {cls:= .type "range",data:= .fields #[.int lo t,.int hi u,.int 1 v]}
 | .frz o u=>h.get? a=ξ o/\N4 H h a u
 | .tbl ps=>h.get? a=ξ {cls:= .none,data:= .fields ps}
 | .met f x=>h.get? a=ξ (PySem.W.methodObj (.ref f) (.ref x))
 | .ext φ=>φ h/\(∃o,h.get? a=ξ o)/\∀h1 h2:Heap,φ h1->(∀o,h1.get? a=ξ o->h2.get? a=ξ o)->φ h2
def HOk(H:Hp)(h:Heap):Prop:=∀a o,H a=ξ o->N4 P w H h a o
end
section
variable {P:AJ}{w:AI}{H H':Hp}{h h':Heap}{a:AB}{o:HO}
theorem N4.lt(x:N4 P w H h a o):a<h.objs.size:=by
 cases o with
 |lst xs=>obtain⟨_,_,_,_,e⟩:=x;exact AU e
 |tup xs=>obtain⟨_,_,_,p⟩:=x;exact p.lt
 |dK kvs=>obtain⟨_,_,_,_,o,_,_,e,_⟩:=x;exact AU e
 |dT kvs=>obtain⟨_,_,_,_,o,_,_,e,_⟩:=x;exact AU e
 |set S n=>obtain⟨o,_,_,_,e,_⟩:=x;exact AU e
 |ins C dx fs=>obtain⟨_,_,_,e,_⟩:=x;exact AU e
 |own y=>obtain⟨_,e⟩:=x;exact AU e
 |xd fs=>obtain⟨_,⟨_,_,_,e,_⟩,_⟩:=x;exact AU e
 |rng lo hi=>obtain⟨_,_,_,e⟩:=x;exact AU e
 |frz ob u=>obtain⟨e,_⟩:=x;exact AU e
 |tbl ps=>exact AU (show h.get? a=ξ _ from x)
 |met f y=>exact AU (show h.get? a=ξ _ from x)
 |ext φ=>obtain⟨_,⟨_,e⟩,_⟩:=x;exact AU e
theorem Paired.mapP{α β:Type}{F G:α->β->Prop}:∀{l₁:List α} {l₂:List β},Paired F l₁ l₂->(∀a b,F a b->G a b)->Paired G l₁ l₂
 |_,_,.nil,_=> .nil
 |_,_,.cons r t,f=> .cons (f _ _ r) (Paired.mapP t f)
theorem N4.stay(x:N4 P w H h a o)(k:∀b u,(b=a\/H b=ξ (.own a))->h.get? b=ξ u->h'.get? b=ξ u)
 (ho:∀b,H b=ξ (.own a)->H' b=ξ (.own a)) (ht:∀b xs,H b=ξ (.tup xs)->H' b=ξ (.tup xs)):N4 P w H' h' a o:=by
 induction o with
 |lst xs=>obtain⟨z,its,n,r,e⟩:=x;exact⟨z,its,n,r,k _ _ (.inl rfl) e⟩
 |tup xs=>obtain⟨z,its,r,ob,e,c⟩:=x;exact⟨z,its,r,ob,k _ _ (.inl rfl) e,c⟩
 |dK kvs=>obtain⟨z,y,vs,r,ob,es,ep,e,c⟩:=x;exact⟨z,y,vs,r,ob,es,ep,k _ _ (.inl rfl) e,c⟩
 |dT kvs=>
  obtain⟨z,y,xs,r,ob,es,ep,e,c⟩:=x
  exact⟨z,y,xs,Paired.mapP r λp q z=>⟨z.1,ht _ _ z.2.1,z.2.2⟩,ob,es,ep,k _ _ (.inl rfl) e,c⟩
 |set S n=>obtain⟨ob,es,ep,t,e,c⟩:=x;exact⟨ob,es,ep,t,k _ _ (.inl rfl) e,c⟩
 |ins C dx fs=>
  obtain⟨d,z,ne,e,mA,⟨od,es,ep,e2,c⟩,r⟩:=x
  exact⟨ho _ d,z,ne,k _ _ (.inl rfl) e,mA,⟨od,es,ep,k _ _ (.inr d) e2,c⟩,r⟩
 |own y=>obtain⟨ob,e⟩:=x;exact⟨ob,k _ _ (.inl rfl) e⟩
 |xd fs=>obtain⟨mA,⟨od,es,ep,e,c⟩,r⟩:=x;exact⟨mA,⟨od,es,ep,k _ _ (.inl rfl) e,c⟩,r⟩
 |rng lo hi=>obtain⟨t,u,v,e⟩:=x;exact⟨t,u,v,k _ _ (.inl rfl) e⟩
 |frz ob u ih=>obtain⟨e,q⟩:=x;exact⟨k _ _ (.inl rfl) e,ih q⟩
 |tbl ps=>
  have e:h.get? a=ξ {cls:= .none,data:= .fields ps}:=x
  show h'.get? a=ξ {cls:= .none,data:= .fields ps}
  exact k a _ (.inl rfl) e
 |met f y=>
  have e:h.get? a=ξ (PySem.W.methodObj (.ref f) (.ref y)):=x
  show h'.get? a=ξ (PySem.W.methodObj (.ref f) (.ref y))
  exact k a _ (.inl rfl) e
 |ext φ=>obtain⟨p,⟨o,e⟩,st⟩:=x;exact⟨st _ _ p λo q=>k _ _ (.inl rfl) q,⟨o,k _ _ (.inl rfl) e⟩,st⟩
theorem HOk.lt(x:HOk P w H h)(e:H a=ξ o):a<h.objs.size:=(x a o e).lt
theorem HOk.fresh(x:HOk P w H h)(e:h.objs.size<=a):H a=ζ:=by
 cases q:H a with
 |none=>rfl
 |some u=>exact absurd (Aq (x.lt q) e) (Nat.lt_irrefl _)
theorem HOk.kept(x:HOk P w H h)(k:∀b u,h.get? b=ξ u->h'.get? b=ξ u):HOk P w H h':=λa o e=>
 (x a o e).stay (λb u _ q=>k b u q) (λ_ q=>q) λ_ _ q=>q
theorem HOk.laid(x:HOk P w H h)(k:∀b u,h.get? b=ξ u->h'.get? b=ξ u)(hp:h.objs.size<=a)(new:N4 P w (B9 H a o) h' a o):HOk P w (B9 H a o) h':=λb u e=>by
 have hn:=x.fresh hp
 by_cases hb:b=a
 ·subst hb;rw [r9] at e;cases e;exact new
 ·rw [l8 hb] at e;exact(x b u e).stay (λc v _ q=>k c v q) (λc q=>by rw [l8 (m5 q hn)];exact q) λc xs q=>by rw [l8 (m5 q hn)];exact q
end
def Rd(H:Hp)(a:AB)(u:HO):Prop:=H a=ξ u\/∃o,H a=ξ (.frz o u)
theorem Rd.ok{P:AJ}{w:AI}{H:Hp}{h:Heap}{a:AB}{u:HO}(r:Rd H a u)(x:HOk P w H h):N4 P w H h a u:=by
 rcases r with r|⟨o,r⟩
 ·exact x a u r
 ·obtain⟨_,q⟩:=x a _ r;exact q
def Mut:Option HO->Prop
 |some (.lst _)=>True
 |some (.dK _)=>True
 |some (.dT _)=>True
 |some (.set _ _)=>True
 |some (.ins _ _ _)=>True
 |some (.ext _)=>True
 |_=>False
section
variable {P:AJ}{w:AI}{H:Hp}{h h':Heap}{x e:AB}{o':HO}
theorem HOk.write(ok:HOk P w H h)(mu:Mut (H x))(he:e=x\/H e=ξ (.own x))(k:∀b u,b≠e->h.get? b=ξ u->h'.get? b=ξ u)(heo:∃u,h'.get? e=ξ u)
 (new:N4 P w (B9 H x o') h' x o'):HOk P w (B9 H x o') h':=λb u q=>by
 have nown:∀c y,H c=ξ (.own y)->c≠x:=λc y r z=>by subst z;rw [r] at mu;exact mu
 have ntup:∀c xs,H c=ξ (.tup xs)->c≠x:=λc xs r z=>by subst z;rw [r] at mu;exact mu
 by_cases hb:b=x
 ·subst hb;rw [r9] at q;cases q;exact new
 ·rw [l8 hb] at q
  by_cases hbe:b=e
  ·have q':H b=ξ (.own x):=by
    rcases he with z|z
    ·exact absurd (hbe.trans z) hb
    ·rw [hbe];exact z
   rw [q] at q';cases q';obtain⟨v,hv⟩:=heo;exact⟨v,by rw [hbe];exact hv⟩
  ·refine(ok b u q).stay (λc v hc r=>k c v ?_ r) (λc r=>by rw [l8 (nown c b r)];exact r) λc xs r=>by rw [l8 (ntup c xs r)];exact r
   rcases hc with rfl|hc
   ·exact hbe
   ·rintro rfl
    rcases he with z|z
    ·exact nown c b hc z
    ·rw [hc] at z;cases z;exact hb rfl
end
structure Un(fs ex:List AB)(H H':Hp)(h h':Heap):Prop where
 keep:∀b o,h.get? b=ξ o->H b=ζ->b∉fs->b∉ex->h'.get? b=ξ o
 slot:∀b o,h.get? b=ξ o->H b=ζ->b∈fs->b∉ex->∃sl,h'.get? b=ξ {o with slots:=sl}
 free:∀b o,h.get? b=ξ o->H b=ζ->b∉ex->H' b=ζ
 there:∀b o,h.get? b=ξ o->b∉ex->∃o',h'.get? b=ξ o'
 tups:∀b xs,H b=ξ (.tup xs)->H' b=ξ (.tup xs)
 frzs:∀b o u,H b=ξ (.frz o u)->H' b=ξ (.frz o u)
 tbls:∀b ps,H b=ξ (.tbl ps)->∃more,H' b=ξ (.tbl (ps++more))
section
variable {fs fs' ex ex':List AB}{H H1 H2:Hp}{h h1 h2 h':Heap}{a x e:AB}{o:HO}
theorem Un.any(u:Un fs ex H H1 h h1){b:AB}{ob:Obj}(q:h.get? b=ξ ob)(n:H b=ζ)(hx:b∉ex):∃sl,h1.get? b=ξ {ob with slots:=sl}:=by
 by_cases hb:b∈fs
 ·exact u.slot b ob q n hb hx
 ·exact⟨ob.slots,u.keep b ob q n hb hx⟩
theorem Un.kept(k:∀b u,h.get? b=ξ u->h'.get? b=ξ u):Un fs ex H H h h':=
 ⟨λb ob q _ _ _=>k b ob q,λb ob q _ _ _=>⟨ob.slots,k b ob q⟩,λ_ _ _ n _=>n,λb ob q _=>⟨ob,k b ob q⟩,λ_ _ q=>q,λ_ _ _ q=>q,λ_ ps q=>⟨#[],by rw [q];simp⟩⟩
theorem Un.refl:Un fs ex H H h h:=Un.kept λ_ _ q=>q
theorem Un.laid(k:∀b u,h.get? b=ξ u->h'.get? b=ξ u)(hp:h.objs.size<=a)(hn:H a=ζ):Un fs ex H (B9 H a o) h h' where
 keep:=λb u q _ _ _=>k b u q
 slot:=λb u q _ _ _=>⟨u.slots,k b u q⟩
 free:=λb u q n _=>by rw [l8 (Af (Aq (AU q) hp))];exact n
 there:=λb u q _=>⟨u,k b u q⟩
 tups:=λb xs q=>by rw [l8 (m5 q hn)];exact q
 frzs:=λb u xs q=>by rw [l8 (m5 q hn)];exact q
 tbls:=λb ps q=>⟨#[],by rw [l8 (m5 q hn),q];simp⟩
theorem Un.write(mu:Mut (H x))(he:e=x\/H e=ξ (.own x))(k:∀b u,b≠e->h.get? b=ξ u->h'.get? b=ξ u)(heo:∃u,h'.get? e=ξ u):Un fs ex H (B9 H x o) h h':=by
 have hx:∀b,H b=ζ->b≠x:=λb n z=>by subst z;rw [n] at mu;exact mu
 have hb:∀b,H b=ζ->b≠e:=λb n z=>by
  subst z;rcases he with r|r
  ·exact hx b n r
  ·rw [n] at r;cases r
 have hm:∀b u,H b=ξ u->¬Mut (ξ u)->b≠x:=λb u q nm z=>by subst z;rw [q] at mu;exact nm mu
 refine⟨λb u q n _ _=>k b u (hb b n) q,λb u q n _ _=>⟨u.slots,k b u (hb b n) q⟩,λb u q n _=>by rw [l8 (hx b n)];exact n,λb u q _=> ?_,
  λb xs q=>by rw [l8 (hm b _ q λz=>z)];exact q,λb u xs q=>by rw [l8 (hm b _ q λz=>z)];exact q,λb ps q=>⟨#[],by rw [l8 (hm b _ q λz=>z),q];simp⟩⟩
 by_cases hbe:b=e
 ·subst hbe;exact heo
 ·exact⟨u,k b u hbe q⟩
end
def trk(h:Heap)(H:Hp):List AB:=(AT h.objs.size).filter λa=>(H a).isSome
def b3s(h:Heap)(H:Hp):Heap:=PySem.W.hideAll h (trk h H)
theorem b8K(h:Heap)(H:Hp):(b3s h H).objs.size=h.objs.size:=PySem.W.hideAll_size _ _
theorem c0G{h:Heap}{H:Hp}{b:AB}{o:Obj}(e:h.get? b=ξ o)(n:H b=ζ):(b3s h H).get? b=ξ o:=
 PySem.W.hideAll_get _ e λhm=>by
  have q:(H b).isSome=true:=(List.mem_filter.mp hm).2;rw [n] at q;simp at q
theorem c20{h:Heap}{H:Hp}{b:AB}{o:Obj}(e:(b3s h H).get? b=ξ o):h.get? b=ξ o/\H b=ζ:=by
 have e':h.get? b=ξ o:=PySem.W.of_hideAll (trk h H) e;refine⟨e', ?_⟩;cases q:H b with
 |none=>rfl
 |some x=>
  have hm:b∈trk h H:=List.mem_filter.mpr ⟨List.mem_range.mpr (AU e'),by simp [q]⟩
  have z:(b3s h H).get? b=ζ:=PySem.W.hideAll_none (trk h H) hm;rw [z] at e;cases e
structure Mod(K:AE)(mg:Str->Option AA)(base:Heap):Prop where
 kin:K.In base
 glob:base.Ns mainGlobals mg
 blt:∃mb,base.Ns builtinsNs mb/\∀x:Str,x≠"__name__"->mb x=bootBuiltins x
 nolimit:base.NoLimit
structure Cx where
 prog:AJ
 w:AI
 K:AE
 mg:Str->Option AA
 base:Heap
 A:AK
 N:List Str
 s₀:AD
 H₀:Hp
 env:Env
 outer:List Env
 stack:List Env
 ex:List AB
 fn:Str->Bool
 calm:Bool
 pn:List (AB×Obj)
 xe:AA->AD->Prop
def frs(l:List Env):List AB:=l.filterMap (·.frame)
abbrev Cx.fs(X:Cx):List AB:=frs X.outer
def Vis(sc:Scope)(x:Str):Prop:=sc.names.lookup x=ξ .local\/sc.names.lookup x=ξ .cell\/sc.names.lookup x=ξ .free
def Loc(sc:Scope)(x:Str):Prop:=sc.names.lookup x=ξ .local\/sc.names.lookup x=ξ .cell
def c6z(env:Env)(h:Heap)(m:Str->Option AA)(x:Str)(u:AA):Prop:=
 (env.kindOf x=ξ .local/\m x=ξ u)\/((env.kindOf x=ξ .cell\/env.kindOf x=ξ .free)/\∃c,env.cells.lookup x=ξ c/\h.IsCell c (ξ u))
structure Cx.Ok(X:Cx):Prop where
 mod:Mod X.K X.mg X.base
 kind:X.env.scope.kind= .function
 glob:X.env.globals=mainGlobals
 blt:X.env.builtins=builtinsNs
 above:X.s₀.heap.objs.size<=X.env.locals
 inj:∀x y c,X.env.cells.lookup x=ξ c->X.env.cells.lookup y=ξ c->x=y
 has:∀x,(X.env.kindOf x=ξ .cell\/X.env.kindOf x=ξ .free)->∃c,X.env.cells.lookup x=ξ c
 cab:∀x c,X.fn x=true->X.env.cells.lookup x=ξ c->X.s₀.heap.objs.size<=c
 hd:X.calm=true->X.A.handled=ζ
 frames:X.A.frames=ξ X.stack
 stk:X.stack=X.outer\/(X.stack=X.env::X.outer/\X.env.frame=ξ X.env.locals)
 exf:∀b∈X.ex,b≠X.env.locals/\∀x c,X.env.cells.lookup x=ξ c->c≠b
 bs:∀b o,X.base.get? b=ξ o->X.s₀.heap.get? b=ξ o/\X.H₀ b=ζ
 bsz:X.base.objs.size<=X.s₀.heap.objs.size
 noex:∀b o,X.base.get? b=ξ o->b∉X.ex
 exfs:∀b∈X.ex,b∉X.fs
 funs:X.s₀.heap.FunFrames X.base X.outer
 frf:∀b∈X.fs,X.H₀ b=ζ
structure n3(X:Cx)(pins:List (AB×Obj))(σ:List (Option V))(H:Hp)(s:AD):Prop where
 ok:X.Ok
 os:s.os=X.s₀.os
 bare:AllBare s.gens
 base:Un X.fs X.ex X.H₀ H X.s₀.heap s.heap
 loc:∃m,s.heap.Ns X.env.locals m/\∀(i:Nat) (x:Str) (v:V),X.N[i]?=ξ x->σ[i]?=ξ (ξ v)->Vis X.env.scope x->∃u,w6 v u/\c6z X.env s.heap m x u
 cell:∀x c,X.env.cells.lookup x=ξ c->∃v,s.heap.IsCell c v
 free:H X.env.locals=ζ
 freeC:∀x c,X.env.cells.lookup x=ξ c->H c=ζ
 pin:∀p∈X.pn++pins,s.heap.get? p.1=ξ p.2/\H p.1=ζ/\p.1≠X.env.locals/\p.1∉X.fs/\∀v,p.2.data≠.cell v
 hok:HOk X.prog X.w H s.heap
 len:σ.length=X.N.length
section
variable {X:Cx}{pins:List (AB×Obj)}{σ:List (Option V)}{H H':Hp}{s:AD}{h':Heap}
theorem Cx.Ok.nofr(ok:X.Ok){b:AB}{o:Obj}(e:X.base.get? b=ξ o):b∉X.fs:=λhb=>by
 have:=(ok.funs.mem hb).1;rw [e] at this;cases this
theorem n3.bs(I:n3 X pins σ H s):∀b o,X.base.get? b=ξ o->s.heap.get? b=ξ o/\H b=ζ:=λb o e=>
 ⟨I.base.keep b o (I.ok.bs b o e).1 (I.ok.bs b o e).2 (I.ok.nofr e) (I.ok.noex b o e),I.base.free b o (I.ok.bs b o e).1 (I.ok.bs b o e).2 (I.ok.noex b o e)⟩
theorem n3.bk(I:n3 X pins σ H s):∀b o,X.base.get? b=ξ o->s.heap.get? b=ξ o:=λb o e=>(I.bs b o e).1
theorem n3.mod(I:n3 X pins σ H s):Mod X.K X.mg X.base:=I.ok.mod
theorem n3.kIn(I:n3 X pins σ H s):X.K.In s.heap:=I.ok.mod.kin.keeps I.bk
theorem n3.lt(I:n3 X pins σ H s):X.env.locals<s.heap.objs.size:=by obtain⟨_,hn,_⟩:=I.loc;exact hn.lt
theorem n3.sz(I:n3 X pins σ H s):X.s₀.heap.objs.size<=s.heap.objs.size:=Nat.le_trans I.ok.above (BD I.lt)
theorem n3.nofs(I:n3 X pins σ H s){a:AB}(h:s.heap.objs.size<=a):a∉X.fs:=λhb=>by
 obtain⟨_,o,ho,_⟩:=I.ok.funs.mem hb;exact absurd (Aq (AU ho) (Nat.le_trans I.sz h)) (Nat.lt_irrefl _)
theorem n3.cne(I:n3 X pins σ H s):∀x c,X.env.cells.lookup x=ξ c->c≠X.env.locals:=λx c e z=>by
 obtain⟨v,o,ho,hd⟩:=I.cell x c e;obtain⟨m,⟨o',es,ep,ho',hd',_⟩,_⟩:=I.loc;rw [z,ho'] at ho;cases ho;rw [hd'] at hd;cases hd
theorem n3.funs(I:n3 X pins σ H s):s.heap.FunFrames X.base X.outer:=by
 have all:∀(l:List Env),(∀b∈frs l,b∈X.fs)->X.s₀.heap.FunFrames X.base l->s.heap.FunFrames X.base l:=by
  intro l
  induction l with
  |nil=>intro _ _;trivial
  |cons env r ih=>
   intro hs hl;obtain⟨hk,⟨L,o,hf,hn,ho,hd⟩,hr⟩:=hl;have hL:L∈X.fs:=hs L (by unfold frs;rw [List.filterMap_cons,hf];exact AZ)
   obtain⟨sl,e⟩:=I.base.slot L o ho (I.ok.frf L hL) hL λz=>I.ok.exfs L z hL;exact⟨hk,⟨L,_,hf,hn,e,hd⟩,ih (λb hb=>hs b (by unfold frs;rw [List.filterMap_cons,hf];exact Aa _ hb)) hr⟩
 exact all X.outer (λ_ hb=>hb) I.ok.funs
theorem n3.stack(I:n3 X pins σ H s):s.heap.FunFrames X.base X.stack:=by
 rcases I.ok.stk with e|⟨e,hf⟩
 ·rw [e];exact I.funs
 ·rw [e];obtain⟨m,hn,_⟩:=I.loc;refine .cons (by rw [I.ok.kind];decide) hf hn ?_ I.funs
  exact Heap.get?_none_of_le (Nat.le_trans I.ok.bsz I.ok.above)
theorem n3.stkSub(I:n3 X pins σ H s):∀b∈frs X.stack,b∈X.env.locals::X.fs:=λb hb=>by
 rcases I.ok.stk with e|⟨e,hf⟩
 ·rw [e] at hb;exact Aa _ hb
 ·rw [e] at hb;unfold frs at hb;rw [List.filterMap_cons,hf] at hb;exact hb
theorem n3.stkFree(I:n3 X pins σ H s):∀b∈frs X.stack,H b=ζ:=λb hb=>by
 rcases Ab.mp (I.stkSub b hb) with e|hb
 ·rw [e];exact I.free
 ·obtain⟨_,o,ho,_⟩:=I.ok.funs.mem hb;exact I.base.free b o ho (I.ok.frf b hb) λz=>I.ok.exfs b z hb
theorem n3.step{g':Array GenState}{t':Nat}{d':Drawn}{ch:List AB}(I:n3 X pins σ H s)
 (hch:∀b∈ch,(b∈X.ex\/X.s₀.heap.objs.size<=b)/\b≠X.env.locals/\(∀x c,X.env.cells.lookup x=ξ c->c≠b)/\∀p∈X.pn++pins,p.1≠b)
 (keep:∀b o,b≠X.env.locals->b∉X.fs->b∉ch->s.heap.get? b=ξ o->H b=ζ->h'.get? b=ξ o)
 (slot:∀b o,b≠X.env.locals->b∈X.fs->b∉ch->s.heap.get? b=ξ o->H b=ζ->∃sl,h'.get? b=ξ {o with slots:=sl}) (free:∀b o,b∉ch->s.heap.get? b=ξ o->H b=ζ->H' b=ζ)
 (there:∀b o,b∉ch->s.heap.get? b=ξ o->∃o',h'.get? b=ξ o')
 (tups:∀b xs,H b=ξ (.tup xs)->H' b=ξ (.tup xs)) (frzs:∀b o u,H b=ξ (.frz o u)->H' b=ξ (.frz o u)) (tbls:∀b ps,H b=ξ (.tbl ps)->∃more,H' b=ξ (.tbl (ps++more)))
 (ns:∀m,s.heap.Ns X.env.locals m->h'.Ns X.env.locals m) (hok:HOk X.prog X.w H' h') (hg:AllBare g'):
 n3 X pins σ H' {s with heap:=h',gens:=g',drawn:=d',toks:=t'}:=by
 have neL:∀b o,X.s₀.heap.get? b=ξ o->b≠X.env.locals:=λb o e=>Af (Aq (AU e) I.ok.above)
 have neC:∀b o,X.s₀.heap.get? b=ξ o->b∉X.ex->b∉ch:=λb o e hx hb=>by
  rcases(hch b hb).1 with z|z
  ·exact hx z
  ·exact absurd (Aq (AU e) z) (Nat.lt_irrefl _)
 have cellK:∀x c,X.env.cells.lookup x=ξ c->∀v,s.heap.IsCell c v->h'.IsCell c v:=λx c e v ⟨o,ho,hd⟩=>by
  have nch:c∉ch:=λz=>(hch c z).2.2.1 x c e rfl
  by_cases hc:c∈X.fs
  ·obtain⟨sl,q⟩:=slot c o (I.cne x c e) hc nch ho (I.freeC x c e);exact⟨_,q,hd⟩
  ·exact⟨o,keep c o (I.cne x c e) hc nch ho (I.freeC x c e),hd⟩
 refine⟨I.ok,I.os,hg,⟨λb o e n hb hx=> ?_,λb o e n hb hx=> ?_,λb o e n hx=> ?_,λb o e hx=> ?_,λb xs e=>tups b xs (I.base.tups b xs e),λb o xs e=>frzs b o xs (I.base.frzs b o xs e),λb ps e=> ?_⟩, ?_,λx c e=> ?_, ?_,λx c e=> ?_,λp hp=> ?_,hok,I.len⟩
 ·exact keep b o (neL b o e) hb (neC b o e hx) (I.base.keep b o e n hb hx) (I.base.free b o e n hx)
 ·obtain⟨sl,e1⟩:=I.base.slot b o e n hb hx
  obtain⟨sl',e2⟩:=slot b _ (neL b o e) hb (neC b o e hx) e1 (I.base.free b o e n hx)
  exact⟨sl',e2⟩
 ·obtain⟨o',e1⟩:=I.base.there b o e hx
  exact free b o' (neC b o e hx) e1 (I.base.free b o e n hx)
 ·obtain⟨o',e1⟩:=I.base.there b o e hx
  exact there b o' (neC b o e hx) e1
 ·obtain⟨m1,e1⟩:=I.base.tbls b ps e
  obtain⟨m2,e2⟩:=tbls b _ e1
  exact⟨m1++m2,by rw [e2,Array.append_assoc]⟩
 ·obtain⟨m,hn,hl⟩:=I.loc
  refine⟨m,ns m hn,λi x v e1 e2 e3=> ?_⟩
  obtain⟨u,r,l⟩:=hl i x v e1 e2 e3
  refine⟨u,r, ?_⟩
  rcases l with l|⟨k,c,e,z⟩
  ·exact .inl l
  ·exact .inr ⟨k,c,e,cellK x c e _ z⟩
 ·obtain⟨v,z⟩:=I.cell x c e
  exact⟨v,cellK x c e v z⟩
 ·obtain⟨m,⟨o,_,_,ho,_⟩,_⟩:=I.loc
  exact free _ o (λz=>(hch _ z).2.1 rfl) ho I.free
 ·obtain⟨v,o,ho,hd⟩:=I.cell x c e
  exact free c o (λz=>(hch c z).2.2.1 x c e rfl) ho (I.freeC x c e)
 ·obtain⟨e,n,ne,nf,d⟩:=I.pin p hp
  have nch:p.1∉ch:=λz=>(hch p.1 z).2.2.2 p hp rfl
  exact⟨keep p.1 p.2 ne nf nch e n,free p.1 p.2 nch e n,ne,nf,d⟩
theorem n3.un{t':Nat}(I:n3 X pins σ H s)(u:Un X.fs [] H H' s.heap h')(hok:HOk X.prog X.w H' h'):n3 X pins σ H' {s with heap:=h',toks:=t'}:=by
 obtain⟨m,⟨o,es,ep,ho,r⟩,_⟩:=id I.loc;obtain⟨sl,hL⟩:=u.any ho I.free (by simp)
 exact I.step (g':=s.gens) (d':=s.drawn) (ch:=[]) (λ_ z=>nomatch z) (λb o _ hb _ e n=>u.keep b o e n hb (by simp)) (λb o _ hb _ e n=>u.slot b o e n hb (by simp)) (λb o _ e n=>u.free b o e n (by simp)) (λb o _ e=>u.there b o e (by simp)) u.tups u.frzs u.tbls (λm' hm=>by
  obtain⟨o',es',ep',ho',r'⟩:=hm;rw [ho] at ho';cases ho';exact⟨_,es',ep',hL,r'⟩) hok I.bare
theorem n3.call{g':Array GenState}{t':Nat}{d':Drawn}{ch:List AB}(I:n3 X pins σ H s)(u:Un (frs X.stack) ch H H' s.heap h')(hok:HOk X.prog X.w H' h')(hg:AllBare g')
 (hch:∀b∈ch,(b∈X.ex\/X.s₀.heap.objs.size<=b)/\b≠X.env.locals/\(∀x c,X.env.cells.lookup x=ξ c->c≠b)/\∀p∈X.pn++pins,p.1≠b):
 n3 X pins σ H' {s with heap:=h',gens:=g',drawn:=d',toks:=t'}:=by
 obtain⟨m,⟨o,es,ep,ho,r⟩,_⟩:=id I.loc
 obtain⟨sl,hL⟩:=u.any ho I.free λz=>(hch _ z).2.1 rfl
 exact I.step (ch:=ch) hch (λb o hL hb hc e n=>u.keep b o e n (λz=>(Ab.mp (I.stkSub b z)).elim hL hb) hc) (λb o _ _ hc e n=>u.any e n hc) (λb o hc e n=>u.free b o e n hc) (λb o hc e=>u.there b o e hc) u.tups u.frzs u.tbls (λm' hm=>by
  obtain⟨o',es',ep',ho',r'⟩:=hm;rw [ho] at ho';cases ho';exact⟨_,es',ep',hL,r'⟩) hok hg
theorem n3.turned{t':Nat}{it:AB}(I:n3 X pins σ H s)(k:∀b o,b≠it->s.heap.get? b=ξ o->h'.get? b=ξ o)(hn:H it=ζ)(hL:it≠X.env.locals)
 (h1:it∈X.ex\/X.s₀.heap.objs.size<=it) (h2:∀x c,X.env.cells.lookup x=ξ c->c≠it) (h3:∀p∈X.pn++pins,p.1≠it):n3 X pins σ H {s with heap:=h',toks:=t'}:=by
 have nit:∀b u,H b=ξ u->b≠it:=λb u e z=>by rw [z,hn] at e;cases e
 refine I.step (g':=s.gens) (d':=s.drawn) (ch:=[it]) (λb hb=> ?_) (λb o _ _ hc e _=>k b o (λz=>hc (by simp [z])) e) (λb o _ _ hc e _=>⟨o.slots,k b o (λz=>hc (by simp [z])) e⟩) (λ_ _ _ _ n=>n)
  (λb o hc e=>⟨o,k b o (λz=>hc (by simp [z])) e⟩) (λ_ _ e=>e) (λ_ _ _ e=>e) (λb ps e=>⟨#[],by rw [e];simp⟩) (λm hm=> ?_) (λb u e=> ?_) I.bare
 ·have e:b=it:=by simpa using hb
  subst e
  exact⟨h1,hL,h2,h3⟩
 ·obtain⟨o,es,ep,ho,r⟩:=hm
  exact⟨o,es,ep,k _ o (Ne.symm hL) ho,r⟩
 ·refine(I.hok b u e).stay (λc v hc q=>k c v ?_ q) (λ_ q=>q) λ_ _ q=>q
  rcases hc with z|z
  ·rw [z];exact nit b u e
  ·exact nit c _ z
theorem n3.tok(I:n3 X pins σ H s)(t:Nat):n3 X pins σ H {s with toks:=t}:=I.un (h':=s.heap) (t':=t) Un.refl I.hok
theorem n3.kept{t':Nat}(I:n3 X pins σ H s)(k:∀b u,s.heap.get? b=ξ u->h'.get? b=ξ u):n3 X pins σ H {s with heap:=h',toks:=t'}:=I.un (Un.kept k) (I.hok.kept k)
theorem n3.laid{a:AB}{o:HO}{t':Nat}(I:n3 X pins σ H s)(k:∀b u,s.heap.get? b=ξ u->h'.get? b=ξ u)(hp:s.heap.objs.size<=a)(new:N4 X.prog X.w (B9 H a o) h' a o):
 n3 X pins σ (B9 H a o) {s with heap:=h',toks:=t'}:=I.un (Un.laid k hp (I.hok.fresh hp)) (I.hok.laid k hp new)
theorem n3.write{x e:AB}{o:HO}{t':Nat}(I:n3 X pins σ H s)(mu:Mut (H x))(he:e=x\/H e=ξ (.own x))(k:∀b u,b≠e->s.heap.get? b=ξ u->h'.get? b=ξ u)(heo:∃u,h'.get? e=ξ u)
 (new:N4 X.prog X.w (B9 H x o) h' x o):n3 X pins σ (B9 H x o) {s with heap:=h',toks:=t'}:=I.un (Un.write mu he k heo) (I.hok.write mu he k heo new)
theorem n3.weak{σ':List (Option V)}(I:n3 X pins σ H s)(hl:σ'.length=σ.length)(w:∀(i:Nat) v,σ'[i]?=ξ (ξ v)->σ[i]?=ξ (ξ v)):n3 X pins σ' H s:=
 ⟨I.ok,I.os,I.bare,I.base,let ⟨m,hn,hl'⟩:=I.loc;⟨m,hn,λi x v e1 e2 e3=>hl' i x v e1 (w i v e2) e3⟩,I.cell,I.free,I.freeC,I.pin,I.hok,hl.trans I.len⟩
theorem n3.pins_of{pins':List (AB×Obj)}(I:n3 X pins σ H s)(h:∀p∈pins',s.heap.get? p.1=ξ p.2/\H p.1=ζ/\p.1≠X.env.locals/\p.1∉X.fs/\∀v,p.2.data≠.cell v):n3 X pins' σ H s:=
 ⟨I.ok,I.os,I.bare,I.base,I.loc,I.cell,I.free,I.freeC,λp hp=>(Ax.mp hp).elim (λz=>I.pin p (List.mem_append_left _ z)) (h p),I.hok,I.len⟩
theorem b5d{N:List Str}(hN:N.Nodup){i j:Nat}{x:Str}(a:N[i]?=ξ x)(b:N[j]?=ξ x):i=j:=by
 obtain⟨h1,e1⟩:=Aj.mp a;obtain⟨h2,e2⟩:=Aj.mp b;exact(List.getElem_inj hN).mp (e1.trans e2.symm)
theorem b2N{M:Model}{A:AK}{E:AA->AD->Prop}{i:Nat}{x:Str}{v:V}{u:AA}{Q:Unit->AD->Prop}(I:n3 X pins σ H s)(hN:X.N.Nodup)(hi:X.N[i]?=ξ x)(hx:Loc X.env.scope x)(r:w6 v u)
 (h:∀s',n3 X pins (σ.set i (ξ v)) H s'->(∃a,Heap.SameBut a s.heap s'.heap/\(a=X.env.locals\/X.env.cells.lookup x=ξ a))->Q () s') (hf:X.fn x=true\/X.env.scope.names.lookup x=ξ .local:=by first|exact .inl rfl|exact .inr rfl|assumption):AH M A (storeName X.env x u) Q E s:=by
 obtain⟨m,hn,hl⟩:=id I.loc
 have hcls:(X.env.scope.kind== .class||(X.env.scope.kind== .module && X.env.locals !=X.env.globals))=false:=by rw [I.ok.kind];rfl
 have hiσ:i<σ.length:=by rw [I.len];exact(Aj.mp hi).1
 have cne:=I.cne
 have tracked:∀{a:AB} {h':Heap},(∃o,s.heap.get? a=ξ o/\H a=ζ)->Heap.SameBut a s.heap h'->HOk X.prog X.w H h':=λ {a h'} ha hs b ob e=>by
  obtain⟨_,_,hfree⟩:=ha;refine(I.hok b ob e).stay (λc w' hc q=>(hs.2 c ?_).trans q) (λ_ q=>q) λ_ _ q=>q;rintro rfl;rcases hc with rfl|hc
  ·rw [hfree] at e;cases e
  ·rw [hfree] at hc;cases hc
 rcases hx with hk|hk
 ·refine wpAny_storeName_local hk hn (λh' hn' hs=> ?_) hcls
  obtain⟨oL,_,_,hoL,_⟩:=id hn
  refine h _ ⟨I.ok,I.os,I.bare,⟨λb o e n hb hx=> ?_,λb o e n hb hx=> ?_,I.base.free,λb o e hx=> ?_,I.base.tups,I.base.frzs,I.base.tbls⟩,⟨_,hn',λj y v' e1 e2 e3=> ?_⟩,λy c e=> ?_,I.free,I.freeC,λp hp=> ?_,tracked ⟨oL,hoL,I.free⟩ hs,by simpa using I.len⟩ ⟨_,hs,.inl rfl⟩
  ·exact(hs.2 b (Af (Aq (AU e) I.ok.above))).trans (I.base.keep b o e n hb hx)
  ·obtain⟨sl,e1⟩:=I.base.slot b o e n hb hx
   exact⟨sl,(hs.2 b (Af (Aq (AU e) I.ok.above))).trans e1⟩
  ·obtain⟨o',e1⟩:=I.base.there b o e hx
   exact⟨o',(hs.2 b (Af (Aq (AU e) I.ok.above))).trans e1⟩
  ·by_cases hj:j=i
   ·subst hj
    rw [hi] at e1;cases e1
    rw [BF hiσ] at e2
    cases e2
    exact⟨u,r,.inl ⟨hk,by simp⟩⟩
   ·rw [List.getElem?_set_ne (Ne.symm hj)] at e2
    obtain⟨u',r',q⟩:=hl j y v' e1 e2 e3
    refine⟨u',r', ?_⟩
    rcases q with⟨k,e⟩|⟨k,c,e,z⟩
    ·refine .inl ⟨k, ?_⟩
     have:y≠x:=λe=>hj (b5d hN e1 (e▸hi))
     simp [this,e]
    ·exact .inr ⟨k,c,e,z.sameBut hs (cne y c e)⟩
  ·obtain⟨w',z⟩:=I.cell y c e
   exact⟨w',z.sameBut hs (cne y c e)⟩
  ·obtain⟨e,n,ne,nf,d⟩:=I.pin p hp
   exact⟨(hs.2 p.1 ne).trans e,n,ne,nf,d⟩
 ·have hfn:X.fn x=true:=by
   rcases hf with z|z
   ·exact z
   ·rw [z] at hk;cases hk
  obtain⟨c,hc⟩:=I.ok.has x (.inl hk);obtain⟨w',z⟩:=I.cell x c hc;refine wpAny_storeName_cell I.ok.kind hk hc z (λh' hc' hs=> ?_);obtain⟨oc,hoc,hocd⟩:=id z;refine h {s with heap:=h'} ⟨I.ok,I.os,I.bare,⟨λb o e n hb hx=> ?_,λb o e n hb hx=> ?_,I.base.free,λb o e hx=> ?_,I.base.tups,I.base.frzs,I.base.tbls⟩,⟨m,hn.sameBut hs (Ne.symm (cne x c hc)),λj y v' e1 e2 e3=> ?_⟩,λy c' e=> ?_,I.free,I.freeC,λp hp=> ?_,tracked ⟨oc,hoc,I.freeC x c hc⟩ hs,by simpa using I.len⟩ ⟨c,hs,.inr hc⟩
  ·exact(hs.2 b (Af (Aq (AU e) (I.ok.cab x c hfn hc)))).trans (I.base.keep b o e n hb hx)
  ·obtain⟨sl,e1⟩:=I.base.slot b o e n hb hx;exact⟨sl,(hs.2 b (Af (Aq (AU e) (I.ok.cab x c hfn hc)))).trans e1⟩
  ·obtain⟨o',e1⟩:=I.base.there b o e hx;exact⟨o',(hs.2 b (Af (Aq (AU e) (I.ok.cab x c hfn hc)))).trans e1⟩
  ·by_cases hj:j=i
   ·subst hj;rw [hi] at e1;cases e1;rw [BF hiσ] at e2;cases e2;exact⟨u,r,.inr ⟨.inl hk,c,hc,hc'⟩⟩
   ·rw [List.getElem?_set_ne (Ne.symm hj)] at e2;obtain⟨u',r',q⟩:=hl j y v' e1 e2 e3;refine⟨u',r', ?_⟩;rcases q with q|⟨k,c',e,z'⟩
    ·exact .inl q
    ·refine .inr ⟨k,c',e,z'.sameBut hs ?_⟩;rintro rfl;exact hj (b5d hN e1 (I.ok.inj _ _ _ e hc▸hi))
  ·by_cases hcc:c'=c
   ·subst hcc;exact⟨_,hc'⟩
   ·obtain⟨w2,z2⟩:=I.cell y c' e;exact⟨w2,z2.sameBut hs hcc⟩
  ·obtain⟨e,n,ne,nf,d⟩:=I.pin p hp;refine⟨(hs.2 p.1 ?_).trans e,n,ne,nf,d⟩;intro q;rw [q,hoc] at e;have q':oc=p.2:=Option.some.inj e;exact d w' (by rw [<-q'];exact hocd)
theorem b5L{M:Model}{A:AK}{E:AA->AD->Prop}{i:Nat}{x:Str}{v:V}{u:AA}{Q:Unit->AD->Prop}(I:n3 X pins σ H s)(hN:X.N.Nodup)(hi:X.N[i]?=ξ x)(hx:Loc X.env.scope x)(r:w6 v u)
 (h:∀s',n3 X pins (σ.set i (ξ v)) H s'->Q () s') (hf:X.fn x=true\/X.env.scope.names.lookup x=ξ .local:=by first|exact .inl rfl|exact .inr rfl|assumption):AH M A (storeName X.env x u) Q E s:=
 b2N I hN hi hx r (λs' I' _=>h s' I') hf
theorem n3.call'{s':AD}{ch:List AB}(I:n3 X pins σ H s)(ho:s'.os=s.os)(u:Un (frs X.stack) ch H H' s.heap s'.heap)(hok:HOk X.prog X.w H' s'.heap)(hg:AllBare s'.gens)
 (hch:∀b∈ch,(b∈X.ex\/X.s₀.heap.objs.size<=b)/\b≠X.env.locals/\(∀x c,X.env.cells.lookup x=ξ c->c≠b)/\∀p∈X.pn++pins,p.1≠b):n3 X pins σ H' s':=by
 obtain⟨h',g',d',t',o'⟩:=s'
 have e:o'=s.os:=ho
 subst e
 exact I.call (g':=g') (t':=t') (d':=d') u hok hg hch
end
abbrev XK:=AA->Option AB->Hp->Prop
abbrev St:=List (Option V)
abbrev VK:=V->Hp->Prop
abbrev TE:=St->Hp->VK->Prop
abbrev TT:=St->Hp->(Bool->Hp->Prop)->Prop
abbrev TA:=St->Hp->(List V->Hp->Prop)->Prop
structure a3J where
 nx:St->Hp->Prop
 rt:VK
 bk:St->Hp->Prop:=λ_ _=>False
 ct:St->Hp->Prop:=λ_ _=>False
abbrev TS:=a3J->St->Hp->Prop
def EP(X:Cx)(pins:List (AB×Obj))(σ:St)(Q:VK)(u:AA)(s':AD):Prop:=∃v H',n3 X pins σ H' s'/\w6 v u/\Q v H'
def TP(X:Cx)(pins:List (AB×Obj))(σ:St)(Q:Bool->Hp->Prop)(b:Bool)(s':AD):Prop:=∃H',n3 X pins σ H' s'/\Q b H'
def AP(X:Cx)(pins:List (AB×Obj))(σ:St)(Q:List V->Hp->Prop)(us:List AA)(s':AD):Prop:=∃vs H',n3 X pins σ H' s'/\u9 vs us/\Q vs H'
def SP(X:Cx)(pins:List (AB×Obj))(D:a3J)(f:Flow)(s':AD):Prop:=
 match f with
 | .next=>∃σ' H',n3 X pins σ' H' s'/\D.nx σ' H'
 | .brk=>∃σ' H',n3 X pins σ' H' s'/\D.bk σ' H'
 | .cont=>∃σ' H',n3 X pins σ' H' s'/\D.ct σ' H'
 | .ret u=>∃v σ' H',n3 X pins σ' H' s'/\w6 v u/\D.rt v H'
def PE(X:Cx)(e:AG)(t:TE):Prop:=
 ∀(pins:List (AB×Obj)) (s:AD) (σ:St) (H:Hp) (Q:VK),n3 X pins σ H s->t σ H Q->AH (model X.prog X.w) X.A (eval e X.env) (EP X pins σ Q) X.xe s
def PT(X:Cx)(e:AG)(t:TT):Prop:=
 ∀(pins:List (AB×Obj)) (s:AD) (σ:St) (H:Hp) (Q:Bool->Hp->Prop),n3 X pins σ H s->t σ H Q->AH (model X.prog X.w) X.A (isTrue e X.env (eval e X.env)) (TP X pins σ Q) X.xe s
def PW(X:Cx)(e:AG)(t:TT):Prop:=
 ∀(whole:Sem AA) (pins:List (AB×Obj)) (s:AD) (σ:St) (H:Hp) (Q:Bool->Hp->Prop),n3 X pins σ H s->t σ H Q->AH (model X.prog X.w) X.A (isTrue e X.env whole) (TP X pins σ Q) X.xe s
theorem PW.pt{X:Cx}{e:AG}{t:TT}(h:PW X e t):PT X e t:=h _
def PA(X:Cx)(es:List AG)(t:TA):Prop:=
 ∀(pos:Pos) (pins:List (AB×Obj)) (s:AD) (σ:St) (H:Hp) (Q:List V->Hp->Prop),n3 X pins σ H s->t σ H Q->AH (model X.prog X.w) X.A (spliced (backTo pos (AL es X.env))) (AP X pins σ Q) X.xe s
def PS(X:Cx)(st:Stmt)(t:TS):Prop:=
 ∀(pins:List (AB×Obj)) (s:AD) (σ:St) (H:Hp) (D:a3J),n3 X pins σ H s->t D σ H->AH (model X.prog X.w) X.A (exec st X.env) (SP X pins D) X.xe s
def PSs(X:Cx)(st:List Stmt)(t:TS):Prop:=
 ∀(pins:List (AB×Obj)) (s:AD) (σ:St) (H:Hp) (D:a3J),n3 X pins σ H s->t D σ H->AH (model X.prog X.w) X.A (execs st X.env) (SP X pins D) X.xe s
theorem M8{α:Type}{t:Sem α}{Q Q':α->AD->Prop}{M:Model}{A:AK}{E:AA->AD->Prop}{s:AD}(h:AH M A t Q E s)(hQ:∀a s,Q a s->Q' a s):AH M A t Q' E s:=wpAny_mono h hQ λ_ _ x=>x
section
variable {X:Cx}
def a3G(i:Nat):TE:=λσ H Q=>∃v,σ[i]?=ξ (ξ v)/\Q v H
def tC(v:V):TE:=λ_ H Q=>Q v H
theorem c5k{i:Nat}{x:Str}{pos:Pos}(hN:X.N[i]?=ξ x)(hv:Vis X.env.scope x)(hd:(x==("__debug__":Str))=false:=by decide)(hcd:(x==("__classdict__":Str))=false:=by decide):PE X (.Name x pos) (a3G i):=by
 ext n
 obtain⟨v,e,h⟩:=h;obtain⟨m,hn,hl⟩:=I.loc;obtain⟨u,r,l⟩:=hl i x v hN e hv;have fin:EP X pins σ Q u s:=⟨v,H,I,r,h⟩;rcases l with⟨hk,hm⟩|⟨hk,c,hc,hcell⟩
 ·exact wpAny_Name (wpAny_loadName_local I.ok.kind hk hn hm fin) hd
 ·rcases hk with hk|hk
  ·exact wpAny_Name (wpAny_loadName_cell I.ok.kind hk hc hcell fin) hd
  ·exact wpAny_Name (wpAny_loadName_free I.ok.kind hk hc hcell fin hcd) hd
theorem c5d{i j pos}:PE X (.Constant (.int i) j pos) (tC (.int i)):=λ_ _ _ H _ I h=>wpAny_Constant_int ⟨.int i,H,I.tok _,⟨_,rfl⟩,h⟩
theorem c57{b j pos}:PE X (.Constant (.bool b) j pos) (tC (.bl b)):=λ_ _ _ H _ I h=>Constant_bool ⟨.bl b,H,I,rfl,h⟩
theorem c5f{j pos}:PE X (.Constant .none j pos) (tC .non):=λ_ _ _ H _ I h=>Constant_none ⟨.non,H,I,rfl,h⟩
theorem c5i{x j pos}:PE X (.Constant (.str x) j pos) (tC (.str x)):=λ_ _ _ H _ I h=>Calls.Constant_str ⟨.str x,H,I.tok _,⟨_,rfl⟩,h⟩
def Gl(X:Cx)(x:Str):Prop:=X.env.kindOf x=ξ .globalImplicit
theorem a7g{E:AA->AD->Prop}{pins:List (AB×Obj)}{s:AD}{σ:St}{H:Hp}{x:Str}{u:AA}{pos:Pos}{Q:AA->AD->Prop}(I:n3 X pins σ H s)(hg:Gl X x)(hm:X.mg x=ξ u)(h:Q u s)
 (hd:(x==("__debug__":Str))=false:=by decide):AH (model X.prog X.w) X.A (eval (.Name x pos) X.env) Q E s:=
 Calls.Name_function_global I.ok.kind hg (Calls.loadGlobal_global (by rw [I.ok.glob];exact I.mod.glob.keeps I.bk) hm h) hd
theorem a18{E:AA->AD->Prop}{pins:List (AB×Obj)}{s:AD}{σ:St}{H:Hp}{x:Str}{u:AA}{pos:Pos}{Q:AA->AD->Prop}(I:n3 X pins σ H s)(hg:Gl X x)(hm:X.mg x=ζ)(hv:bootBuiltins x=ξ u)(h:Q u s)
 (hn:x≠"__name__":=by decide) (hd:(x==("__debug__":Str))=false:=by decide):AH (model X.prog X.w) X.A (eval (.Name x pos) X.env) Q E s:=by
 obtain⟨mb,h1,h2⟩:=I.mod.blt
 exact Calls.Name_function_global I.ok.kind hg (Calls.loadGlobal_builtin (by rw [I.ok.glob];exact I.mod.glob.keeps I.bk) hm (by rw [I.ok.blt];exact h1.keeps I.bk) ((h2 x hn).trans hv) h) hd
theorem b7M{x:Str}{v:V}{u:AA}{pos:Pos}(hg:Gl X x)(hm:X.mg x=ξ u)(r:w6 v u)(hd:(x==("__debug__":Str))=false:=by decide):PE X (.Name x pos) (tC v):=
 λ_ _ _ H _ I h=>a7g I hg hm ⟨v,H,I,r,h⟩ hd
theorem a3e{x:Str}{v:V}{u:AA}{pos:Pos}(hg:Gl X x)(hm:X.mg x=ζ)(hv:bootBuiltins x=ξ u)(r:w6 v u)(hn:x≠"__name__":=by decide)(hd:(x==("__debug__":Str))=false:=by decide):PE X (.Name x pos) (tC v):=
 λ_ _ _ H _ I h=>a18 I hg hm hv ⟨v,H,I,r,h⟩ hn hd
variable {a b:AG}{ta tb:TE}{pos:Pos}
def PC(X:Cx)(op:CmpOp)(a b:AG)(t:TE):Prop:=
 ∀(pins:List (AB×Obj)) (s:AD) (σ:St) (H:Hp) (Q:VK),n3 X pins σ H s->t σ H Q->
  AH (model X.prog X.w) X.A (eval a X.env) (λv s₁=>AH (model X.prog X.w) X.A (eval b X.env) (λu s₂=>AH (model X.prog X.w) X.A (compareOp op v u) (EP X pins σ Q) X.xe s₂) X.xe s₁) X.xe s
def tB(t:TE):TT:=λσ H Q=>t σ H λx H1=>∃c,x= .bl c/\Q c H1
theorem b6Q{op:CmpOp}{t:TE}(h:PC X op a b t)(h1:behindInMarks op b=false:=by first|exact nobehind _ (by decide) (by decide)|rfl):PT X (.Compare a [op] [b] pos) (tB t):=by
 intro pins s σ H Q I hw;refine wpAny_isTrue_Compare1 (M8 (h pins s σ H _ I hw) λv s1 h1=>M8 h1 λu s2 h2=>M8 h2 λc s3 h0=>v9 h0 λx H1 I1 r1 q1=> ?_) h1;obtain⟨d,rfl,q⟩:=q1;cases r1;exact wpAny_truthy_bool ⟨H1,I1,q⟩
variable {tA tB':TT}{rest:List AG}
def c6R(t u:TT):TT:=λσ H Q=>t σ H λc H1=>if c=true then u σ H1 Q else Q false H1
def tOr(t u:TT):TT:=λσ H Q=>t σ H λc H1=>if c=true then Q true H1 else u σ H1 Q
def c6Y(t:TT):TT:=λσ H Q=>t σ H λc H1=>Q (!c) H1
theorem c3m(ha:PT X a tA):PW X (.BoolOp .And [a] pos) tA:=by
 intro wh pins s σ H Q I h;refine isTrue_and (M8 (ha pins s σ H Q I h) λc s1 e=> ?_);cases c with
 |true=>exact isTrue_and_nil e
 |false=>exact e
theorem c5p(ha:PT X a tA):PW X (.BoolOp .Or [a] pos) tA:=by
 intro wh pins s σ H Q I h;refine isTrue_or (M8 (ha pins s σ H Q I h) λc s1 e=> ?_);cases c with
 |false=>exact isTrue_or_nil e
 |true=>exact e
theorem c5o(ha:PT X a tA)(hb:PW X (.BoolOp .And (b::rest) pos) tB'):PW X (.BoolOp .And (a::b::rest) pos) (c6R tA tB'):=by
 intro wh pins s σ H Q I h;refine isTrue_and (M8 (ha pins s σ H _ I h) λc s1 ⟨H1,I1,q1⟩=> ?_);cases c with
 |true=>exact hb wh pins s1 σ H1 Q I1 q1
 |false=>exact⟨H1,I1,q1⟩
theorem c6c(ha:PT X a tA)(hb:PW X (.BoolOp .Or (b::rest) pos) tB'):PW X (.BoolOp .Or (a::b::rest) pos) (tOr tA tB'):=by
 intro wh pins s σ H Q I h;refine isTrue_or (M8 (ha pins s σ H _ I h) λc s1 ⟨H1,I1,q1⟩=> ?_);cases c with
 |true=>exact⟨H1,I1,q1⟩
 |false=>exact hb wh pins s1 σ H1 Q I1 q1
theorem c5m(ha:PT X a tA):PT X (.UnaryOp .Not a pos) (c6Y tA):=by
 ext n
 exact isTrue_not (ha pins s σ H (λc H1=>Q (!c) H1) I h)
def c6j(ta tb:TE):TE:=λσ H Q=>ta σ H λx H1=>∃c,x= .bl c/\if c=true then tb σ H1 Q else Q (.bl false) H1
def c6n(ta:TE):TE:=λσ H Q=>ta σ H λx H1=>∃c,x= .bl c/\Q (.bl (!c)) H1
theorem c5h{op}{t:TE}(h:PE X a t):PE X (.BoolOp op [a] pos) t:=λpins s σ H Q I hw=>BoolOp_one (h pins s σ H Q I hw)
theorem c5b(ha:PE X a ta)(hb:PE X (.BoolOp .And (b::rest) pos) tb):PE X (.BoolOp .And (a::b::rest) pos) (c6j ta tb):=by
 ext n
 refine BoolOp_and (M8 (ha pins s σ H _ I h) λv s1 h0=>v9 h0 λx H1 I1 r1 q1=> ?_);obtain⟨c,rfl,q1⟩:=q1;cases r1;refine wpAny_truthy_bool ?_;cases c with
 |true=>exact hb pins s1 σ H1 Q I1 q1
 |false=>exact⟨.bl false,H1,I1,rfl,q1⟩
theorem c5g(ha:PE X a ta):PE X (.UnaryOp .Not a pos) (c6n ta):=by
 ext n
 refine UnaryOp_ (M8 (ha pins s σ H _ I h) λv s1 h0=>v9 h0 λx H1 I1 r1 q1=> ?_);obtain⟨c,rfl,q1⟩:=q1;cases r1;exact not_of (wpAny_truthy_bool ⟨.bl (!c),H1,I1,rfl,q1⟩)
def tIf(t:TT)(ta tb:TE):TE:=λσ H Q=>t σ H λc H1=>if c=true then ta σ H1 Q else tb σ H1 Q
theorem c1m{c:AG}(hc:PT X c tA)(ha:PE X a ta)(hb:PE X b tb):PE X (.IfExp c a b pos) (tIf tA ta tb):=by
 ext n
 refine wpAny_IfExp (M8 (hc pins s σ H _ I h) λd s1 ⟨H1,I1,q1⟩=> ?_);cases d with
 |true=>exact ha pins s1 σ H1 Q I1 q1
 |false=>exact hb pins s1 σ H1 Q I1 q1
end
def SqL(K:AE)(H:Hp)(a:AB)(xs:List V):Prop:=
 Rd H a (.lst xs)\/
  ∃(o:Obj) (its:Array AA) (n:Nat),K.lookup a=ξ o/\o.cls= .type "list"/\o.dict=ζ/\o.data= .seq its n/\its.size<=AM/\u9 xs its.toList
def SqT(K:AE)(H:Hp)(a:AB)(xs:List V):Prop:=
 Rd H a (.tup xs)\/
  ∃(o:Obj) (its:Array AA) (n:Nat),K.lookup a=ξ o/\o.cls= .type "tuple"/\o.data= .seq its n/\its.size<=AM/\u9 xs its.toList
def c6C:AA->Option V
 | .none=>ξ .non
 | .bool b=>ξ (.bl b)
 | .int i _=>ξ (.int i)
 | .str x _=>ξ (.str x)
 | .bytes b _=>ξ (.byt b)
 | .float b _=>ξ (.flt b)
 | .ref a=>ξ (.ref a)
 | .type n=>ξ (.ty n)
 |_=>ζ
theorem w6.abs{x:V}{u:AA}(r:w6 x u):c6C u=ξ x:=by
 cases x with
 |non=>cases r;rfl
 |bl _=>cases r;rfl
 |int _=>obtain⟨t,rfl⟩:=r;rfl
 |str _=>obtain⟨t,rfl⟩:=r;rfl
 |byt _=>obtain⟨t,rfl⟩:=r;rfl
 |flt _=>obtain⟨t,rfl⟩:=r;rfl
 |ref _=>cases r;rfl
 |ty _=>cases r;rfl
theorem w6.inj{x y:V}{u:AA}(r:w6 x u)(q:w6 y u):x=y:=Option.some.inj (r.abs.symm.trans q.abs)
theorem u9.inj:∀{xs ys:List V} {us:List AA},u9 xs us->u9 ys us->xs=ys
 |_,_,_,.nil,.nil=>rfl
 |_,_,_,.cons r t,.cons r' t'=>by rw [r.inj r',u9.inj t t']
section
variable {X:Cx}{pins:List (AB×Obj)}{σ:St}{H:Hp}{s:AD}{a:AB}{xs ys:List V}
theorem SqL.of{K:AE}(h:H a=ξ (.lst xs)):SqL K H a xs:= .inl (.inl h)
theorem n3.list(I:n3 X pins σ H s)(h:SqL X.K H a xs):∃its:List AA,u9 xs its/\PlainL s.heap a its.toArray/\xs.length<=AM:=by
 rcases h with h|⟨o,its,n,hk,hc,hd,hs,hz,r⟩
 ·obtain⟨z,its,n,r,e⟩:=h.ok I.hok;exact⟨its,r,⟨_,n,e,rfl,rfl,rfl⟩,z⟩
 ·refine⟨its.toList,r,⟨o,n,I.kIn a o hk,hc,hd,by simpa using hs⟩, ?_⟩
  have e:=r.length;simp only [Array.length_toList] at e
  lia
theorem n3.tuple(I:n3 X pins σ H s)(h:SqT X.K H a xs):∃its:List AA,u9 xs its/\IsTup s.heap a its.toArray/\xs.length<=AM:=by
 rcases h with h|⟨o,its,n,hk,hc,hs,hz,r⟩
 ·obtain⟨z,its,r,p⟩:=h.ok I.hok;exact⟨its,r,p,z⟩
 ·refine⟨its.toList,r,⟨o,I.kIn a o hk,hc,n,by simpa using hs⟩, ?_⟩
  have e:=r.length;simp only [Array.length_toList] at e
  lia
theorem n3.list_inj(I:n3 X pins σ H s)(h:SqL X.K H a xs)(h':SqL X.K H a ys):xs=ys:=by
 obtain⟨its,r,⟨o,n,e,_,_,d⟩,_⟩:=I.list h;obtain⟨its',r',⟨o',n',e',_,_,d'⟩,_⟩:=I.list h';rw [e] at e';cases e';rw [d] at d';injection d' with d1 _
 have:its=its':=by simpa using congrArg Array.toList d1
 subst this;exact r.inj r'
theorem n3.tuple_inj(I:n3 X pins σ H s)(h:SqT X.K H a xs)(h':SqT X.K H a ys):xs=ys:=by
 obtain⟨its,r,⟨o,e,_,n,d⟩,_⟩:=I.tuple h;obtain⟨its',r',⟨o',e',_,n',d'⟩,_⟩:=I.tuple h';rw [e] at e';cases e';rw [d] at d';injection d' with d1 _
 have:its=its':=by simpa using congrArg Array.toList d1
 subst this;exact r.inj r'
end
abbrev Cx.wish(X:Cx)(E:AA->AD->Prop):Cx:={X with xe:=E}
abbrev Cx.nox(X:Cx):Cx:=X.wish λ_ _=>False
theorem Cx.Ok.wish{X:Cx}(ok:X.Ok)(E:AA->AD->Prop):(X.wish E).Ok:=
 ⟨ok.mod,ok.kind,ok.glob,ok.blt,ok.above,ok.inj,ok.has,ok.cab,ok.hd,ok.frames,ok.stk,ok.exf,ok.bs,ok.bsz,ok.noex,ok.exfs,ok.funs,ok.frf⟩
theorem Cx.Ok.unwish{X:Cx}{E:AA->AD->Prop}(ok:(X.wish E).Ok):X.Ok:=
 ⟨ok.mod,ok.kind,ok.glob,ok.blt,ok.above,ok.inj,ok.has,ok.cab,ok.hd,ok.frames,ok.stk,ok.exf,ok.bs,ok.bsz,ok.noex,ok.exfs,ok.funs,ok.frf⟩
section
variable {X:Cx}{pins:List (AB×Obj)}{σ:St}{H:Hp}{s:AD}{E:AA->AD->Prop}
theorem n3.wish(I:n3 X pins σ H s)(E:AA->AD->Prop):n3 (X.wish E) pins σ H s:=⟨I.ok.wish E,I.os,I.bare,I.base,I.loc,I.cell,I.free,I.freeC,I.pin,I.hok,I.len⟩
theorem n3.unwish(I:n3 (X.wish E) pins σ H s):n3 X pins σ H s:=⟨I.ok.unwish,I.os,I.bare,I.base,I.loc,I.cell,I.free,I.freeC,I.pin,I.hok,I.len⟩
theorem SP.unwish{D:a3J}{f:Flow}{s':AD}(h:SP (X.wish E) pins D f s'):SP X pins D f s':=by
 cases f with
 |next=>obtain⟨σ',H',I,q⟩:=h;exact⟨σ',H',I.unwish,q⟩
 |brk=>obtain⟨σ',H',I,q⟩:=h;exact⟨σ',H',I.unwish,q⟩
 |cont=>obtain⟨σ',H',I,q⟩:=h;exact⟨σ',H',I.unwish,q⟩
 |ret u=>obtain⟨v,σ',H',I,r,q⟩:=h;exact⟨v,σ',H',I.unwish,r,q⟩
theorem PSs.nox{st:List Stmt}{t:TS}(h:PSs X.nox st t):PSs X st t:=λpins s σ H D I hw=>
 wpAny_mono (h pins s σ H D (I.wish _) hw) (λ_ _ q=>q.unwish) λ_ _ z=>False.elim z
end
section
variable {X:Cx}{st:Stmt}{rest:List Stmt}{t u:TS}{e:AG}{te:TE}{pos:Pos}
def c4e:TS:=λD σ H=>D.nx σ H
def c6p(t u:TS):TS:=λD σ H=>t {D with nx:=u D} σ H
theorem a0Z:PSs X [] c4e:=λ_ _ σ H _ I h=>wpAny_execs_nil ⟨σ,H,I,h⟩
theorem G8(h1:PS X st t)(h2:PSs X rest u):PSs X (st::rest) (c6p t u):=by
 intro pins s σ H D I h;refine wpAny_execs_cons (M8 (h1 pins s σ H {D with nx:=u D} I h) λf s1 q=> ?_)
 cases f with
 |next=>
  obtain⟨σ',H',I',q⟩:=q;exact h2 pins s1 σ' H' D I' q
 |ret v=>exact q
 |brk=>exact q
 |cont=>exact q
theorem c3k(h1:PS X st t):PSs X [st] t:=by
 intro pins s σ H D I h;refine wpAny_execs_cons (M8 (h1 pins s σ H D I h) λf s1 q=> ?_);cases f with
 |next=>exact wpAny_execs_nil q
 |ret v=>exact q
 |brk=>exact q
 |cont=>exact q
theorem n3.quiet{pins:List (AB×Obj)}{σ:St}{H:Hp}{s:AD}(I:n3 X pins σ H s):interactive X.env=false:=by simp [interactive,I.ok.kind]
def c6l(te:TE):TS:=λD σ H=>te σ H λ_ H1=>D.nx σ H1
theorem b7P(he:PE X e te)(hs:swapsWith e ζ pos.line X.env=pure false:=by rfl):PS X (.Expr e pos) (c6l te):=by
 intro pins s σ H D I h;exact wpAny_Expr_any (M8 (he pins s σ H _ I h) λv s1 h0=>v9 h0 λx H1 I1 r1 q1=>⟨σ,H1,I1,q1⟩) I.quiet hs
def c6Z(te:TE):TS:=λD σ H=>te σ H D.rt
theorem c1w(he:PE X e te):PS X (.Return (ξ e) pos) (c6Z te):=by
 intro pins s σ H D I h;exact wpAny_Return_some (M8 (he pins s σ H _ I h) λv s1 h0=>v9 h0 λx H1 I1 r1 q1=>⟨x,σ,H1,I1,r1,q1⟩)
def c6W(c:TT)(t u:TS):TS:=λD σ H=>c σ H λb H1=>if b=true then t D σ H1 else u D σ H1
theorem c6b{c:AG}{a b:List Stmt}{tc:TT}(hc:PT X c tc)(ha:PSs X a t)(hb:PSs X b u):PS X (.If c a b pos) (c6W tc t u):=by
 intro pins s σ H D I h;refine wpAny_If (M8 (hc pins s σ H _ I h) λd s1 ⟨H1,I1,q1⟩=> ?_);cases d with
 |true=>exact ha pins s1 σ H1 D I1 q1
 |false=>exact hb pins s1 σ H1 D I1 q1
def c5C:TS:=λ_ _ _=>False
theorem c1v:PS X st c5C:=λ_ _ _ _ _ _ h=>h.elim
end
abbrev TG:=V->St->Hp->(St->Hp->Prop)->Prop
abbrev TGs:=List V->St->Hp->(St->Hp->Prop)->Prop
def PG(X:Cx)(target:AG)(t:TG):Prop:=
 ∀(pins:List (AB×Obj)) (s:AD) (σ:St) (H:Hp) (v:V) (u:AA) (Q:St->Hp->Prop),n3 X pins σ H s->w6 v u->t v σ H Q->
  AH (model X.prog X.w) X.A (assign target X.env u) (λ_ s'=>∃σ' H',n3 X pins σ' H' s'/\Q σ' H') X.xe s
def PGs(X:Cx)(ts:List AG)(t:TGs):Prop:=
 ∀(pins:List (AB×Obj)) (s:AD) (σ:St) (H:Hp) (vs:List V) (us:List AA) (Q:St->Hp->Prop),n3 X pins σ H s->u9 vs us->t vs σ H Q->
  AH (model X.prog X.w) X.A (assignInOrder ((assignEach ts X.env).map (·.2)) us) (λ_ s'=>∃σ' H',n3 X pins σ' H' s'/\Q σ' H') X.xe s
section
variable {X:Cx}{pos:Pos}
def b4V(i:Nat):TG:=λv σ H Q=>Q (σ.set i (ξ v)) H
theorem r0{i:Nat}{x:Str}(hN:X.N.Nodup)(hi:X.N[i]?=ξ x)(hx:Loc X.env.scope x)(hf:X.fn x=true\/X.env.scope.names.lookup x=ξ .local:=by first|exact .inl rfl|exact .inr rfl|assumption):PG X (.Name x pos) (b4V i):=by
 intro pins s σ H v u Q I r h;exact wpAny_assign_Name (b5L I hN hi hx r (λs' I'=>⟨_,H,I',h⟩) hf)
def c5V:TGs:=λvs σ H Q=>vs=[]/\Q σ H
def c3X(t:TG)(u:TGs):TGs:=λvs σ H Q=>∃v r,vs=v::r/\t v σ H λσ' H'=>u r σ' H' Q
theorem b7N:PGs X [] c5V:=by
 intro pins s σ H vs us Q I r h;obtain⟨e,h⟩:=h;subst e;cases r;exact assignInOrder_nil ⟨σ,H,I,h⟩
theorem a7o{e:AG}{es:List AG}{t:TG}{u:TGs}(h1:PG X e t)(h2:PGs X es u)
 (hs:(assignEach (e::es) X.env).map (·.2)=assign e X.env::(assignEach es X.env).map (·.2):=by rfl):PGs X (e::es) (c3X t u):=by
 intro pins s σ H vs us Q I r h
 obtain⟨v,vr,e1,h⟩:=h
 subst e1
 cases r with
 |cons r rr=>
  rw [hs]
  refine assignInOrder_cons (M8 (h1 pins s σ H _ _ _ I r h) λ_ s1 ⟨σ1,H1,I1,q1⟩=> ?_)
  exact h2 pins s1 σ1 H1 _ _ Q I1 rr q1
def c4G(K:AE)(n:Nat)(t:TGs):TG:=λv σ H Q=>∃a xs,v= .ref a/\SqT K H a xs/\xs.length=n/\t xs σ H Q
theorem c1o{es:List AG}{k:Nat}{t:TGs}{n:Nat}(hc:X.calm=true)(h:PGs X es t)
 (hn:(assignEach es X.env).length=n:=by rfl) (hst:(assignEach es X.env).findIdx? (·.1)=ζ:=by rfl):PG X (.Tuple es k pos) (c4G X.K n t):=by
 intro pins s σ H v u Q I r hw
 obtain⟨a,xs,e1,hq,hl,hw⟩:=hw
 subst e1
 cases r
 obtain⟨its,rv,ht,hz⟩:=I.tuple hq
 refine assign_Tuple_tuple (I.ok.hd hc) ht (by simp [hn,<-hl,rv.length]) hst λh' hx=> ?_
 have I1:n3 X pins σ H {s with heap:=h'}:=I.kept (t':=s.toks) λb o e=>hx b o (Af (AU e)) e
 exact h pins _ σ H xs _ Q I1 (by simpa using rv) hw
def c6S(te:TE)(g:TG):TS:=λD σ H=>te σ H λx H1=>g x σ H1 D.nx
theorem c1x{i:Nat}{x:Str}{e:AG}{te:TE}{pos':Pos}(hN:X.N.Nodup)(hi:X.N[i]?=ξ x)(hx:Loc X.env.scope x)(he:PE X e te)(hs:swapsWith e (ξ (.Name x pos')) pos.line X.env=pure false:=by rfl)(hf:X.fn x=true\/X.env.scope.names.lookup x=ξ .local:=by first|exact .inl rfl|exact .inr rfl|assumption):
 PS X (.Assign [.Name x pos'] e pos) (c6S te (b4V i)):=by
 intro pins s σ H D I h
 refine wpAny_Assign_Name (M8 (he pins s σ H _ I h) λv s1 h0=>v9 h0 λy H1 I1 r1 q1=> ?_) hs
 exact b5L I1 hN hi hx r1 (λs2 I2=>⟨_,H1,I2,q1⟩) hf
end
structure It where
 go:Nat->Hp->Prop
 yld:Nat->Hp->V->Hp->Prop
 stop:Nat->Hp->Prop
def a5W(X:Cx)(pins:List (AB×Obj))(H:Hp)(b:AB):Prop:=
 H b=ζ/\b≠X.env.locals/\b∉X.fs/\(b∈X.ex\/X.s₀.heap.objs.size<=b)/\(∀x c,X.env.cells.lookup x=ξ c->c≠b)/\∀p∈X.pn++pins,p.1≠b
theorem n3.fpOk{X:Cx}{pins:List (AB×Obj)}{σ:St}{H H':Hp}{s:AD}{b:AB}(I:n3 X pins σ H s)(hb:s.heap.objs.size<=b)(hn:H' b=ζ):a5W X pins H' b:=by
 refine⟨hn,Nat.ne_of_gt (Aq I.lt hb),I.nofs hb,.inr (Nat.le_trans I.sz hb),λx c e z=> ?_,λp hp z=> ?_⟩
 ·obtain⟨v,q⟩:=I.cell x c e;exact absurd (Aq q.lt (by rw [z];exact hb)) (Nat.lt_irrefl _)
 ·exact absurd (Aq (AU (I.pin p hp).1) (by rw [z];exact hb)) (Nat.lt_irrefl _)
structure b4r(P:AJ)(w:AI)(K:AE)(tg:AG)(J:It)(fp:List AB)(it:AB)(tn:Nat->Heap->Prop):Prop where
 mem:it∈fp
 obj:∀i h,tn i h->∀b∈fp,∃o,h.get? b=ξ o/\∀v,o.data≠.cell v
 keep:∀i h h',tn i h->(∀b∈fp,∀o,h.get? b=ξ o->h'.get? b=ξ o)->tn i h'
 item:∀(X:Cx),X.prog=P->X.w=w->X.K=K->X.calm=true->∀(i:Nat) (pins:List (AB×Obj)) (s:AD) (σ:St) (H:Hp) (E:AA->AD->Prop),n3 X pins σ H s->(∀b∈fp,a5W X pins H b)->tn i s.heap->J.go i H->
  AH (model P w) X.A (pyNext (.ref it)) (λr s1=>∃u,r=ξ u/\
   AH (model P w) X.A (letOwnedTupleGo tg (.ref it) u) (λ_ s2=>∃x H',n3 X pins σ H' s2/\w6 x u/\J.yld i H x H'/\tn (i+1) s2.heap/\∀b∈fp,H' b=ζ) E s1) E s
 done:∀(X:Cx),X.prog=P->X.w=w->X.K=K->X.calm=true->∀(i:Nat) (pins:List (AB×Obj)) (s:AD) (σ:St) (H:Hp) (E:AA->AD->Prop),n3 X pins σ H s->(∀b∈fp,a5W X pins H b)->tn i s.heap->J.stop i H->
   AH (model P w) X.A (pyNext (.ref it)) (λr s1=>r=ζ/\n3 X pins σ H s1) E s
 self:∀(A:AK) (i:Nat) (s:AD) (Q:AA->AD->Prop) (E:AA->AD->Prop),tn i s.heap->Q (.ref it) s->AH (model P w) A (pyIter (.ref it)) Q E s
abbrev TI:=St->Hp->(It->Hp->Prop)->Prop
def PIE(X:Cx)(pins:List (AB×Obj))(σ:St)(tg:AG)(R:It->Hp->Prop)(itv:AA)(s2:AD):Prop:=
 ∃(it:AB) (fp:List AB) (tn:Nat->Heap->Prop) (J:It) (H':Hp),itv= .ref it/\n3 X pins σ H' s2/\b4r X.prog X.w X.K tg J fp it tn/\tn 0 s2.heap/\(∀b∈fp,a5W X pins H' b)/\R J H'
def PI(X:Cx)(tg iter:AG)(wi:TI):Prop:=
 ∀(pins:List (AB×Obj)) (s:AD) (σ:St) (H:Hp) (R:It->Hp->Prop),n3 X pins σ H s->wi σ H R->
  AH (model X.prog X.w) X.A (eval iter X.env) (λv s1=>AH (model X.prog X.w) X.A (pyIter v) (PIE X pins σ tg R) X.xe s1) X.xe s
theorem b7t{M:Model}{A:AK}{E:AA->AD->Prop}{s:AD}{tg:AG}{it:AB}{u:AA}{o:Obj}{n:String}{vs:Array AA}{Q:Unit->AD->Prop}(ho:s.heap.get? it=ξ o)(hc:o.cls= .type n)(hd:o.data= .fields vs)
 (hn:["enumerate","zip","dict_itemiterator","dict_reverseitemiterator","odict_iterator","itertools.zip_longest","itertools.pairwise"].contains n=false) (hQ:Q () s):AH M A (letOwnedTupleGo tg (.ref it) u) Q E s:=by
 unfold letOwnedTupleGo
 cases tg<;>first
  |exact AR hQ
  |(cases u<;>first
   |exact AR hQ
   |(refine AF (wpAny_load ho ?_)
     rw [hc,hd]
     show AH M A (if(["enumerate","zip","dict_itemiterator","dict_reverseitemiterator","odict_iterator","itertools.zip_longest","itertools.pairwise"].contains n && vs[0]?==ξ (rawInt _))=true then _ else _) Q E s
     rw [if_neg (by intro h;rw [hn,Bool.false_and] at h;cases h)]
     exact AR hQ))
def Itl(K:AE)(a:AB):It:=
 ⟨λi H=>∃xs x,SqL K H a xs/\xs[i]?=ξ x,λi H x H'=>H'=H/\∀xs,SqL K H a xs->xs[i]?=ξ x,λi H=>∃xs,SqL K H a xs/\xs.length<=i⟩
def Itt(K:AE)(a:AB):It:=
 ⟨λi H=>∃xs x,SqT K H a xs/\xs[i]?=ξ x,λi H x H'=>H'=H/\∀xs,SqT K H a xs->xs[i]?=ξ x,λi H=>∃xs,SqT K H a xs/\xs.length<=i⟩
def Itr(lo:Int)(n:Nat):It:=⟨λi _=>i<n,λi H x H'=>H'=H/\x= .int (lo+i),λi _=>n<=i⟩
theorem b9y{P:AJ}{w:AI}{K:AE}{tg:AG}(a it:AB):b4r P w K tg (Itl K a) [it] it (λi h=>h.IsListIter it a i) where
 mem:=by simp
 obj:=λi h st b hb=>by
  have e:b=it:=by simpa using hb
  subst e
  ext k
 keep:=λi h h' st k=>st.at λo e=>k it (by simp) o e
 item:=by
  ext i
  obtain⟨xs,x,hq,hx⟩:=hg;obtain⟨its,rv,p,hz⟩:=I.list hq;obtain⟨u,hu,ru⟩:=rv.get hx
  ext m
  refine wpAny_pyNext_list_item st p.isList (x:=u) (by simpa using hu) λh' st' sb=> ?_
  have I1:n3 X pins σ H {s with heap:=h'}:=I.turned (t':=s.toks) (λb o hb e=>(sb.2 b hb).trans e) f0 f1 f3 f4 f5
  obtain⟨o,e,c,d⟩:=id st';exact⟨u,rfl,b7t (s:={s with heap:=h'}) e c d (by decide) ⟨x,H,I1,ru,⟨rfl,λys hy=>by rw [I.list_inj hy hq];exact hx⟩,st',λb hb=>(hf b hb).1⟩⟩
 done:=by
   ext i
   obtain⟨xs,hq,hx⟩:=hg;obtain⟨its,rv,p,hz⟩:=I.list hq
   ext m
   have hl:=rv.length;exact wpAny_pyNext_list_end (I.ok.hd hc) st p.isList (by simp;lia) λh' eb=>⟨rfl,I.turned (t':=s.toks) (λb o hb e=>eb b o hb e) f0 f1 f3 f4 f5⟩
 self:=λ_ _ _ _ _ st h=>wpAny_pyIter_listiter st h
theorem b63{P:AJ}{w:AI}{K:AE}{tg:AG}(a it:AB):b4r P w K tg (Itt K a) [it] it (λi h=>h.IsTupleIter it a i) where
 mem:=by simp
 obj:=λi h st b hb=>by
  have e:b=it:=by simpa using hb
  subst e
  ext k
 keep:=λi h h' st k=>st.at λo e=>k it (by simp) o e
 item:=by
  ext i
  obtain⟨xs,x,hq,hx⟩:=hg;obtain⟨its,rv,p,hz⟩:=I.tuple hq;obtain⟨u,hu,ru⟩:=rv.get hx
  ext m
  refine wpAny_pyNext_tuple_item st (show s.heap.IsTuple a its.toArray from p) (x:=u) (by simpa using hu) λh' st' sb=> ?_
  have I1:n3 X pins σ H {s with heap:=h'}:=I.turned (t':=s.toks) (λb o hb e=>(sb.2 b hb).trans e) f0 f1 f3 f4 f5
  obtain⟨o,e,c,d⟩:=id st';exact⟨u,rfl,b7t (s:={s with heap:=h'}) e c d (by decide) ⟨x,H,I1,ru,⟨rfl,λys hy=>by rw [I.tuple_inj hy hq];exact hx⟩,st',λb hb=>(hf b hb).1⟩⟩
 done:=by
   ext i
   obtain⟨xs,hq,hx⟩:=hg;obtain⟨its,rv,p,hz⟩:=I.tuple hq
   ext m
   have hl:=rv.length;exact wpAny_pyNext_tuple_end (I.ok.hd hc) st (show s.heap.IsTuple a its.toArray from p) (by simp;lia) λh' eb=>⟨rfl,I.turned (t':=s.toks) (λb o hb e=>eb b o hb e) f0 f1 f3 f4 f5⟩
 self:=λ_ _ _ _ _ st h=>wpAny_pyIter_tupleiter st h
theorem b62{P:AJ}{w:AI}{K:AE}{tg:AG}(it:AB)(lo:Int)(n:Nat):b4r P w K tg (Itr lo n) [it] it (λi h=>IsRangeIter h it (lo+(i:Nat)*1) ((n:Int) - (i:Nat)) 1) where
 mem:=by simp
 obj:=λi h st b hb=>by
  have e:b=it:=by simpa using hb
  subst e;exact⟨_,st,λv z=>by
   have z':Data.fields _=Data.cell v:=z;cases z'⟩
 keep:=λi h h' st k=>k it (by simp) _ st
 item:=by
  ext i
  ext m
  have W:=Walks.range (prog:=X.prog) (w:=X.w) (I.ok.hd hc) it lo 1 n;refine W.item i s _ _ hg st λv h' tk hv st' kk=> ?_;obtain⟨t,rfl⟩:=hv;have I1:n3 X pins σ H {s with heap:=h',toks:=tk}:=I.turned (λb o hb e=>kk b o (by simpa using hb) e) f0 f1 f3 f4 f5
  refine⟨_,rfl,b7t (s:={s with heap:=h',toks:=tk}) (n:="range_iterator") st' rfl rfl (by decide) ⟨.int (lo+i),H,I1,⟨t, ?_⟩,⟨rfl,rfl⟩,st',λb hb=>(hf b hb).1⟩⟩
  rw [Int.mul_one]
 done:=by
   ext i
   ext m
   exact wpAny_pyNext_range_end (I.ok.hd hc) st (by have:n<=i:=hg;lia) λh' eb=>⟨rfl,I.turned (t':=s.toks) (λb o hb e=>eb b o hb e) f0 f1 f3 f4 f5⟩
 self:=λ_ _ _ _ _ st h=>wpAny_pyIter_rangeiter st h
section
variable {X:Cx}{tg:AG}
theorem b5y{pins:List (AB×Obj)}{σ:St}{H:Hp}{s:AD}{R:It->Hp->Prop}{E:AA->AD->Prop}{lo hi:Int}{t u v:Tok}{tk:Nat}(I:n3 X pins σ H s)(h1: -(2 ^ 62)<=lo)(h2:lo<2 ^ 62)(h3: -(2 ^ 62)<=hi)(h4:hi<2 ^ 62)
 (q:R (Itr lo (hi - lo).toNat) H):AH (model X.prog X.w) X.A (pyIter (.ref s.heap.objs.size)) (PIE X pins σ tg R) E {s with heap:=s.heap.push {cls:= .type "range",data:= .fields #[.int lo t,.int hi u,.int 1 v]},toks:=tk}:=by
 refine wpAny_pyIter_range (IsRange.new ..) (small_one h1 h2 h3 h4) ?_
 have I1:n3 X pins σ H {s with heap:=s.heap.push {cls:= .type "range",data:= .fields #[.int lo t,.int hi u,.int 1 v]},toks:=tk}:=I.kept λb o e=>AV _ e
 refine⟨(s.heap.push {cls:= .type "range",data:= .fields #[.int lo t,.int hi u,.int 1 v]}).objs.size,[(s.heap.push {cls:= .type "range",data:= .fields #[.int lo t,.int hi u,.int 1 v]}).objs.size],_,_,H,rfl,
  I1.kept (t':=tk) λb o e=>AV _ e,b62 _ lo (hi - lo).toNat, ?_,λb hb=> ?_,q⟩
 ·have e1:lo+((0:Nat):Int)*1=lo:=by simp
  have e2:(((hi - lo).toNat:Nat):Int) - ((0:Nat):Int)=Builtin.Range.rangeSize lo hi 1:=by rw [rangeSize_one];split<;>lia
  show IsRangeIter _ _ (lo+((0:Nat):Int)*1) ((((hi - lo).toNat:Nat):Int) - ((0:Nat):Int)) 1
  rw [e1,e2]
  exact Ae _ rfl
 ·have e:b=(s.heap.push {cls:= .type "range",data:= .fields #[.int lo t,.int hi u,.int 1 v]}).objs.size:=by simpa using hb
  subst e
  exact I1.fpOk (AS _) (I1.hok.fresh (AS _))
def c5W(ta:TA):TI:=λσ H R=>ta σ H λvs H1=>∃j:Int,vs=[.int j]/\ -(2 ^ 62)<=j/\j<2 ^ 62/\R (Itr 0 j.toNat) H1
def c5X(ta:TA):TI:=λσ H R=>ta σ H λvs H1=>∃i j:Int,vs=[.int i,.int j]/\(-(2 ^ 62)<=i/\i<2 ^ 62/\ -(2 ^ 62)<=j/\j<2 ^ 62)/\R (Itr i (j - i).toNat) H1
theorem b2x{a:AG}{ta:TA}{p pos:Pos}(hg:Gl X "range")(hm:X.mg "range"=ζ)(ha:PA X [a] ta)(hs:AL [a] X.env=[(false,eval a X.env)]:=by rfl):PI X tg (.Call (.Name "range" p) [a] [] pos) (c5W ta):=by
 intro pins s σ H R I h;refine Call_ (a18 I hg hm boot_range (PyProof.Rows.callWith_type1 (M8 (ha pos pins s σ H _ I h) λus s1 h0=>v9 h0 λvs H1 I1 r1 q1=> ?_) hs rfl));obtain⟨j,e,q1,q2,q⟩:=q1;subst e;cases r1 with
 |cons r rr=>
  cases rr;obtain⟨t,rfl⟩:=r;exact call_range_1 (b5y I1 (by lia) (by lia) q1 q2 (by simpa using q))
theorem b9f{a b:AG}{ta:TA}{p pos:Pos}(hg:Gl X "range")(hm:X.mg "range"=ζ)(ha:PA X [a,b] ta)(hs:AL [a,b] X.env=[(false,eval a X.env),(false,eval b X.env)]:=by rfl)(hs2:AL [b] X.env=[(false,eval b X.env)]:=by rfl):
 PI X tg (.Call (.Name "range" p) [a,b] [] pos) (c5X ta):=by
 intro pins s σ H R I h
 refine Call_ (a18 I hg hm boot_range (PyProof.Rows.callWith_type1 (M8 (ha pos pins s σ H _ I h) λus s1 h0=>v9 h0 λvs H1 I1 r1 q1=> ?_) (by rw [hs,hs2]) (by rw [hs2];rfl)))
 obtain⟨i,j,e,⟨q1,q2,q3,q4⟩,q⟩:=q1
 subst e
 cases r1 with
 |cons r rr=>
  cases rr with
  |cons r' rr=>
   cases rr
   obtain⟨t,rfl⟩:=r
   obtain⟨t',rfl⟩:=r'
   exact call_range_2 (b5y I1 q1 q2 q3 q4 q)
def c6V(wi:TI)(g:TG)(tb:TS):TS:=λD σ H=>wi σ H λJ H1=>∃W:Nat->Nat->St->Hp->Prop,(∃m,W 0 m σ H1)/\∀i m σ H,W i m σ H->
 (J.stop i H/\D.nx σ H)\/(J.go i H/\∃N:St->Hp->Prop,(∀σ' H',N σ' H'->∃m',m'<m/\W (i+1) m' σ' H')/\∀x H',J.yld i H x H'->g x σ H' λσ2 H2=>tb {D with nx:=N,ct:=N,bk:=D.nx} σ2 H2)
def b0v(fp:List AB)(h:Heap):List (AB×Obj):=fp.filterMap λb=>(h.get? b).map λo=>(b,o)
theorem a3c{fp:List AB}{h:Heap}{b:AB}{o:Obj}(hb:b∈fp)(e:h.get? b=ξ o):(b,o)∈b0v fp h:=List.mem_filterMap.mpr ⟨b,hb,by rw [e];rfl⟩
theorem b86{fp:List AB}{h:Heap}{p:AB×Obj}(hp:p∈b0v fp h):p.1∈fp/\h.get? p.1=ξ p.2:=by
 obtain⟨b,hb,e⟩:=List.mem_filterMap.mp hp;cases q:h.get? b with
 |none=>rw [q] at e;cases e
 |some o=>
  rw [q] at e;have e':(b,o)=p:=Option.some.inj e;subst e';exact⟨hb,q⟩
theorem n3.pinned{pins:List (AB×Obj)}{σ:St}{H:Hp}{s:AD}{fp:List AB}(I:n3 X pins σ H s)(hf:∀b∈fp,a5W X pins H b)(ho:∀b∈fp,∃o,s.heap.get? b=ξ o/\∀v,o.data≠.cell v):n3 X (pins++b0v fp s.heap) σ H s:=
 I.pins_of λp hp=>(Ax.mp hp).elim (λz=>I.pin p (At _ z)) λz=>by
  obtain⟨hb,e⟩:=b86 z;obtain⟨f0,f1,f2,_⟩:=hf p.1 hb;obtain⟨o,e',d⟩:=ho p.1 hb;rw [e] at e';cases e';exact⟨e,f0,f1,f2,d⟩
theorem n3.unpinned{pins pl:List (AB×Obj)}{σ:St}{H:Hp}{s:AD}(I:n3 X (pins++pl) σ H s):n3 X pins σ H s:=I.pins_of λp hp=>I.pin p (At _ (List.mem_append_left _ hp))
theorem b34{iter:AG}{body:List Stmt}{wi:TI}{g:TG}{tb:TS}{pos:Pos}(hp:PassesOwn (model X.prog X.w) X.A X.env X.xe)(hc:X.calm=true)(hi:PI X tg iter wi)(hg:PG X tg g)(hb:PSs X body tb)
 (hs:∀x,foldedSetIterable iter X.env x=pure x:=by intro _;rfl):PS X (.For tg iter body [] pos) (c6V wi g tb):=by
 intro pins s σ H D I h
 refine wpAny_For (M8 (hi pins s σ H _ I h) λv s1 h1=>M8 h1 λitv s2 h2=> ?_) hs
 obtain⟨it,fp,tn,J,H2,e,I2,T,st2,f2,W,⟨m0,w0⟩,turn⟩:=h2
 subst e
 have stat:∀{H':Hp},(∀b∈fp,H' b=ζ)->∀b∈fp,a5W X pins H' b:=λhn b hb=>⟨hn b hb,(f2 b hb).2⟩
 refine codeAny_forLoop_any (λn s'=>∃i σ' H',n3 X pins σ' H' s'/\tn i s'.heap/\(∀b∈fp,H' b=ζ)/\W i n σ' H') ?_ m0 ⟨0,σ,H2,I2,st2,λb hb=>(f2 b hb).1,w0⟩
 rintro n s3 ⟨i,σ3,H3,I3,st3,fr3,w3⟩
 rcases turn i n σ3 H3 w3 with⟨stop,qn⟩|⟨go,N,hN,step⟩
 ·refine wpAny_passesOwn hp (M8 (T.done X rfl rfl rfl hc i pins s3 σ3 H3 X.xe I3 (stat fr3) st3 stop) λr s4 ⟨hr,I4⟩=> ?_)
  subst hr
  exact wpAny_execs_nil ⟨σ3,H3,I4,qn⟩
 ·refine wpAny_passesOwn hp (M8 (T.item X rfl rfl rfl hc i pins s3 σ3 H3 X.xe I3 (stat fr3) st3 go) λr s4 ⟨u,hr,h4⟩=> ?_)
  subst hr
  refine wpAny_passesOwn hp (M8 h4 λ_ s5 ⟨x,H5,I5,r5,y5,st5,fr5⟩=> ?_)
  have I5':=I5.pinned (stat fr5) (T.obj _ _ st5)
  refine wpAny_passesOwn hp (M8 (hg _ s5 σ3 H5 x u _ I5' r5 (step x H5 y5)) λ_ s6 ⟨σ6,H6,I6,q6⟩=> ?_)
  refine wpAny_passesOwn hp (M8 (hb _ s6 σ6 H6 _ I6 q6) λf s7 q7=> ?_)
  have again:∀{σ7:St} {H7:Hp},n3 X (pins++b0v fp s5.heap) σ7 H7 s7->N σ7 H7->∃m,m<n/\∃i σ' H',n3 X pins σ' H' s7/\tn i s7.heap/\(∀b∈fp,H' b=ζ)/\W i m σ' H':=λ {σ7 H7} I7 n7=>by
   obtain⟨m',hm,w7⟩:=hN σ7 H7 n7;refine⟨m',hm,i+1,σ7,H7,I7.unpinned,T.keep _ _ _ st5 λb hb o e=>(I7.pin (b,o) (At _ (At _ (a3c hb e)))).1,λb hb=> ?_,w7⟩;obtain⟨o,e,d⟩:=T.obj _ _ st5 b hb;exact(I7.pin (b,o) (At _ (At _ (a3c hb e)))).2.1
  cases f with
  |next=>obtain⟨σ7,H7,I7,n7⟩:=q7;exact again I7 n7
  |cont=>obtain⟨σ7,H7,I7,n7⟩:=q7;exact again I7 n7
  |brk=>obtain⟨σ7,H7,I7,q7⟩:=q7;exact⟨σ7,H7,I7.unpinned,q7⟩
  |ret v=>obtain⟨x7,σ7,H7,I7,r7,q7⟩:=q7;exact⟨x7,σ7,H7,I7.unpinned,r7,q7⟩
end
theorem c0l{K:AE}{a:AB}{xs:List V}{g:TG}{tb:TS}{D:a3J}{σ:St}{H:Hp}(Pv:Nat->St->Hp->Prop)(h0:Pv 0 σ H)(hl:∀i σ H,i<=xs.length->Pv i σ H->SqL K H a xs)
 (hs:∀i x σ H,xs[i]?=ξ x->Pv i σ H->g x σ H λσ2 H2=>tb {D with nx:=Pv (i+1),ct:=Pv (i+1),bk:=D.nx} σ2 H2) (hd:∀σ H,Pv xs.length σ H->D.nx σ H):
 ∃W:Nat->Nat->St->Hp->Prop,(∃m,W 0 m σ H)/\∀i m σ H,W i m σ H->
  ((Itl K a).stop i H/\D.nx σ H)\/((Itl K a).go i H/\∃N:St->Hp->Prop,(∀σ' H',N σ' H'->∃m',m'<m/\W (i+1) m' σ' H')/\∀x H',(Itl K a).yld i H x H'->g x σ H' λσ2 H2=>tb {D with nx:=N,ct:=N,bk:=D.nx} σ2 H2):=by
 refine⟨λi m σ H=>m=xs.length - i/\i<=xs.length/\Pv i σ H,⟨xs.length,by simp,Nat.zero_le _,h0⟩, ?_⟩
 rintro i m σ H ⟨rfl,hi,p⟩
 have q:=hl i σ H hi p
 by_cases hlt:i<xs.length
 ·refine .inr ⟨⟨xs,xs[i],q,by simp [hlt]⟩,Pv (i+1),λσ' H' p'=>⟨xs.length - (i+1),by lia,rfl,hlt,p'⟩,λx H' y=> ?_⟩
  obtain⟨e,y⟩:=y
  subst e
  exact hs i x σ _ (y xs q) p
 ·have e:i=xs.length:=by lia
  subst e
  exact .inl ⟨⟨xs,q,AS _⟩,hd σ H p⟩
theorem c2x{K:AE}{a:AB}{xs:List V}{g:TG}{tb:TS}{D:a3J}{σ:St}{H:Hp}(Pv:Nat->St->Hp->Prop)(h0:Pv 0 σ H)(hl:∀i σ H,i<=xs.length->Pv i σ H->SqT K H a xs)
 (hs:∀i x σ H,xs[i]?=ξ x->Pv i σ H->g x σ H λσ2 H2=>tb {D with nx:=Pv (i+1),ct:=Pv (i+1),bk:=D.nx} σ2 H2) (hd:∀σ H,Pv xs.length σ H->D.nx σ H):
 ∃W:Nat->Nat->St->Hp->Prop,(∃m,W 0 m σ H)/\∀i m σ H,W i m σ H->
  ((Itt K a).stop i H/\D.nx σ H)\/((Itt K a).go i H/\∃N:St->Hp->Prop,(∀σ' H',N σ' H'->∃m',m'<m/\W (i+1) m' σ' H')/\∀x H',(Itt K a).yld i H x H'->g x σ H' λσ2 H2=>tb {D with nx:=N,ct:=N,bk:=D.nx} σ2 H2):=by
 refine⟨λi m σ H=>m=xs.length - i/\i<=xs.length/\Pv i σ H,⟨xs.length,by simp,Nat.zero_le _,h0⟩, ?_⟩
 rintro i m σ H ⟨rfl,hi,p⟩
 have q:=hl i σ H hi p
 by_cases hlt:i<xs.length
 ·refine .inr ⟨⟨xs,xs[i],q,by simp [hlt]⟩,Pv (i+1),λσ' H' p'=>⟨xs.length - (i+1),by lia,rfl,hlt,p'⟩,λx H' y=> ?_⟩
  obtain⟨e,y⟩:=y
  subst e
  exact hs i x σ _ (y xs q) p
 ·have e:i=xs.length:=by lia
  subst e
  exact .inl ⟨⟨xs,q,AS _⟩,hd σ H p⟩
theorem b2h{lo:Int}{n:Nat}{g:TG}{tb:TS}{D:a3J}{σ:St}{H:Hp}(Pv:Nat->St->Hp->Prop)(h0:Pv 0 σ H)
 (hs:∀i σ H,i<n->Pv i σ H->g (.int (lo+i)) σ H λσ2 H2=>tb {D with nx:=Pv (i+1),ct:=Pv (i+1),bk:=D.nx} σ2 H2) (hd:∀σ H,Pv n σ H->D.nx σ H):
 ∃W:Nat->Nat->St->Hp->Prop,(∃m,W 0 m σ H)/\∀i m σ H,W i m σ H->
  ((Itr lo n).stop i H/\D.nx σ H)\/((Itr lo n).go i H/\∃N:St->Hp->Prop,(∀σ' H',N σ' H'->∃m',m'<m/\W (i+1) m' σ' H')/\∀x H',(Itr lo n).yld i H x H'->g x σ H' λσ2 H2=>tb {D with nx:=N,ct:=N,bk:=D.nx} σ2 H2):=by
 refine⟨λi m σ H=>m=n - i/\i<=n/\Pv i σ H,⟨n,by simp,Nat.zero_le _,h0⟩, ?_⟩
 rintro i m σ H ⟨rfl,hi,p⟩
 by_cases hlt:i<n
 ·refine .inr ⟨hlt,Pv (i+1),λσ' H' p'=>⟨n - (i+1),by lia,rfl,hlt,p'⟩,λx H' y=> ?_⟩
  obtain⟨e,y⟩:=y
  subst e y
  exact hs i σ _ hlt p
 ·have e:i=n:=by lia
  subst e
  exact .inl ⟨AS _,hd σ H p⟩
abbrev R2:=V->V->Hp->VK->Prop
def OpR(X:Cx)(f:AA->AA->Sem AA)(r:R2):Prop:=
 ∀(pins:List (AB×Obj)) (s:AD) (σ:St) (H:Hp) (x y:V) (v u:AA) (Q:VK),n3 X pins σ H s->w6 x v->w6 y u->r x y H Q->
  AH (model X.prog X.w) X.A (f v u) (EP X pins σ Q) X.xe s
def UnR(X:Cx)(f:AA->Sem AA)(r:V->Hp->VK->Prop):Prop:=
 ∀(pins:List (AB×Obj)) (s:AD) (σ:St) (H:Hp) (x:V) (v:AA) (Q:VK),n3 X pins σ H s->w6 x v->r x H Q->
  AH (model X.prog X.w) X.A (f v) (EP X pins σ Q) X.xe s
def T5(X:Cx)(f:AA)(r:List V->Hp->VK->Prop):Prop:=
 ∀(pins:List (AB×Obj)) (s:AD) (σ:St) (H:Hp) (xs:List V) (us:List AA) (Q:VK),n3 X pins σ H s->u9 xs us->r xs H Q->
  AH (model X.prog X.w) X.A (call f us) (EP X pins σ Q) X.xe s
def c6A(X:Cx)(r:V->Hp->(Bool->Hp->Prop)->Prop):Prop:=
 ∀(pins:List (AB×Obj)) (s:AD) (σ:St) (H:Hp) (x:V) (v:AA) (Q:Bool->Hp->Prop),n3 X pins σ H s->w6 x v->r x H Q->
  AH (model X.prog X.w) X.A (truthy v) (TP X pins σ Q) X.xe s
def tOp(r:R2)(ta tb:TE):TE:=λσ H Q=>ta σ H λx H1=>tb σ H1 λy H2=>r x y H2 Q
def tUn(r:V->Hp->VK->Prop)(ta:TE):TE:=λσ H Q=>ta σ H λx H1=>r x H1 Q
def rI(C:Int->Int->Prop)(g:Int->Int->V):R2:=λx y H Q=>∃i j,x= .int i/\y= .int j/\C i j/\Q (g i j) H
def rI0(g:Int->Int->V):R2:=λx y H Q=>∃i j,x= .int i/\y= .int j/\Q (g i j) H
def rU(g:Int->V):V->Hp->VK->Prop:=λx H Q=>∃i,x= .int i/\Q (g i) H
section
variable {X:Cx}{a b c:AG}{ta tb tc:TE}{pos:Pos}
theorem c4l(ha:PE X a ta)(hb:PE X b tb){pins:List (AB×Obj)}{s:AD}{σ:St}{H:Hp}{R:V->V->Hp->Prop}(I:n3 X pins σ H s)
 (h:ta σ H λx H1=>tb σ H1 λy H2=>R x y H2) {Q:AA->AD->Prop} {f:AA->AA->Sem AA}
 (hf:∀v u s2 x y H2,n3 X pins σ H2 s2->w6 x v->w6 y u->R x y H2->AH (model X.prog X.w) X.A (f v u) Q X.xe s2):
 AH (model X.prog X.w) X.A (eval a X.env) (λv s₁=>AH (model X.prog X.w) X.A (eval b X.env) (λu s₂=>AH (model X.prog X.w) X.A (f v u) Q X.xe s₂) X.xe s₁) X.xe s:=by
 refine M8 (ha pins s σ H _ I h) λv s1 h0=>v9 h0 λx H1 I1 r1 q1=> ?_
 refine M8 (hb pins s1 σ H1 _ I1 q1) λu s2 h0=>v9 h0 λy H2 I2 r2 q2=> ?_
 exact hf v u s2 x y H2 I2 r1 r2 q2
theorem c59{op:Operator}{r:R2}(ho:OpR X (binaryOp op) r)(ha:PE X a ta)(hb:PE X b tb):PE X (.BinOp a op b pos) (tOp r ta tb):=by
 ext n
 exact wpAny_BinOp (c4l ha hb I h λv u s2 x y H2 I2 rx ry q=>ho pins s2 σ H2 x y v u Q I2 rx ry q)
theorem c6a{op:UnaryOp}{r:V->Hp->VK->Prop}(ho:UnR X (unaryOp op) r)(ha:PE X a ta):PE X (.UnaryOp op a pos) (tUn r ta):=by
 ext n
 exact UnaryOp_ (M8 (ha pins s σ H _ I h) λv s1 h0=>v9 h0 λx H1 I1 r1 q1=>ho pins s1 σ H1 x v Q I1 r1 q1)
theorem opI{f:AA->AA->Sem AA}{C:Int->Int->Prop}{g:Int->Int->Int}
 (rule:∀(i j:Int) (t u:Tok) (s:AD) (Q:AA->AD->Prop) (E:AA->AD->Prop),C i j->Q (.int (g i j) s.toks) {s with toks:=s.toks+1}->AH (model X.prog X.w) X.A (f (.int i t) (.int j u)) Q E s):
 OpR X f (rI C λi j=> .int (g i j)):=by
 intro pins s σ H x y v u Q I rx ry h
 obtain⟨i,j,rfl,rfl,hc,q⟩:=h
 obtain⟨t,rfl⟩:=rx
 obtain⟨t',rfl⟩:=ry
 exact rule i j t t' s _ _ hc ⟨.int (g i j),H,I.tok _,⟨_,rfl⟩,q⟩
theorem c52{f:AA->AA->Sem AA}{g:Int->Int->Int}
 (rule:∀(i j:Int) (t u:Tok) (s:AD) (Q:AA->AD->Prop) (E:AA->AD->Prop),Q (.int (g i j) s.toks) {s with toks:=s.toks+1}->AH (model X.prog X.w) X.A (f (.int i t) (.int j u)) Q E s):
 OpR X f (rI0 λi j=> .int (g i j)):=by
 intro pins s σ H x y v u Q I rx ry h
 obtain⟨i,j,rfl,rfl,q⟩:=h
 obtain⟨t,rfl⟩:=rx
 obtain⟨t',rfl⟩:=ry
 exact rule i j t t' s _ _ ⟨.int (g i j),H,I.tok _,⟨_,rfl⟩,q⟩
theorem c4Y{f:AA->AA->Sem AA}{g:Int->Int->Bool}
 (rule:∀(i j:Int) (t u:Tok) (s:AD) (Q:AA->AD->Prop) (E:AA->AD->Prop),Q (.bool (g i j)) s->AH (model X.prog X.w) X.A (f (.int i t) (.int j u)) Q E s):
 OpR X f (rI0 λi j=> .bl (g i j)):=by
 intro pins s σ H x y v u Q I rx ry h
 obtain⟨i,j,rfl,rfl,q⟩:=h
 obtain⟨t,rfl⟩:=rx
 obtain⟨t',rfl⟩:=ry
 exact rule i j t t' s _ _ ⟨.bl (g i j),H,I,rfl,q⟩
def b0T(i j:Int):Prop:=0<j/\j<1073741824
def b78(i j:Int):Prop:=0<=j/\j<=1000000/\i.natAbs<2 ^ 64
def b5Q(i j:Int):Prop:=(-(2 ^ 64)<i/\i<2 ^ 64)\/(-(2 ^ 64)<j/\j<2 ^ 64)
theorem b5Q.ok{i j:Int}(h:b5Q i j):IntMulOk i j:=by
 rcases h with⟨h1,h2⟩|⟨h1,h2⟩
 ·exact .of_left (intBits_le_64 h1 h2)
 ·exact .of_right (intBits_le_64 h1 h2)
theorem c4Z:OpR X (binaryOp .Add) (rI0 λi j=> .int (i+j)):=c52 λ_ _ _ _ _ _ _ q=>add_int q
theorem c46:OpR X (binaryOp .Sub) (rI0 λi j=> .int (i - j)):=c52 λ_ _ _ _ _ _ _ q=>sub_int q
theorem c43:OpR X (binaryOp .Mult) (rI b5Q λi j=> .int (i*j)):=opI λ_ _ _ _ _ _ _ hc q=>mul_int q hc.ok
theorem c23:OpR X (binaryOp .FloorDiv) (rI b0T λi j=> .int (i / j)):=opI λi j _ _ _ _ _ hc q=>by
 have h1:(0:Int)<j:=hc.1;have h2:j<1073741824:=hc.2;exact floordiv_int (by lia) (by rw [Int.fdiv_eq_ediv_of_nonneg i (by lia)];exact q) (.inl (PyProof.noPylong_small (by lia)))
theorem c42:OpR X (binaryOp .Mod) (rI (λ_ j=>0<j) λi j=> .int (i % j)):=opI λi j _ _ _ _ _ hc q=>by
 have h1:(0:Int)<j:=hc;exact mod_int' (by lia) (by rw [Int.fmod_eq_emod_of_nonneg i (by lia)];exact q)
theorem c44:OpR X (binaryOp .Pow) (rI b78 λi j=> .int (i ^ j.toNat)):=opI λ_ _ _ _ _ _ _ hc q=>pow_int_small hc.1 hc.2.1 hc.2.2 q
theorem unI{f:AA->Sem AA}{g:Int->Int}
 (rule:∀(i:Int) (t:Tok) (s:AD) (Q:AA->AD->Prop) (E:AA->AD->Prop),Q (.int (g i) s.toks) {s with toks:=s.toks+1}->AH (model X.prog X.w) X.A (f (.int i t)) Q E s):
 UnR X f (rU λi=> .int (g i)):=by
 intro pins s σ H x v Q I rx h
 obtain⟨i,rfl,q⟩:=h
 obtain⟨t,rfl⟩:=rx
 exact rule i t s _ _ ⟨.int (g i),H,I.tok _,⟨_,rfl⟩,q⟩
theorem c5I:UnR X (unaryOp .USub) (rU λi=> .int (-i)):=unI λ_ _ _ _ _ q=>neg_int q
theorem b6l{pins:List (AB×Obj)}{σ:St}{H:Hp}{s:AD}{Q:VK}{k k':Bool}(I:n3 X pins σ H s)(q:Q (.bl k) H)(e:k=k'):EP X pins σ Q (.bool k') s:=by
 subst e;exact⟨.bl k,H,I,rfl,q⟩
theorem c55:OpR X (compareOp .Lt) (rI0 λi j=> .bl (decide (i<j))):=c4Y λ_ _ _ _ _ _ _ q=>lt_int q
theorem c54:OpR X (compareOp .LtE) (rI0 λi j=> .bl (decide (i<=j))):=c4Y λ_ _ _ _ _ _ _ q=>le_int q
theorem c53:OpR X (compareOp .Gt) (rI0 λi j=> .bl (decide (j<i))):=c4Y λ_ _ _ _ _ _ _ q=>gt_int q
theorem b9c:OpR X (compareOp .Lt) (λx y H Q=>∃i j,x= .str i/\y= .str j/\Q (.bl (decide (i.cps.toList<j.cps.toList))) H):=by
 ext o
 obtain⟨i,j,rfl,rfl,q⟩:=h
 ext v
 exact lt_str (b6l I q rfl)
theorem b9b:OpR X (compareOp .In) (λx y H Q=>∃i j,x= .str i/\y= .str j/\Q (.bl (!(Builtin.Str.occurrences j i 0 j.length 1).isEmpty)) H):=by
 ext o
 obtain⟨i,j,rfl,rfl,q⟩:=h
 ext v
 exact in_str (b6l I q rfl)
theorem c41:OpR X (compareOp .Is) (λx y H Q=>y= .non/\Q (.bl (decide (x= .non))) H):=by
 ext o
 obtain⟨rfl,q⟩:=h;cases ry;refine is_none_gen (b6l I q ?_);cases x<;>first
  |(cases rx;rfl)
  |(obtain⟨t,rfl⟩:=rx;rfl)
theorem c3c{op:CmpOp}{r:R2}(ho:OpR X (compareOp op) r)(ha:PE X a ta)(hb:PE X b tb)(hm:behindInMarks op b=false):PE X (.Compare a [op] [b] pos) (tOp r ta tb):=by
 ext n
 exact wpAny_Compare1 (c4l ha hb I h λv u s2 x y H2 I2 rx ry q=>ho pins s2 σ H2 x y v u Q I2 rx ry q) hm
def c6q(t:TE):TT:=λσ H Q=>t σ H λx H'=>∃k,x= .bl k/\Q k H'
theorem c3l{op:CmpOp}{r:R2}(ho:OpR X (compareOp op) r)(ha:PE X a ta)(hb:PE X b tb)(hm:behindInMarks op b=false):PT X (.Compare a [op] [b] pos) (c6q (tOp r ta tb)):=by
 ext n
 refine wpAny_isTrue_Compare1 (M8 (ha pins s σ H _ I h) λv s1 h0=>v9 h0 λx H1 I1 r1 q1=>M8 (hb pins s1 σ H1 _ I1 q1) λu s2 h0=>v9 h0 λy H2 I2 r2 q2=>
  M8 (ho pins s2 σ H2 x y v u _ I2 r1 r2 q2) λc s3 ⟨z,H3,I3,r3,k,e,q3⟩=> ?_) hm
 subst e;cases r3;exact wpAny_truthy_bool ⟨H3,I3,q3⟩
def c4i(K:AE)(x:V)(H:Hp)(k:Bool):Prop:=
 match x with
 | .non=>k=false
 | .bl b=>k=b
 | .int i=>k=(i !=0)
 | .str y=>y.length<=AM/\k=((y.length:Int) !=0)
 | .byt y=>y.size<=AM/\k=((y.size:Int) !=0)
 | .ref p=>(∃xs,SqL K H p xs/\k= !xs.isEmpty)\/(∃xs,SqT K H p xs/\k= !xs.isEmpty)\/∃kvs,H p=ξ (.dK kvs)/\k= !kvs.isEmpty
 |_=>False
theorem b6s{κ:Type}{kvs:List (κ×V)}{vs:List (κ×AA)}(r:KV kvs vs):(!vs.isEmpty)= !kvs.isEmpty:=by
 cases r<;>rfl
theorem a92{xs:List V}{its:List AA}(r:u9 xs its):(!its.toArray.isEmpty)= !xs.isEmpty:=by
 cases r<;>simp
theorem a75:(AM:Nat)<2 ^ 63:=by rw [sizeLine_eq];decide
theorem c5H:c6A X (λx H Q=>∃k,c4i X.K x H k/\Q k H):=by
 intro pins s σ H x v Q I rx h;obtain⟨k,e,q⟩:=h;have hl:=a75;have hs:AM=16777216:=sizeLine_eq;cases x with
 |non=>
  cases rx;have e':k=false:=e;subst e';exact truthy_none ⟨H,I,q⟩
 |bl b=>
  cases rx;have e':k=b:=e;subst e';exact wpAny_truthy_bool ⟨H,I,q⟩
 |int i=>
  obtain⟨t,rfl⟩:=rx;have e':k=(i !=0):=e;subst e';exact PySem.P.truthy_int ⟨H,I,q⟩
 |str y=>
  obtain⟨t,rfl⟩:=rx;obtain⟨hy,e'⟩:y.length<=AM/\k=((y.length:Int) !=0):=e;subst e';exact PySem.P.truthy_str (by lia) ⟨H,I.tok _,q⟩
 |byt y=>
  obtain⟨t,rfl⟩:=rx;obtain⟨hy,e'⟩:y.size<=AM/\k=((y.size:Int) !=0):=e;subst e';exact PySem.W.truthy_bytes (by lia) ⟨H,I.tok _,q⟩
 |ref p=>
  cases rx;have e':(∃xs,SqL X.K H p xs/\k= !xs.isEmpty)\/(∃xs,SqT X.K H p xs/\k= !xs.isEmpty)\/∃kvs,H p=ξ (.dK kvs)/\k= !kvs.isEmpty:=e;rcases e' with⟨xs,hx,e'⟩|⟨xs,hx,e'⟩|⟨kvs,hx,e'⟩
  ·subst e';obtain⟨its,r,pl,hz⟩:=I.list hx;have hlen:=r.length;exact wpAny_truthy_list pl.isList (by simp only [Ai];lia) ⟨H,I.tok _,by rw [a92 r];exact q⟩
  ·subst e';obtain⟨its,r,pl,hz⟩:=I.tuple hx;have hlen:=r.length;exact truthy_tuple pl (by simp only [Ai];lia) ⟨H,I.tok _,by rw [a92 r];exact q⟩
  ·subst e';obtain⟨hz,hS,vs,r,m⟩:kvs.length<=AM/\(p==sysModules)=false/\∃vs,KV kvs vs/\s.heap.DictOf (B1 X.prog X.w) p vs:=I.hok p _ hx;have hlen:kvs.length=vs.length:=Paired.length r;exact wpAny_truthy_dict hS m (by lia) ⟨H,I.tok _,by rw [b6s r];exact q⟩
 |_=>exact(show False from e).elim
theorem c1y(ha:PE X a ta)(he:∀whole,isTrue a X.env whole=(do let v<-whole;standAt a.pos;holding [v] (truthy v))):
 PT X a (λσ H Q=>ta σ H λx H'=>∃k,c4i X.K x H' k/\Q k H'):=by
 intro pins s σ H Q I h
 exact isTrue_plain (M8 (ha pins s σ H _ I h) λv s1 h0=>v9 h0 λx H1 I1 r1 q1=>c5H pins s1 σ H1 x v Q I1 r1 q1) (he _)
theorem b6N:OpR X (binaryOp .Add) (λx y H Q=>∃i j,x= .str i/\y= .str j/\i.length+j.length<=AM/\Q (.str (i++j)) H):=by
 ext o
 obtain⟨i,j,rfl,rfl,hz,q⟩:=h
 ext v
 exact add_str (λt' tk=>⟨.str (i++j),H,I.tok _,⟨_,rfl⟩,q⟩) hz
theorem a2I{x:V}{us:List AA}(r:u9 [x] us):∃u,us=[u]/\w6 x u:=by
 cases r with
 |cons r1 r2=>cases r2;exact⟨_,rfl,r1⟩
theorem c6v{x y:V}{us:List AA}(r:u9 [x,y] us):∃u w',us=[u,w']/\w6 x u/\w6 y w':=by
 cases r with
 |cons r1 r2=>
  cases r2 with
  |cons r3 r4=>cases r4;exact⟨_,_,rfl,r1,r3⟩
theorem b8k(hc:X.calm=true):T5 X (.builtin "min") (λxs H Q=>∃i j,xs=[.int i,.int j]/\Q (.int (if j<i then j else i)) H):=by
 intro pins s σ H xs us Q I r h;obtain⟨i,j,rfl,q⟩:=h;obtain⟨u,w',rfl,⟨t,rfl⟩,⟨t',rfl⟩⟩:=c6v r;refine min_two_ints (I.ok.hd hc) λh' tk k=>⟨_,H,I.kept k, ?_,q⟩
 by_cases hj:j<i
 ·rw [if_pos hj,if_pos hj];exact⟨_,rfl⟩
 ·rw [if_neg hj,if_neg hj];exact⟨_,rfl⟩
end
structure b51(h:Heap)(x dx C:AB)(mA:Str->Option AA):Prop where
 obj:h.get? x=ξ (PySem.W.instObj C dx)
 ns:h.Ns1 dx mA
 ne:dx≠x
theorem b8Y{h:Heap}{dx:AB}{mA:Str->Option AA}(n:h.Ns1 dx mA):∃od,h.get? dx=ξ od/\∀name,PySem.W.lookIn name od=ξ (mA name):=by
 obtain⟨o,es,ep,ho,hd,hk,_,hm⟩:=n;refine⟨o,ho,λname=> ?_⟩;have e:=hm name;unfold nsFind findBy at e;rw [<-Array.find?_toList] at e;unfold PySem.W.lookIn;rw [hd];dsimp only;split
 ·rename_i y q;rw [q] at e;exact congrArg ξ e
 ·rename_i q;rw [q] at e;have a:es.toList.any (·.refKey)=false:=by
   rw [List.any_eq_false];intro y hy;obtain⟨z,t,hkey⟩:=hk y (Array.mem_toList_iff.mp hy);simp [DictEntry.refKey,hkey]
  have a':¬es.toList.any (·.refKey)=true:=by rw [a];exact Ac
  rw [if_neg a'];exact congrArg ξ e
theorem b51.look{h:Heap}{x dx C:AB}{mA:Str->Option AA}(I:b51 h x dx C mA):∃od,PySem.W.InstAt h x (PySem.W.instObj C dx) C (ξ od)/\∀name,PySem.W.lookIn name od=ξ (mA name):=
 let ⟨od,ho,hl⟩:=b8Y I.ns
 ⟨od,⟨I.obj,rfl,rfl,ho⟩,hl⟩
section
variable {prog:AJ}{w:AI}{A:AK}{E:AA->AD->Prop}{s:AD}{K:AE}{x dx C f:AB}{mA:Str->Option AA}{name:Str}{v:AA}
theorem c2J{expr:Bool}{Q:AA->AD->Prop}(X:K.In s.heap)(I:b51 s.heap x dx C mA)(hg:PySem.W.plainGet K C name=true)(hh:PySem.W.hasDictIn K C=true)
 (ha:PySem.W.findIn K (.ref C) name=ξ ζ) (hv:mA name=ξ v) (hv':PySem.W.handedIn v=true) (h:Q v {s with toks:=s.toks+1}):
 AH (model prog w) A (getAttr (.ref x) name expr) Q E s:=by
 obtain⟨od,J,hl⟩:=I.look
 exact PySem.W.get_value X J (PySem.W.plainGet_of hg).1 (PySem.W.findObj_own hh ha rfl (by rw [hl,hv])) hv' h
theorem c0A{pl:Sem Bool}{Q:AA×List AA->AD->Prop}(X:K.In s.heap)(I:b51 s.heap x dx C mA)(hg:PySem.W.plainGet K C name=true)
 (hf:PySem.W.findIn K (.ref C) name=ξ (ξ (.ref f))) (ht:PySem.W.isFn K (.ref f)=true) (hv:mA name=ζ) (h:Q (.ref f,[.ref x]) s):
 AH (model prog w) A (getMethod (.ref x) name pl) Q E s:=by
 obtain⟨od,J,hl⟩:=I.look
 exact PySem.W.method_fn X J (PySem.W.plainGet_of hg).1 (PySem.W.plainGet_of hg).2 hf (beq_iff_eq.mp ht) (by show(PySem.W.lookIn name od).map (·.isSome)=ξ false;rw [hl,hv];rfl) h
theorem c3A{ns:List Str}{Q:Unit->AD->Prop}(X:K.In s.heap)(I:b51 s.heap x dx C mA)
 (hs:PySem.W.findIn K (.ref C) "__setattr__"=ξ (ξ (.builtin "object.__setattr__"))) (hp:PySem.W.plainOver K C=true) (ht:PySem.W.takerIn K C name=ξ ζ) (hh:PySem.W.hasDictIn K C=true)
 (hw:PySem.Within mA ns) (hsz:ns.length<=AM)
 (h:∀h',b51 h' x dx C (λy=>if y=name then ξ v else mA y)->Heap.SameBut dx s.heap h'->Q () {s with heap:=h',toks:=s.toks+2}):
 AH (model prog w) A (setAttr (.ref x) name v) Q E s:=by
 obtain⟨od,J,hl⟩:=I.look
 refine PySem.W.set_plain X J hs (PySem.W.osa_open (s:={s with toks:=s.toks+1}) (r:=ζ) X J hp ht λb=> ?_)
 obtain⟨cd,hc,hd'⟩:=PySem.W.any_some hh
 have hx:s.heap.get? x=ξ ⟨.ref C,ξ dx,.plain, #[]⟩:=I.obj
 refine AF (AR (AF (AF (wpAny_loadPart hx (AF (PySem.W.Looks.here (s:={s with toks:=s.toks+1}) (PySem.W.looks_clsIn X hc) ?_))))))
 rw [hd']
 refine AR (a:=ξ dx) (AF (AR (AF ?_)))
 refine wpAny_nsSet1 (s:={s with toks:=s.toks+1}) I.ns λh' hn2 hs2=> ?_
 obtain⟨oD,esD,epD,hoD,hdD,hcD⟩:=hn2.count (PySem.Within.cons name v hw)
 refine AF (wpAny_lookBehind hoD (by rw [hdD];exact pastItsLine_dict (Nat.le_trans hcD (by rw [AX];lia))) ?_)
 exact AR (h _ ⟨(hs2.2 _ (Ne.symm I.ne)).trans I.obj,hn2,I.ne⟩ hs2)
theorem c01{R:Result->AD->Prop}{vs:List AA}{kw:List (Str×AA)}(X:K.In s.heap)(hm:PySem.W.makesIn K C=true)
 (hi:PySem.W.findIn K (.ref C) "__init__"=ξ (ξ (.ref f))) (hf:PySem.W.typeIn K (.ref f)=ξ (.type "function"))
 (h:codeAny (model prog w) (A.under (.builtin "type.__call__" ⟨.ref C::vs,kw⟩)) (.call (.ref f) ⟨.ref (s.heap.objs.size+1)::vs,kw⟩) (PySem.W.InitBack (s.heap.objs.size+1) R)
  {s with heap:=(s.heap.push PySem.W.emptyDict).push (PySem.W.instObj C s.heap.objs.size)}):
 codeAny (model prog w) A (.call (.ref C) ⟨vs,kw⟩) R s:=by
 obtain⟨hh,g,d,t,os⟩:=s
 exact PySem.W.make_core (PySem.W.makes_of X hm) (PySem.W.looks_findIn X hi) (λself=>PySem.W.bind_fn X self hf) (.inl rfl) h
end
def a4D(f:Str)(v:V):List (Str×V)->List (Str×V)
 |[]=>[(f,v)]
 |(g,x)::r=>if g=f then(g,v)::r else(g,x)::a4D f v r
theorem a8F(f g:Str)(v:V):∀fs:List (Str×V),(a4D f v fs).lookup g=if g=f then ξ v else fs.lookup g
 |[]=>by
  show List.lookup g [(f,v)]=_
  by_cases h:g=f
  ·have hb:(g==f)=true:=beq_iff_eq.mpr h;simp only [List.lookup,hb,if_pos h]
  ·have hb:(g==f)=false:=beq_eq_false_iff_ne.mpr h;simp only [List.lookup,hb,if_neg h]
 |(k,x)::r=>by
  have ih:=a8F f g v r;rw [show a4D f v ((k,x)::r)=(if k=f then(k,v)::r else(k,x)::a4D f v r) from rfl]
  by_cases hk:k=f
  ·rw [if_pos hk]
   by_cases h:g=k
   ·have hb:(g==k)=true:=beq_iff_eq.mpr h;simp only [List.lookup,hb,if_pos (h.trans hk)]
   ·have hb:(g==k)=false:=beq_eq_false_iff_ne.mpr h;simp only [List.lookup,hb,if_neg (λe:g=f=>h (e.trans hk.symm))]
  ·rw [if_neg hk]
   by_cases h:g=k
   ·have hb:(g==k)=true:=beq_iff_eq.mpr h;simp only [List.lookup,hb,if_neg (λe:g=f=>hk (h.symm.trans e))]
   ·have hb:(g==k)=false:=beq_eq_false_iff_ne.mpr h;simp only [List.lookup,hb];exact ih
theorem a73(f:Str)(v:V):∀fs:List (Str×V),f∈(a4D f v fs).map (·.1)/\∀g,g∈fs.map (·.1)->g∈(a4D f v fs).map (·.1)
 |[]=>⟨by simp [a4D],λg h=>by simp at h⟩
 |(k,x)::r=>by
  obtain⟨i1,i2⟩:=a73 f v r;rw [show a4D f v ((k,x)::r)=(if k=f then(k,v)::r else(k,x)::a4D f v r) from rfl]
  by_cases hk:k=f
  ·rw [if_pos hk];subst hk;exact⟨by simp,λg h=>by simpa using h⟩
  ·rw [if_neg hk];refine⟨?_,λg h=> ?_⟩
   ·rw [AN];exact Aa _ i1
   ·rw [AN] at h ⊢;rcases Ab.mp h with e|e
    ·exact Ab.mpr (.inl e)
    ·exact Aa _ (i2 g e)
theorem a8C(f:Str)(v:V):∀fs:List (Str×V),(a4D f v fs).length<=fs.length+1
 |[]=>by simp [a4D]
 |(k,x)::r=>by
  have ih:=a8C f v r;rw [show a4D f v ((k,x)::r)=(if k=f then(k,v)::r else(k,x)::a4D f v r) from rfl]
  by_cases hk:k=f
  ·rw [if_pos hk,AX,AX];lia
  ·rw [if_neg hk,AX,AX];lia
theorem a3D.some_of{v:V}{o:Option AA}(r:a3D (ξ v) o):∃u,o=ξ u/\w6 v u:=by
 cases o with
 |none=>exact(show False from r).elim
 |some u=>exact⟨u,rfl,r⟩
theorem a3D.none_of{o:Option AA}(r:a3D ζ o):o=ζ:=by
 cases o with
 |none=>rfl
 |some u=>exact(show False from r).elim
theorem b8J{v:V}{u:AA}(r:w6 v u):PySem.W.handedIn u=true:=by
 cases v with
 |non=>cases(show u=Value.none from r);rfl
 |bl b=>cases(show u=Value.bool b from r);rfl
 |int i=>obtain⟨t,e⟩:=(show ∃t,u=Value.int i t from r);cases e;rfl
 |str x=>obtain⟨t,e⟩:=(show ∃t,u=Value.str x t from r);cases e;rfl
 |byt b=>obtain⟨t,e⟩:=(show ∃t,u=Value.bytes b t from r);cases e;rfl
 |flt b=>obtain⟨t,e⟩:=(show ∃t,u=Value.float b t from r);cases e;rfl
 |ref a=>cases(show u=Value.ref a from r);rfl
 |ty n=>cases(show u=Value.type n from r);rfl
section
variable {P:AJ}{w:AI}{H H':Hp}{h h':Heap}{a C dx:AB}{fs fs':List (Str×V)}
theorem b3t(hok:HOk P w H h)(e:H a=ξ (.ins C dx fs)):∃mA,b51 h a dx C mA/\(∀f,a3D (fs.lookup f) (mA f))/\PySem.Within mA (fs.map (·.1))/\fs.length<=1000/\H dx=ξ (.own a):=by
 obtain⟨d,z,ne,ob,mA,n,r,q⟩:=(show N4 P w H h a (.ins C dx fs) from hok a _ e);exact⟨mA,⟨ob,n,ne⟩,r,q,z,d⟩
end
structure Cls(K:AE)(C:AB):Prop where
 pg:PySem.W.plainGet K C Str.empty=true
 hd:PySem.W.hasDictIn K C=true
 po:PySem.W.plainOver K C=true
 sa:PySem.W.findIn K (.ref C) "__setattr__"=ξ (ξ (.builtin "object.__setattr__"))
theorem Cls.get{K:AE}{C:AB}(c:Cls K C)(f:Str):PySem.W.plainGet K C f=true:=c.pg
def a0A(K:AE)(C:AB)(f:Str):Prop:=PySem.W.findIn K (.ref C) f=ξ ζ
theorem a0A.taker{K:AE}{C:AB}{f:Str}(n:a0A K C f):PySem.W.takerIn K C f=ξ ζ:=by
 unfold PySem.W.takerIn;rw [show PySem.W.findIn K (.ref C) f=ξ ζ from n]
 rfl
structure c5M(K:AE)(C:AB)(m:Str)(f:AB):Prop where
 at_:PySem.W.findIn K (.ref C) m=ξ (ξ (.ref f))
 fn:PySem.W.isFn K (.ref f)=true
 kp:PySem.W.keepIn K (.ref f)=true
section
variable {X:Cx}{pins:List (AB×Obj)}{σ:St}{H:Hp}{s:AD}{a C dx:AB}{fs:List (Str×V)}{f:Str}{v:V}{A:AK}{E:AA->AD->Prop}
theorem b6p{b:Bool}{Q:AA->AD->Prop}(I:n3 X pins σ H s)(e:H a=ξ (.ins C dx fs))(c:Cls X.K C)(n:a0A X.K C f)(l:fs.lookup f=ξ v)
 (h:∀u s',n3 X pins σ H s'->w6 v u->Q u s'):AH (model X.prog X.w) A (getAttr (.ref a) f b) Q E s:=by
 obtain⟨mA,O,r,_,_,_⟩:=b3t I.hok e
 obtain⟨u,hu,ru⟩:=a3D.some_of (v:=v) (o:=mA f) (by rw [<-l];exact r f)
 exact c2J I.kIn O (c.get f) c.hd n hu (b8J ru) (h u _ (I.tok _) ru)
theorem b6q{m:Str}{g:AB}{pl:Sem Bool}{Q:AA×List AA->AD->Prop}(I:n3 X pins σ H s)(e:H a=ξ (.ins C dx fs))(c:Cls X.K C)(k:c5M X.K C m g)(l:fs.lookup m=ζ)
 (h:Q (.ref g,[.ref a]) s):AH (model X.prog X.w) A (getMethod (.ref a) m pl) Q E s:=by
 obtain⟨mA,O,r,_,_,_⟩:=b3t I.hok e
 have hn:mA m=ζ:=a3D.none_of (by rw [<-l];exact r m)
 exact c0A I.kIn O (c.get m) k.at_ k.fn hn h
theorem b61{y:V}{u:AA}{Q:Unit->AD->Prop}(I:n3 X pins σ H s)(e:H a=ξ (.ins C dx fs))(c:Cls X.K C)(n:a0A X.K C f)(hl:fs.length<1000)(ry:w6 y u)
 (h:∀s',n3 X pins σ (B9 H a (.ins C dx (a4D f y fs))) s'->Q () s'):AH (model X.prog X.w) A (setAttr (.ref a) f u) Q E s:=by
 obtain⟨mA,O,r,wi,_,ho⟩:=b3t I.hok e
 have hz:(fs.map (·.1)).length<=AM:=by rw [AW,sizeLine_eq];lia
 refine c3A I.kIn O c.sa c.po n.taker c.hd wi hz λh' O' sb=>h _ ?_
 have hd:∃o,h'.get? dx=ξ o:=by obtain⟨o,_,_,e',_⟩:=O'.ns;exact⟨o,e'⟩
 refine I.write (x:=a) (e:=dx) (by rw [e];exact True.intro) (.inr ho) (λb q hb z=>(sb.2 b hb).trans z) hd ?_
 refine⟨by rw [l8 O.ne];exact ho, ?_,O.ne,O'.obj,_,O'.ns,λg=> ?_,λg hg=> ?_⟩
 ·have:=a8C f y fs;lia
 ·show a3D ((a4D f y fs).lookup g) (if g=f then ξ u else mA g)
  rw [a8F]
  by_cases q:g=f
  ·rw [if_pos q,if_pos q];exact ry
  ·rw [if_neg q,if_neg q];exact r g
 ·by_cases q:g=f
  ·rw [q];exact(a73 f y fs).1
  ·refine(a73 f y fs).2 g (wi g λz=>hg ?_)
   show(if g=f then ξ u else mA g)=ζ
   rw [if_neg q];exact z
theorem n3.made(I:n3 X pins σ H s):n3 X pins σ (B9 (B9 H s.heap.objs.size (.own (s.heap.objs.size+1))) (s.heap.objs.size+1) (.ins C s.heap.objs.size []))
 {s with heap:=(s.heap.push PySem.W.emptyDict).push (PySem.W.instObj C s.heap.objs.size)}:=by
 have e1:(s.heap.push PySem.W.emptyDict).get? s.heap.objs.size=ξ PySem.W.emptyDict:=Ae s.heap rfl
 have e2:((s.heap.push PySem.W.emptyDict).push (PySem.W.instObj C s.heap.objs.size)).get? (s.heap.objs.size+1)=ξ (PySem.W.instObj C s.heap.objs.size):=by
  have:=Ae (s.heap.push PySem.W.emptyDict) (o:=PySem.W.instObj C s.heap.objs.size) rfl
  rwa [Heap.size_push] at this
 have e3:(s.heap.push PySem.W.emptyDict).Ns s.heap.objs.size (λ_=>ζ):=⟨PySem.W.emptyDict, #[],_,e1,rfl,(λe he=>absurd he (by simp)),λ_=>rfl⟩
 have I1:=I.laid (a:=s.heap.objs.size) (o:= .own (s.heap.objs.size+1)) (h':=s.heap.push PySem.W.emptyDict) (t':=s.toks) (λb u q=>AV _ q) (AS _) ⟨_,e1⟩
 refine I1.laid (a:=s.heap.objs.size+1) (o:= .ins C s.heap.objs.size []) (t':=s.toks) (λb u q=>AV _ q) (Nat.le_of_eq (Heap.size_push _ _)) ?_
 have ne:s.heap.objs.size≠s.heap.objs.size+1:=Af (Nat.lt_succ_self _)
 refine⟨by rw [l8 ne,r9],Nat.zero_le _,ne,e2,λ_=>ζ,(Heap.Ns1.of_empty e3).at λo q=>AV _ q,λ_=>True.intro,λy hy=>absurd rfl hy⟩
theorem c2g{prog:AJ}{w:AI}{env:Env}{e:AG}{f:Str}{pos:Pos}{s:AD}{Q:AA->AD->Prop}(hb:attributeBase e f env (eval e env)=eval e env)
 (h:AH (model prog w) A (eval e env) (λo s₁=>AH (model prog w) A (getAttr o f true) Q E s₁) E s):AH (model prog w) A (eval (.Attribute e f pos) env) Q E s:=
 Attribute_any_ h (by rw [arm_eval_Attribute,hb])
end
def c6U(K:AE)(ta:TE)(f:Str):TE:=λσ H Q=>ta σ H λx H1=>∃a C dx fs v,x= .ref a/\H1 a=ξ (.ins C dx fs)/\Cls K C/\a0A K C f/\fs.lookup f=ξ v/\Q v H1
def c6i(K:AE)(ta tv:TE)(f:Str):TS:=λD σ H=>tv σ H λy H1=>ta σ H1 λx H2=>∃a C dx fs,x= .ref a/\H2 a=ξ (.ins C dx fs)/\Cls K C/\a0A K C f/\fs.length<1000/\
 D.nx σ (B9 H2 a (.ins C dx (a4D f y fs)))
section
variable {X:Cx}{o e value:AG}{f:Str}{pos pos' tpos:Pos}{ta tv:TE}
theorem c5c(he:PE X e ta)(hb:attributeBase e f X.env (eval e X.env)=eval e X.env):PE X (.Attribute e f pos) (c6U X.K ta f):=by
 ext n
 refine c2g hb (M8 (he pins s σ H _ I h) λu s1 ⟨x,H1,I1,rx,a,C,dx,fs,v,ex,ea,c,n,l,q⟩=> ?_);subst ex;obtain rfl:u=Value.ref a:=rx;exact b6p I1 ea c n l λu' s2 I2 ru=>⟨v,H1,I2,ru,q⟩
theorem Z2(ha:PE X o ta)(hv:PE X value tv)(hs:swapsWith value (ξ (.Attribute o f pos')) pos.line X.env=pure false):PS X (.Assign [.Attribute o f pos'] value pos) (c6i X.K ta tv f):=by
 intro pins s σ H D I h;refine plainObj_wpAny_Assign_Attribute (M8 (hv pins s σ H _ I h) λu s1 h0=>v9 h0 λy H1 I1 ry q=>M8 (ha pins s1 σ H1 _ I1 q) λov s2 ⟨x,H2,I2,rx,a,C,dx,fs,ex,ea,c,n,l,q2⟩=> ?_) hs;subst ex;obtain rfl:ov=Value.ref a:=rx;exact b61 I2 ea c n l ry λs3 I3=>⟨σ,_,I3,q2⟩
end
section
variable {X:Cx}{pins:List (AB×Obj)}{σ:St}{H:Hp}{s:AD}{A:AK}{E:AA->AD->Prop}{Q:AA->AD->Prop}{c:AA}{b:Bool}
end
structure O1(k:Nat)(A:AK):Prop where
 hd:A.handled=ζ
 dp:A.depth+3*k+5<recursionLimit
 un:A.units+16*k+200<cLine
theorem O1.mono{j k:Nat}{A:AK}(r:O1 k A)(h:j<=k):O1 j A:=⟨r.hd,by have:=r.dp;lia,by have:=r.un;lia⟩
theorem O1.deeper{k:Nat}{A:AK}(r:O1 (k+1) A)(env:Env):O1 k (A.deeper env):=
 ⟨r.hd,by have:=r.dp;show A.depth+1+3*k+5<_;lia,by have:=r.un;show A.units+3+16*k+200<_;lia⟩
theorem b6F{A:AK}{C:AB}{us:List AA}{kw:List (Str×AA)}:(A.under (.builtin "type.__call__" ⟨.ref C::us,kw⟩)).depth=A.depth+1:=by
 first|rfl|simp [Around.under,Code.weight,Code.isCreation,Code.isGuard,Code.isCaller,Code.frames,Code.isFrame,guardIds]
theorem b6G{A:AK}{C:AB}{us:List AA}{kw:List (Str×AA)}:(A.under (.builtin "type.__call__" ⟨.ref C::us,kw⟩)).units=A.units+1:=by
 first|rfl|simp [Around.under,Code.cUnits,Code.frames,Code.isFrame]
theorem O1.make{k:Nat}{A:AK}(r:O1 (k+1) A)(C:AB)(us:List AA)(kw:List (Str×AA)):O1 k (A.under (.builtin "type.__call__" ⟨.ref C::us,kw⟩)):=
 ⟨r.hd,by have:=r.dp;rw [b6F];lia,by have:=r.un;rw [b6G];lia⟩
theorem O1.depth{k:Nat}{A:AK}(r:O1 k A):A.depth<recursionLimit:=by have:=r.dp;lia
theorem O1.units{k:Nat}{A:AK}(r:O1 k A):A.units+64<cLine:=by have:=r.un;lia
def c3I:TA:=λ_ H Q=>Q [] H
def b71(ta:TE)(tr:TA):TA:=λσ H Q=>ta σ H λx H1=>tr σ H1 λxs H2=>Q (x::xs) H2
section
variable {X:Cx}{e:AG}{es:List AG}{te:TE}{t:TA}{pos:Pos}
theorem a2d:PA X [] c3I:=λ_ _ _ _ H Q I h=>Calls.spliced_nil ⟨[],H,I,.nil,h⟩
theorem Q5(ha:PE X e te)(hr:PA X es t)(hs:AL (e::es) X.env=(false,eval e X.env)::AL es X.env:=by rfl):PA X (e::es) (b71 te t):=by
 intro pos pins s σ H Q I h;rw [hs];show AH _ _ (spliced ((false,eval e X.env)::backTo pos (AL es X.env))) _ _ s;refine Calls.spliced_cons (M8 (ha pins s σ H _ I h) λu s1 h0=>v9 h0 λx H1 I1 r1 q1=> ?_);exact M8 (hr pos pins s1 σ H1 _ I1 q1) λus s2 h0=>v9 h0 λxs H2 I2 r2 q2=>⟨x::xs,H2,I2,.cons r1 r2,q2⟩
def c60(t:TA):TE:=λσ H Q=>t σ H λxs H1=>xs.length<=AM/\∀p,H1 p=ζ->Q (.ref p) (B9 H1 p (.tup xs))
def c6X(t:TA):TE:=λσ H Q=>t σ H λxs H1=>xs.length<=AM/\∀p,H1 p=ζ->Q (.ref p) (B9 H1 p (.lst xs))
theorem c5j{x1}(h:PA X es t):PE X (.Tuple es x1 pos) (c60 t):=by
 intro pins s σ H Q I hq;refine wpAny_Tuple_spliced (M8 (h pos pins s σ H _ I hq) λus s1 h0=>a9d h0 λxs H1 I1 r z q=>⟨by rw [<-r.length];exact z, ?_⟩)
 have hf:H1 s1.heap.objs.size=ζ:=I1.hok.fresh (AS _);refine⟨.ref s1.heap.objs.size,B9 H1 s1.heap.objs.size (.tup xs),I1.laid (t':=s1.toks) (λb u e=>AV _ e) (AS _) ?_,rfl,q _ hf⟩;exact⟨z,us,r,⟨_,Ae _ rfl,rfl,_,rfl⟩⟩
theorem c5e(h:PA X es t):PE X (.List es pos) (c6X t):=by
 intro pins s σ H Q I hq;refine wpAny_List_spliced (M8 (h pos pins s σ H _ I hq) λus s1 h0=>a9d h0 λxs H1 I1 r z q=>⟨by rw [<-r.length];exact z, ?_⟩)
 have hf:H1 s1.heap.objs.size=ζ:=I1.hok.fresh (AS _);refine⟨.ref s1.heap.objs.size,B9 H1 s1.heap.objs.size (.lst xs),I1.laid (t':=s1.toks) (λb u e=>AV _ e) (AS _) ?_,rfl,q _ hf⟩;exact⟨z,us,0,r,Ae _ rfl⟩
end
abbrev Sp:=List V->Hp->VK->XK->Prop
abbrev CXT:=List Env->Hp->AD->XK->AA->AD->Prop
structure b5Z(P:AJ)(w:AI)(K:AE)(mg:Str->Option AA)(base:Heap)(A:AK)(outer:List Env)(s:AD)(H:Hp):Prop where
 frames:A.frames=ξ outer
 mod:Mod K mg base
 bs:∀b o,base.get? b=ξ o->s.heap.get? b=ξ o/\H b=ζ
 bsz:base.objs.size<=s.heap.objs.size
 funs:s.heap.FunFrames base outer
 frf:∀b∈frs outer,H b=ζ
 hok:HOk P w H s.heap
 bare:AllBare s.gens
def CE(outer:List Env)(P:AJ)(w:AI)(H:Hp)(s:AD)(Q:VK)(u:AA)(s':AD):Prop:=
 ∃v H',s'.os=s.os/\AllBare s'.gens/\Un (frs outer) [] H H' s.heap s'.heap/\HOk P w H' s'.heap/\w6 v u/\Q v H'
def CR(CX:CXT)(outer:List Env)(P:AJ)(w:AI)(H:Hp)(s:AD)(Q:VK)(E:XK)(r:Result)(s':AD):Prop:=
 match r with
 | .ok (.ret u)=>CE outer P w H s Q u s'
 | .ok _=>False
 | .error e=>CX outer H s E e s'
structure U7(P:AJ)(w:AI)(K:AE)(mg:Str->Option AA)(base:Heap)(CX:CXT)(k:Nat)(f:AB)(fd:FuncData)(ps:List Str)(sp:Sp):Prop where
 len:∀vs H Q E,sp vs H Q E->vs.length=ps.length
 run:∀(A:AK) (outer:List Env) (s:AD) (H:Hp) (args:Args) (us:List AA) (vs:List V) (Q:VK) (E:XK),O1 k A->b5Z P w K mg base A outer s H->BindsTo s fd args (ps.zip us)->u9 vs us->sp vs H Q E->
  codeAny (model P w) A (.call (.ref f) args) (CR CX outer P w H s Q E) s
theorem U7.mono{P:AJ}{w:AI}{K:AE}{mg:Str->Option AA}{base:Heap}{CX:CXT}{j k:Nat}{f:AB}{fd:FuncData}{ps:List Str}{sp:Sp}(F:U7 P w K mg base CX j f fd ps sp)(h:j<=k):
 U7 P w K mg base CX k f fd ps sp:=⟨F.len,λA outer s H args us vs Q E hr=>F.run A outer s H args us vs Q E (hr.mono h)⟩
theorem U7.imp{P:AJ}{w:AI}{K:AE}{mg:Str->Option AA}{base:Heap}{CX:CXT}{k:Nat}{f:AB}{fd:FuncData}{ps:List Str}{sp sp':Sp}(F:U7 P w K mg base CX k f fd ps sp)
 (h:∀vs H Q E,sp' vs H Q E->sp vs H Q E):U7 P w K mg base CX k f fd ps sp':=
 ⟨λvs H Q E q=>F.len vs H Q E (h _ _ _ _ q),λA outer s H args us vs Q E hr he hb hv hs=>F.run A outer s H args us vs Q E hr he hb hv (h _ _ _ _ hs)⟩
theorem b5Z.make{P:AJ}{w:AI}{K:AE}{mg:Str->Option AA}{base:Heap}{A:AK}{outer:List Env}{s:AD}{H:Hp}(e:b5Z P w K mg base A outer s H)(C:AB)(us:List AA)(kw:List (Str×AA)):
 b5Z P w K mg base (A.under (.builtin "type.__call__" ⟨.ref C::us,kw⟩)) outer s H:=⟨by first|exact e.frames|(simpa [Around.under,Code.envs,Code.isFrame,pushEnvs] using e.frames),e.mod,e.bs,e.bsz,e.funs,e.frf,e.hok,e.bare⟩
section
variable {X:Cx}{pins:List (AB×Obj)}{σ:St}{H:Hp}{s s':AD}
theorem n3.env0(I:n3 X pins σ H s):b5Z X.prog X.w X.K X.mg X.base X.A X.stack s H:=
 ⟨I.ok.frames,I.ok.mod,I.bs,Nat.le_trans I.ok.bsz I.sz,I.stack,I.stkFree,I.hok,I.bare⟩
theorem n3.after{Q:VK}{u:AA}(I:n3 X pins σ H s)(h:CE X.stack X.prog X.w H s Q u s'):EP X pins σ Q u s':=by
 obtain⟨v,H',os,bare,un,hok,r,q⟩:=h;obtain⟨hh,g,d,t,os'⟩:=s';obtain rfl:os'=s.os:=os;exact⟨v,H',I.call (h':=hh) (g':=g) (d':=d) (t':=t) (ch:=[]) un hok bare (λb z=>absurd z (by simp)),r,q⟩
end
def c4d(sp:Sp)(dvs:List V)(E:XK)(t:TA):TE:=λσ H Q=>t σ H λvs H1=>sp (vs++dvs) H1 Q E
def c6m(C:AB)(sp:Sp)(dvs:List V)(E:XK)(t:TA):TE:=λσ H Q=>t σ H λvs H1=>∀x dx,H1 x=ζ->H1 dx=ζ->dx≠x->
 sp (.ref x::(vs++dvs)) (B9 (B9 H1 dx (.own x)) x (.ins C dx [])) (λv H2=>v= .non/\Q (.ref x) H2) E
def a05(K:AE)(fd:FuncData)(ps:List Str)(ds:List AA):Prop:=
 ∀(s:AD) (us:List AA),K.In s.heap->(us++ds).length=ps.length->BindsTo s fd ⟨us,[]⟩ (ps.zip (us++ds))
theorem a05.all{K:AE}{fd:FuncData}{ps:List Str}(h:∀us:List AA,us.length=ps.length->bindArgs fd ⟨us,[]⟩=pure (ps.zip us)):a05 K fd ps []:=λs us _ hl=>by
 rw [Ag] at hl ⊢;exact .of_eq (h us hl)
def a7O(CX:CXT)(X:Cx)(E:XK):Prop:=∀(pins:List (AB×Obj)) (σ:St) (H:Hp) (s:AD) (e:AA) (s':AD),n3 X pins σ H s->CX X.stack H s E e s'->X.xe e s'
section
variable {X:Cx}{CX:CXT}{k:Nat}{f C:AB}{fd:FuncData}{ps:List Str}{sp:Sp}{dvs:List V}{ds:List AA}{E:XK}{x m:Str}{p pos apos:Pos}{e o:AG}{es:List AG}{ta:TE}{t:TA}
theorem b35{pins:List (AB×Obj)}{σ:St}{H:Hp}{s:AD}{Q:VK}{us:List AA}{vs:List V}(F:U7 X.prog X.w X.K X.mg X.base CX k f fd ps sp)(hr:O1 k X.A)(hb:a05 X.K fd ps ds)(hd:u9 dvs ds)(hx:a7O CX X E)
 (I:n3 X pins σ H s) (r:u9 vs us) (h:sp (vs++dvs) H Q E):AH (model X.prog X.w) X.A (call (.ref f) us) (EP X pins σ Q) X.xe s:=by
 have r2:u9 (vs++dvs) (us++ds):=r.append hd
 have hl:(us++ds).length=ps.length:=by rw [<-r2.length];exact F.len _ _ _ _ h
 refine wpAny_call (codeAny_mono (F.run X.A X.stack s H ⟨us,[]⟩ (us++ds) (vs++dvs) Q E hr I.env0 (hb s us I.kIn hl) r2 h) λr s' hq=> ?_)
 cases r with
 |error e=>exact hx pins σ H s e s' I hq
 |ok fl=>
  cases fl with
  |ret u=>exact I.after hq
  |next=>exact False.elim hq
  |brk=>exact False.elim hq
  |cont=>exact False.elim hq
theorem b7K(F:U7 X.prog X.w X.K X.mg X.base CX k f fd ps sp)(hr:O1 k X.A)(hg:Gl X x)(hm:X.mg x=ξ (.ref f))(hk:PySem.W.keepIn X.K (.ref f)=true)(hb:a05 X.K fd ps ds)(hd:u9 dvs ds)(hx:a7O CX X E)
 (ha:PA X (e::es) t) (hdb:(x==("__debug__":Str))=false:=by decide) (he:AL (e::es) X.env=(false,eval e X.env)::AL es X.env:=by rfl) (hpl:(backTo pos (AL es X.env)).any (·.1)=false:=by rfl):
 PE X (.Call (.Name x p) (e::es) [] pos) (c4d sp dvs E t):=by
 intro pins s σ H Q I h
 refine wpAny_Call_Name_kw (a7g I hg hm ?_ hdb)
 refine PySem.W.callWith_K (h₀:=X.base) I.ok.mod.kin hk (M8 (ha pos pins s σ H _ I h) λus s1 h0=>v9 h0 λvs H1 I1 r q=>⟨I1.kIn, ?_⟩) he hpl
 exact b35 F hr hb hd hx I1 r q
theorem c1j(F:U7 X.prog X.w X.K X.mg X.base CX k f fd ps sp)(hr:O1 k X.A)(hg:Gl X x)(hm:X.mg x=ξ (.ref f))(hk:PySem.W.keepIn X.K (.ref f)=true)(hb:a05 X.K fd ps ds)(hd:u9 dvs ds)(hx:a7O CX X E)
 (hdb:(x==("__debug__":Str))=false:=by decide):PE X (.Call (.Name x p) [] [] pos) (c4d sp dvs E c3I):=by
 intro pins s σ H Q I h
 refine wpAny_Call_Name_kw (a7g I hg hm ?_ hdb)
 exact PySem.W.callWith_K0 I.kIn hk (b35 (us:=[]) F hr hb hd hx I .nil h)
structure Mk(K:AE)(C f:AB):Prop where
 makes:PySem.W.makesIn K C=true
 init:PySem.W.findIn K (.ref C) "__init__"=ξ (ξ (.ref f))
 fn:PySem.W.isFn K (.ref f)=true
 kp:PySem.W.keepIn K (.ref C)=true
theorem c1D{pins:List (AB×Obj)}{σ:St}{H:Hp}{s:AD}{Q:VK}{us:List AA}{vs:List V}(M:Mk X.K C f)(F:U7 X.prog X.w X.K X.mg X.base CX k f fd ps sp)(hr:O1 (k+1) X.A)(hb:a05 X.K fd ps ds)(hd:u9 dvs ds)
 (hx:a7O CX X E) (I:n3 X pins σ H s) (r:u9 vs us)
 (h:∀x dx,H x=ζ->H dx=ζ->dx≠x->sp (.ref x::(vs++dvs)) (B9 (B9 H dx (.own x)) x (.ins C dx [])) (λv H2=>v= .non/\Q (.ref x) H2) E):
 AH (model X.prog X.w) X.A (call (.ref C) us) (EP X pins σ Q) X.xe s:=by
 have hq:=h (s.heap.objs.size+1) s.heap.objs.size (I.hok.fresh (Nat.le_succ _)) (I.hok.fresh (AS _)) (Af (Nat.lt_succ_self _))
 have I2:=n3.made (C:=C) I
 have r2:u9 (V.ref (s.heap.objs.size+1)::(vs++dvs)) (Value.ref (s.heap.objs.size+1)::(us++ds)):= .cons rfl (r.append hd)
 have hl:(Value.ref (s.heap.objs.size+1)::us++ds).length=ps.length:=by
  have e:=r2.length;rw [F.len _ _ _ _ hq] at e;exact e.symm
 refine wpAny_call (c01 (f:=f) I.kIn M.makes M.init (beq_iff_eq.mp M.fn) (codeAny_mono (F.run _ X.stack _ _ ⟨Value.ref (s.heap.objs.size+1)::us,[]⟩ (Value.ref (s.heap.objs.size+1)::(us++ds)) _ _ E (hr.make C us [])
  (I2.env0.make C us []) (hb _ (Value.ref (s.heap.objs.size+1)::us) I2.kIn hl) r2 hq) λr s' hq'=> ?_))
 cases r with
 |error e=>exact hx pins σ _ _ e s' I2 hq'
 |ok fl=>
  cases fl with
  |ret u=>
   obtain⟨v,H',I3,rv,ev,q3⟩:=I2.after hq'
   subst ev
   exact⟨rv,⟨V.ref (s.heap.objs.size+1),H',I3,rfl,q3⟩⟩
  |next=>exact False.elim hq'
  |brk=>exact False.elim hq'
  |cont=>exact False.elim hq'
theorem c3e(M:Mk X.K C f)(F:U7 X.prog X.w X.K X.mg X.base CX k f fd ps sp)(hr:O1 (k+1) X.A)(hg:Gl X x)(hm:X.mg x=ξ (.ref C))(hb:a05 X.K fd ps ds)(hd:u9 dvs ds)(hx:a7O CX X E)
 (ha:PA X (e::es) t) (hdb:(x==("__debug__":Str))=false:=by decide) (he:AL (e::es) X.env=(false,eval e X.env)::AL es X.env:=by rfl) (hpl:(backTo pos (AL es X.env)).any (·.1)=false:=by rfl):
 PE X (.Call (.Name x p) (e::es) [] pos) (c6m C sp dvs E t):=by
 intro pins s σ H Q I h
 refine wpAny_Call_Name_kw (a7g I hg hm ?_ hdb)
 refine PySem.W.callWith_K (h₀:=X.base) I.ok.mod.kin M.kp (M8 (ha pos pins s σ H _ I h) λus s1 h0=>v9 h0 λvs H1 I1 r q=>⟨I1.kIn, ?_⟩) he hpl
 exact c1D M F hr hb hd hx I1 r q
end
section
variable {X:Cx}{CX:CXT}{k:Nat}{f C:AB}{fd:FuncData}{ps ks:List Str}{sp:Sp}{E:XK}{x m:Str}{p pos apos kpos:Pos}{e o:AG}{es:List AG}{kws:List Keyword}{te ta:TE}{t tk:TA}{nm:Option Str}
variable {g:List AA->List AA->List AA}{gV:List V->List V->List V}
end
structure i8(N P:List Str)(sc:Scope):Prop where
 kind:sc.kind= .function
 co:sc.isCoroutine=false
 gen:sc.isGenerator=false
 nd:N.Nodup
 pre:N.take P.length=P
 par:∀x∈P,sc.names.lookup x=ξ .local\/sc.names.lookup x=ξ .cell
 nofree:∀y∈sc.names,y.2≠.free
theorem b18{kindOf:Str->Option NameKind}{x:Str}:∀{binds:List (Str×AA)} {m:Str->Option AA},(∀v,(x,v)∉binds)->bindL kindOf binds m x=m x
 |[],_,_=>rfl
 |(n,v)::r,m,h=>by
  unfold bindL;rw [b18 λw hw=>h w (Aa _ hw)];split
  ·have:x≠n:=by rintro rfl;exact h v AZ
   simp [this]
  ·rfl
theorem b16{kindOf:Str->Option NameKind}{x:Str}:∀{binds:List (Str×AA)} {m:Str->Option AA},(∀v,(x,v)∉binds)->bindC kindOf binds m x=m x
 |[],_,_=>rfl
 |(n,v)::r,m,h=>by
  unfold bindC;rw [b16 λw hw=>h w (Aa _ hw)];split
  ·rfl
  ·have:x≠n:=by rintro rfl;exact h v AZ
   simp [this]
theorem b17{kindOf:Str->Option NameKind}{x:Str}{v:AA}:∀{P:List Str} {vs:List AA} {i:Nat} {m:Str->Option AA},P.Nodup->P[i]?=ξ x->vs[i]?=ξ v->kindOf x=ξ .local->
 bindL kindOf (P.zip vs) m x=ξ v
 |[],_,_,_,_,h,_,_=>by simp at h
 |_::_,[],_,_,_,_,h,_=>by simp at h
 |p::P,w::vs,0,m,nd,h1,h2,hk=>by
  simp at h1 h2;subst h1;subst h2;show bindL kindOf ((p,w)::P.zip vs) m p=_;unfold bindL;rw [b18 λv hv=>(List.nodup_cons.mp nd).1 (List.of_mem_zip hv).1,if_pos hk];simp
 |p::P,w::vs,i+1,m,nd,h1,h2,hk=>by
  show bindL kindOf ((p,w)::P.zip vs) m x=_;unfold bindL;exact b17 (i:=i) (List.nodup_cons.mp nd).2 (by simpa using h1) (by simpa using h2) hk
theorem b15{kindOf:Str->Option NameKind}{x:Str}{v:AA}:∀{P:List Str} {vs:List AA} {i:Nat} {m:Str->Option AA},P.Nodup->P[i]?=ξ x->vs[i]?=ξ v->kindOf x≠ξ .local->
 bindC kindOf (P.zip vs) m x=ξ v
 |[],_,_,_,_,h,_,_=>by simp at h
 |_::_,[],_,_,_,_,h,_=>by simp at h
 |p::P,w::vs,0,m,nd,h1,h2,hk=>by
  simp at h1 h2;subst h1;subst h2;show bindC kindOf ((p,w)::P.zip vs) m p=_;unfold bindC;rw [b16 λv hv=>(List.nodup_cons.mp nd).1 (List.of_mem_zip hv).1,if_neg hk];simp
 |p::P,w::vs,i+1,m,nd,h1,h2,hk=>by
  show bindC kindOf ((p,w)::P.zip vs) m x=_;unfold bindC;exact b15 (i:=i) (List.nodup_cons.mp nd).2 (by simpa using h1) (by simpa using h2) hk
def a4Y(N:List Str)(vs:List V):St:=vs.map ξ++AQ (N.length - vs.length) ζ
def a9H(CX:CXT)(P:AJ)(w:AI)(K:AE)(mg:Str->Option AA)(base:Heap)(N:List Str)(qual:Str)(scope:Scope)(f:AB)(cd:AA)(A:AK)(outer:List Env)(s:AD)(H:Hp)(E:XK):Cx where
 prog:=P
 w:=w
 K:=K
 mg:=mg
 base:=base
 A:=A.deeper (envOfC qual scope s.heap.objs.size f cd)
 N:=N
 s₀:=s
 H₀:=H
 env:=envOfC qual scope s.heap.objs.size f cd
 outer:=outer
 stack:=envOfC qual scope s.heap.objs.size f cd::outer
 ex:=[]
 calm:=true
 fn:=λ_=>true
 pn:=[]
 xe:=λe s'=>AH (model P w) (A.deeper (envOfC qual scope s.heap.objs.size f cd)) (leaving (envOfC qual scope s.heap.objs.size f cd) e) (λ_ s''=>CX outer H s E e s'') (λe' s''=>CX outer H s E e' s'') s'
theorem b4C{sc:Scope}{n:Nat}{x:Str}(h:sc.names.lookup x=ξ .cell):∃c,(cellsFrom n sc.names []).lookup x=ξ c:=by
 have q:=PySem.W.cellsFrom_some sc.names n [] (.inl h);exact Option.isSome_iff_exists.mp q
theorem b8L{CX:CXT}{P:AJ}{w:AI}{K:AE}{mg:Str->Option AA}{base:Heap}{N ps:List Str}{qual:Str}{scope:Scope}{f:AB}{cd:AA}{A:AK}{outer:List Env}{s s1:AD}{H:Hp}{E:XK}{us:List AA}{vs:List V}
 (S:i8 N ps scope) (hd:A.handled=ζ) (e0:b5Z P w K mg base A outer s H) (hl:vs.length=ps.length) (r:u9 vs us)
 (x:InCallC s s.heap.objs.size (bindL (envOfC qual scope s.heap.objs.size f cd).kindOf (ps.zip us) λ_=>ζ) (cellsFrom (s.heap.objs.size+1) scope.names []) (bindC (envOfC qual scope s.heap.objs.size f cd).kindOf (ps.zip us) λ_=>ζ) s1):
 n3 (a9H CX P w K mg base N qual scope f cd A outer s H E) [] (a4Y N vs) H s1:=by
 have hpl:ps.length<=N.length:=by have:=congrArg List.length S.pre;rw [List.length_take] at this;lia
 obtain⟨h1,tk,rfl,hk⟩:=x.done
 have noA:∀b:AB,b∉(a9H CX P w K mg base N qual scope f cd A outer s H E).ex:=λb z=>absurd (show b∈([]:List AB) from z) (by simp)
 refine⟨⟨e0.mod,S.kind,rfl,rfl,AS _,λy z c h1 h2=> ?_,λy hy=> ?_,λy c _ h=> ?_,λ_=>hd,Around.frames_deeper e0.frames,.inr ⟨rfl,rfl⟩,λb z=>absurd z (noA b),e0.bs,e0.bsz,λb _ _=>noA b,λb z=>absurd z (noA b),e0.funs,e0.frf⟩,
  rfl,e0.bare,Un.kept hk,⟨_,x.toInCall.ns,λi y v h1 h2 h3=> ?_⟩,λy c h=>⟨_,x.cell y c h⟩,e0.hok.fresh (AS _),λy c h=> ?_,λp hp=>absurd (show p∈([]:List (AB×Obj)) from hp) (by simp),e0.hok.kept hk, ?_⟩
 ·exact name_of_addr x.apart (PySem.mem_of_lookup h1) (PySem.mem_of_lookup h2)
 ·have hy:scope.names.lookup y=ξ .cell\/scope.names.lookup y=ξ .free:=hy
  rcases hy with hy|hy
  ·exact b4C hy
  ·exact absurd rfl (S.nofree _ (PySem.mem_of_lookup hy))
 ·exact BD (x.above y c (PySem.mem_of_lookup h))
 ·have hi:i<vs.length:=by
   unfold a4Y at h2
   by_cases hi:i<vs.length
   ·exact hi
   ·rw [List.getElem?_append_right (by simpa using hi)] at h2
    rw [List.getElem?_replicate] at h2;split at h2<;>cases h2
  have ha:vs[i]?=ξ v:=by
   unfold a4Y at h2;rw [Aw (by simpa using hi),Ao] at h2
   cases e:vs[i]? with
   |none=>rw [e] at h2;cases h2
   |some a=>rw [e] at h2;cases h2;rfl
  obtain⟨u,hu,rv⟩:=r.get ha;have hp:ps[i]?=ξ y:=by
   rw [<-S.pre,List.getElem?_take_of_lt (by lia)];exact h1
  have ndP:ps.Nodup:=by rw [<-S.pre];exact S.nd.sublist (List.take_sublist _ _)
  refine⟨u,rv, ?_⟩;rcases S.par y (BE hp) with k|k
  ·exact .inl ⟨k,b17 ndP hp hu k⟩
  ·obtain⟨c,e⟩:=b4C (n:=s.heap.objs.size+1) k;refine .inr ⟨.inl k,c,e, ?_⟩;have q:=x.cell y c e;rw [b15 ndP hp hu (by show scope.names.lookup y≠_;rw [k];decide)] at q
   exact q
 ·exact e0.hok.fresh (BD (x.above y c (PySem.mem_of_lookup h)))
 ·unfold a4Y
  show _=N.length
  rw [AY,AW,List.length_replicate]
  lia
theorem c5U{CX:CXT}{P:AJ}{w:AI}{K:AE}{mg:Str->Option AA}{base:Heap}{k:Nat}{f:AB}{name qual:Str}{params:Arguments}{body:List Stmt}{scope:Scope}{dV kV doc pm cdv ct oc:AA}{an od:Option AB}
 {osl:Array (Option AA)} {N ps:List Str} {sp:Sp} (lk:K.lookup f=ξ ⟨oc,od,.func (PySem.W.fnOf name qual params body scope dV kV doc pm an cdv ct),osl⟩) (hcd:PySem.W.codeIn K cdv qual=true) (S:i8 N ps scope)
 (len:∀vs H Q E,sp vs H Q E->vs.length=ps.length)
 (hbody:∀(A:AK) (outer:List Env) (s:AD) (H:Hp) (vs:List V) (Q:VK) (E:XK),O1 k (A.deeper (envOfC qual scope s.heap.objs.size f cdv))->sp vs H Q E->
  ∃t,PSs (a9H CX P w K mg base N qual scope f cdv A outer s H E) body t/\t {nx:=λ_ H'=>Q .non H',rt:=Q} (a4Y N vs) H):
 U7 P w K mg base CX (k+1) f (PySem.W.fnOf name qual params body scope dV kV doc pm an cdv ct) ps sp:=by
 refine⟨len,λA outer s H args us vs Q E hr e0 hb r hsp=> ?_⟩
 have hl:=len _ _ _ _ hsp
 have KX:K.In s.heap:=e0.mod.kin.keeps λb o e=>(e0.bs b o e).1
 have lim:s.heap.NoLimit:=e0.mod.nolimit.keeps λb o e=>(e0.bs b o e).1
 have hkind:∀y∈ps.zip us,scope.names.lookup y.1=ξ .local\/(scope.names.lookup y.1=ξ .cell/\((cellsFrom (s.heap.objs.size+1) scope.names []).lookup y.1).isSome=true):=λ⟨n,v⟩ hy=>by
  rcases S.par n (List.of_mem_zip hy).1 with q|q
  ·exact .inl q
  ·exact .inr ⟨q,PySem.W.cellsFrom_some _ _ _ (.inl q)⟩
 refine codeAny_call_function hr.depth (KX _ _ lk) rfl S.co S.gen rfl (PySem.W.codeRec_of KX hcd) (hb _ _ _ _ ?_)
 refine wpAny_newFunctionEnv_cells S.kind hkind λenv he s1 x=> ?_
 subst he
 refine⟨lim.keeps x.toInCall.keep,codeAny_func ?_⟩
 obtain⟨t,ht,hq⟩:=hbody A outer s H vs Q E (hr.deeper _) hsp
 have I:n3 (a9H CX P w K mg base N qual scope f cdv A outer s H E) [] (a4Y N vs) H s1:=b8L S hr.hd e0 hl r x
 refine wpAny_mono (ht [] s1 (a4Y N vs) H _ I hq) (λfl s' hs=> ?_) λe s' hs=>hs
 have fin:∀{σ':St} {H':Hp} {v:V} {u:AA},n3 (a9H CX P w K mg base N qual scope f cdv A outer s H E) [] σ' H' s'->w6 v u->Q v H'->CE outer P w H s Q u s':=
  λ {σ' H' v u} J rv q=>⟨v,H',J.os,J.bare,J.base,J.hok,rv,q⟩
 cases fl with
 |ret u=>
  obtain⟨v,σ',H',J,rv,q⟩:=hs
  exact fin J rv q
 |next=>
  obtain⟨σ',H',J,q⟩:=hs
  exact fin (v:=V.non) (u:=Value.none) J rfl q
 |brk=>
  obtain⟨_,_,_,q⟩:=hs
  exact False.elim q
 |cont=>
  obtain⟨_,_,_,q⟩:=hs
  exact False.elim q
section
variable {X:Cx}{x:Str}{p pos:Pos}{e:AG}{es:List AG}{t:TA}{id T:String}{r:List V->Hp->VK->Prop}
def tCB(r:List V->Hp->VK->Prop)(t:TA):TE:=λσ H Q=>t σ H λvs H1=>r vs H1 Q
theorem b0u(hc:T5 X (.builtin id) r)(hg:Gl X x)(hm:X.mg x=ζ)(hv:bootBuiltins x=ξ (.builtin id))(ha:PA X (e::es) t)(hn:x≠"__name__":=by decide)(hdb:(x==("__debug__":Str))=false:=by decide)
 (he:AL (e::es) X.env=(false,eval e X.env)::AL es X.env:=by rfl) (hpl:(backTo pos (AL es X.env)).any (·.1)=false:=by rfl):PE X (.Call (.Name x p) (e::es) [] pos) (tCB r t):=by
 intro pins s σ H Q I h
 refine wpAny_Call_Name_kw (a18 I hg hm hv ?_ hn hdb)
 exact PyProof.Rows.callWith_builtin1 (M8 (ha pos pins s σ H _ I h) λus s1 h0=>v9 h0 λvs H1 I1 r1 q1=>hc pins s1 σ H1 vs us Q I1 r1 q1) he hpl
theorem b9e(hc:T5 X (.type T) r)(hg:Gl X x)(hm:X.mg x=ζ)(hv:bootBuiltins x=ξ (.type T))(ha:PA X (e::es) t)(hn:x≠"__name__":=by decide)(hdb:(x==("__debug__":Str))=false:=by decide)
 (he:AL (e::es) X.env=(false,eval e X.env)::AL es X.env:=by rfl) (hpl:(backTo pos (AL es X.env)).any (·.1)=false:=by rfl):PE X (.Call (.Name x p) (e::es) [] pos) (tCB r t):=by
 intro pins s σ H Q I h
 refine wpAny_Call_Name_kw (a18 I hg hm hv ?_ hn hdb)
 exact PyProof.Rows.callWith_type1 (M8 (ha pos pins s σ H _ I h) λus s1 h0=>v9 h0 λvs H1 I1 r1 q1=>hc pins s1 σ H1 vs us Q I1 r1 q1) he hpl
end
end L2
namespace HT
open PySem PyProof.Rows
section
open PySem.SeqAt
open PySem.AutoSeq1 (wpAny_loadPart')
open PySem.MeetsSeq PySem.MeetsSeq2 PySem.MeetsSeq3
end
section
variable {prog:AJ}{w:AI}{A:AK}{E:AA->AD->Prop}{s:AD}
theorem cat_tup{t b:AB}{vs ws:List AA}{Q:AA->AD->Prop}(ht:IsTup s.heap t vs.toArray)(hb:IsTup s.heap b ws.toArray)(hv:vs≠[])
 (h1:ws=[]->Q (.ref t) s) (h2:ws≠[]->Q (.ref s.heap.objs.size) {s with heap:=s.heap.push {cls:= .type "tuple",data:= .seq (vs++ws).toArray}})
 (hsz:vs.length+ws.length<=AM):AH (model prog w) A (binaryOp .Add (.ref t) (.ref b)) Q E s:=by
 obtain⟨⟨cls,dd,data,sl⟩,ho,hc,n,hd⟩:=id ht
 obtain⟨⟨cls2,dd2,data2,sl2⟩,ho2,hc2,n2,hd2⟩:=id hb
 simp only at hc hd hc2 hd2
 subst hc hd hc2 hd2
 have e:vs.toArray++ws.toArray=(vs++ws).toArray:=by simp
 by_cases hw:ws=[]
 ·exact concat_meets ⟨_,ho,rfl⟩ ⟨_,ho2,rfl⟩ noFill_tuple_add seq_tuple_add PySem.F.slot_tuple_add PySem.F.entry_tuple_add (PySem.F.args_tuple_add_2 _ _)
   (tuple_addW1 t b vs.toArray ws.toArray n n2 dd dd2 sl sl2 (by simpa using hv) (by simp [hw])) ⟨ho,ho2,h1 hw⟩
 ·refine concat_meets ⟨_,ho,rfl⟩ ⟨_,ho2,rfl⟩ noFill_tuple_add seq_tuple_add PySem.F.slot_tuple_add PySem.F.entry_tuple_add (PySem.F.args_tuple_add_2 _ _)
   (tuple_addW2 t b vs.toArray ws.toArray n n2 dd dd2 sl sl2 (by simpa using hv) (by simpa using hw) (by rw [Ai,Ai];exact hsz)) ⟨ho,ho2, ?_⟩
  rw [e]
  exact h2 hw
def sIx(n d:Nat):Option Int->Nat
 |none=>d
 |some v=>if v<0 then(v+(n:Int)).toNat else min v.toNat n
theorem sIx_le(n d:Nat)(hd:d<=n)(o:Option Int):sIx n d o<=n:=by
 cases o with
 |none=>exact hd
 |some v=>
  show(if v<0 then(v+(n:Int)).toNat else min v.toNat n)<=n
  by_cases hv:v<0
  ·rw [if_pos hv];lia
  ·rw [if_neg hv];exact Nat.min_le_right _ _
theorem b7g(v:Int)(n d:Nat):(if v<0 then max (v+(n:Int)) 0 else min v (n:Int))=((sIx n d (ξ v):Nat):Int):=by
 show(if v<0 then max (v+(n:Int)) 0 else min v (n:Int))=(((if v<0 then(v+(n:Int)).toNat else min v.toNat n):Nat):Int)
 by_cases hv:v<0
 ·simp only [if_pos hv];lia
 ·simp only [if_neg hv];lia
theorem b57(lo hi:Option Int)(n:Nat):Builtin.Slice.sliceAdjust lo hi 1 (n:Int)=(((sIx n 0 lo:Nat):Int),((sIx n n hi:Nat):Int)):=by
 have h1:¬((1:Int)<0):=by lia
 unfold Builtin.Slice.sliceAdjust;simp only [h1,if_false];refine Prod.ext ?_ ?_
 ·cases lo with
  |none=>rfl
  |some v=>exact b7g v n 0
 ·cases hi with
  |none=>rfl
  |some v=>exact b7g v n n
theorem b6O(i j:Nat):Builtin.Slice.slicePlaces (i:Int) (j:Int) 1=j - i:=by
 unfold Builtin.Slice.slicePlaces;have h1:(1:Int)>0:=by lia
 simp only [h1,if_true,Int.ediv_one];split<;>lia
theorem b0K{v:AA}{o:Option Int}{Q:Option Int->AD->Prop}(p:IsPart v o)(h:Q o s):AH (model prog w) A (Builtin.Slice.slicePartIndex v) Q E s:=by
 cases p with
 |none=>exact slicePart_none h
 |int i t=>exact slicePart_int h
theorem sliceApplied_gen{sl:AB}{vl vu:AA}{lo hi:Option Int}{n:Nat}{Q:Int×Int×Nat->AD->Prop}(hs:s.heap.IsSliceOf sl vl vu .none)(pl:IsPart vl lo)(pu:IsPart vu hi)
 (h:Q (((sIx n 0 lo:Nat):Int),1,sIx n n hi - sIx n 0 lo) s):AH (model prog w) A (Builtin.Slice.sliceApplied (.ref sl) (pure (n:Int))) Q E s:=by
 obtain⟨os,hos,hcs,hds⟩:=id hs
 unfold Builtin.Slice.sliceApplied Builtin.Slice.sliceFields
 refine AF (AF (wpAny_field hos hds (x:=vl) rfl (AF (wpAny_field hos hds (x:=vu) rfl (AF (wpAny_field hos hds (x:= .none) rfl (AR ?_)))))))
 refine AF (slicePart_none ?_)
 show AH _ _ (if((1:Int)==0)=true then _ else _) _ _ s
 rw [if_neg (by decide)]
 refine AF (b0K pl (AF (b0K pu (AF (AR ?_)))))
 show AH _ _ (match Builtin.Slice.sliceAdjust lo hi 1 (n:Int) with|(lo,hi)=>pure (lo,(1:Int),Builtin.Slice.slicePlaces lo hi 1)) _ _ s
 rw [b57 lo hi n]
 show AH _ _ (pure (((sIx n 0 lo:Nat):Int),(1:Int),Builtin.Slice.slicePlaces ((sIx n 0 lo:Nat):Int) ((sIx n n hi:Nat):Int) 1)) _ _ s
 rw [b6O]
 exact AR h
theorem c1q(xs:Array AA)(i k:Nat):((AT k).filterMap λ(m:Nat)=>xs[((i:Int)+(m:Int)*1).toNat]?).toArray=((xs.toList.drop i).take k).toArray:=by
 have e:(λ(m:Nat)=>xs[((i:Int)+(m:Int)*1).toNat]?)=λm=>xs[i+m]?:=by
  funext m
  have:((i:Int)+(m:Int)*1).toNat=i+m:=by lia
  rw [this]
 rw [e];have:=pick_run xs i k;rw [List.filterMap_map] at this;have e2:((λx=>xs[x]?)∘λx=>i+x)=λm=>xs[i+m]?:=rfl;rw [e2] at this;rw [this]
theorem getItem_tuple_cut{t sl:AB}{items:Array AA}{vl vu:AA}{lo hi:Option Int}{Q:AA->AD->Prop}(ht:IsTup s.heap t items)(hs:s.heap.IsSliceOf sl vl vu .none)(pl:IsPart vl lo)(pu:IsPart vu hi)
 (hw:¬(sIx items.size 0 lo=0/\sIx items.size items.size hi=items.size))
 (h:Q (.ref s.heap.objs.size) {s with heap:=s.heap.push {cls:= .type "tuple",data:= .seq ((items.toList.drop (sIx items.size 0 lo)).take (sIx items.size items.size hi - sIx items.size 0 lo)).toArray}})
 (hsz:items.size<=AM):AH (model prog w) A (getItem (.ref t) (.ref sl)) Q E s:=by
 have htake:sizeOk (.seq ((items.toList.drop (sIx items.size 0 lo)).take (sIx items.size items.size hi - sIx items.size 0 lo)).toArray):=by
  show((items.toList.drop (sIx items.size 0 lo)).take (sIx items.size items.size hi - sIx items.size 0 lo)).toArray.size<=AM;rw [Ai,List.length_take,List.length_drop,Array.length_toList]
  lia
 have hj:sIx items.size items.size hi<=items.size:=sIx_le _ _ (AS _) hi
 obtain⟨os,hos,hcs,hds⟩:=id hs
 have hTs:s.TypeIs (.ref sl) "slice":=⟨os,hos,hcs⟩
 unfold getItem
 try with_reducible refine wpAny_holding ?_
 first|refine AF (AR ?_)|skip
 refine AF (wpAny_sequenceKey ht.typeIs (by decide) ?_)
 refine AF (wpAny_callSpecial?_slot (name:=AC "__getitem__") ht.typeIs PyProof.Rows.slot_tuple_getitem
  (wpAny_call_entry PyProof.Rows.slot_tuple_getitem ht.typeIs entry_tuple_getitem ?_ (args_tuple_getitem _ _)))
 show AH _ _ (Builtin.Tuple.tupleItemsOf (.ref t)>>=_) _ _ s
 refine AF (tupleItemsOf_ ht ?_)
 refine AF (wpAny_typeOf hTs ?_)
 rw [if_pos (by decide)]
 refine AF (sliceApplied_gen hs pl pu ?_)
 have hno:¬((((sIx items.size 0 lo:Nat):Int)==0 &&(1:Int)==1 &&(sIx items.size items.size hi - sIx items.size 0 lo)==items.size)=true):=by
  intro q;rw [Bool.and_eq_true,Bool.and_eq_true] at q;have q1:((sIx items.size 0 lo:Nat):Int)=0:=eq_of_beq q.1.1;have q2:sIx items.size items.size hi - sIx items.size 0 lo=items.size:=eq_of_beq q.2;exact hw ⟨by lia,by lia⟩
 show AH _ _ (if(((sIx items.size 0 lo:Nat):Int)==0 &&(1:Int)==1 &&(sIx items.size items.size hi - sIx items.size 0 lo)==items.size)=true then _ else _) _ _ s
 rw [if_neg hno,c1q]
 first
  |exact AF (m:=Builtin.Tuple.tupleExact _) (wpAny_newObj_type (AR ⟨_,rfl,AR h⟩) htake)
  |exact AF (m:=Builtin.Tuple.tupleExact _) (wpAny_newObj_type (AF (AR (AR ⟨_,rfl,AR h⟩))) htake)
  |exact AF (AF (m:=Builtin.Tuple.tupleExact _) (wpAny_newObj_type (AR (AR ⟨_,rfl,AR h⟩)) htake))
  |exact AF (AF (m:=Builtin.Tuple.tupleExact _) (wpAny_newObj_type (AR ⟨_,rfl,AR h⟩) htake))
end
end HT
namespace L2
open PySem PySem.Spec PyProof.Rows
abbrev TO:=St->Hp->(Option Int->Hp->Prop)->Prop
def PO(X:Cx)(e:Option AG)(t:TO):Prop:=
 ∀(pins:List (AB×Obj)) (s:AD) (σ:St) (H:Hp) (Q:Option Int->Hp->Prop),n3 X pins σ H s->t σ H Q->
  AH (model X.prog X.w) X.A (evalPart e X.env) (λu s'=>∃o H',n3 X pins σ H' s'/\IsPart u o/\Q o H') X.xe s
def c3J:TO:=λ_ H Q=>Q ζ H
def c6o(t:TE):TO:=λσ H Q=>t σ H λx H1=>∃i,x= .int i/\Q (ξ i) H1
section
variable {X:Cx}{e:AG}{te:TE}{lo hi:Option AG}{tl th:TO}{pos p2:Pos}
theorem c3g:PO X ζ c3J:=by
 ext n
 rw [evalPart_none];exact AR ⟨ζ,H,I,.none,h⟩
theorem c3h(h:PE X e te):PO X (ξ e) (c6o te):=by
 intro pins s σ H Q I hw;rw [evalPart_some];refine M8 (h pins s σ H _ I hw) λu s1 h0=>v9 h0 λx H1 I1 r1 q1=> ?_;obtain⟨i,rfl,q⟩:=q1;obtain⟨t,rfl⟩:=r1;exact⟨ξ i,H1,I1,.int i t,q⟩
def SlR(X:Cx)(r:V->Option Int->Option Int->Hp->VK->Prop):Prop:=
 ∀(pins:List (AB×Obj)) (s:AD) (σ:St) (H:Hp) (x:V) (v vl vu:AA) (lo hi:Option Int) (sl:AB) (Q:VK),n3 X pins σ H s->w6 x v->s.heap.IsSliceOf sl vl vu .none->IsPart vl lo->IsPart vu hi->r x lo hi H Q->
  ∃T id,typeLookup (.type T) "__getitem__"=pure (ξ (.builtin id))/\s.TypeIs v T/\AH (model X.prog X.w) X.A (getItem v (.ref sl)) (EP X pins σ Q) X.xe s
def tSl(r:V->Option Int->Option Int->Hp->VK->Prop)(te:TE)(tl th:TO):TE:=λσ H Q=>te σ H λx H1=>tl σ H1 λl H2=>th σ H2 λu H3=>r x l u H3 Q
theorem c1n{r:V->Option Int->Option Int->Hp->VK->Prop}(hr:SlR X r)(he:PE X e te)(hl:PO X lo tl)(hu:PO X hi th):PE X (.Subscript e (.Slice lo hi ζ p2) pos) (tSl r te tl th):=by
 ext n
 refine Subscript_ (M8 (he pins s σ H _ I h) λv s1 h0=>v9 h0 λx H1 I1 r1 q1=> ?_);refine wpAny_Slice (M8 (hl pins s1 σ H1 _ I1 q1) λvl s2 h0=>v9 h0 λl H2 I2 pl q2=>M8 (hu pins s2 σ H2 _ I2 q2) λvu s3 h0=>v9 h0 λu H3 I3 pu q3=> ?_);rw [evalPart_none];refine AR ?_;have I4:n3 X pins σ H3 {s3 with heap:=s3.heap.push {cls:= .type "slice",data:= .fields #[vl,vu,.none]}}:=I3.kept (t':=s3.toks) λb ob q=>AV _ q
 obtain⟨T,id,hT,ht,hg⟩:=hr pins {s3 with heap:=s3.heap.push {cls:= .type "slice",data:= .fields #[vl,vu,.none]}} σ H3 x v vl vu l u s3.heap.objs.size Q I4 r1 (Heap.IsSliceOf.new ..) pl pu q3
 show AH (model X.prog X.w) X.A (subscriptTail e (.Slice lo hi ζ p2) v (.ref s3.heap.objs.size)) (EP X pins σ Q) X.xe {s3 with heap:=s3.heap.push {cls:= .type "slice",data:= .fields #[vl,vu,.none]}}
 exact tail_any (ops:=[.ref s3.heap.objs.size,v]) ht hT hg (by with_unfolding_all rfl)
def c2l(xs:List V)(lo hi:Option Int):List V:=(xs.drop (HT.sIx xs.length 0 lo)).take (HT.sIx xs.length xs.length hi - HT.sIx xs.length 0 lo)
theorem b4H(xs:List V)(lo hi:Option Int):(c2l xs lo hi).length<=xs.length:=by
 unfold c2l;rw [List.length_take,List.length_drop]
 lia
def c6P(K:AE):V->Option Int->Option Int->Hp->VK->Prop:=λx lo hi H Q=>∃a xs,x= .ref a/\SqT K H a xs/\
 ¬(HT.sIx xs.length 0 lo=0/\HT.sIx xs.length xs.length hi=xs.length)/\∀p,H p=ζ->Q (.ref p) (B9 H p (.tup (c2l xs lo hi)))
theorem c5w:SlR X (c6P X.K):=by
 ext u
 refine⟨"tuple",_,PyProof.Rows.slot_tuple_getitem.lookup,ht.typeIs, ?_⟩;refine HT.getItem_tuple_cut ht hs pl pu (by rw [hlen];exact hw) ?_ (by rw [hlen];exact hz)
 rw [hlen];refine⟨.ref s.heap.objs.size,_,I.laid (t':=s.toks) (o:= .tup (c2l xs lo hi)) (λb ob q=>AV _ q) (AS _) ?_,rfl,q _ (I.hok.fresh (AS _))⟩;exact⟨Nat.le_trans (b4H xs lo hi) hz,_,(r.drop (HT.sIx xs.length 0 lo)).take (HT.sIx xs.length xs.length hi - HT.sIx xs.length 0 lo),IsTup.new _ _⟩
def c6d(K:AE):R2:=λx y H Q=>∃a b xs ys,x= .ref a/\y= .ref b/\SqT K H a xs/\SqT K H b ys/\xs≠[]/\xs.length+ys.length<=AM/\
 (ys=[]->Q (.ref a) H)/\(ys≠[]->∀p,H p=ζ->Q (.ref p) (B9 H p (.tup (xs++ys))))
theorem u9.nil_iff{xs:List V}{us:List AA}(r:u9 xs us):us=[]↔xs=[]:=by
 cases r with
 |nil=>simp
 |cons _ _=>simp
theorem c22:OpR X (binaryOp .Add) (c6d X.K):=by
 ext o
 obtain⟨a,b,xs,ys,rfl,rfl,ha,hb,hx,hz,q1,q2⟩:=h;cases rx;cases ry;obtain⟨its,r1,p1,_⟩:=I.tuple ha;obtain⟨its2,r2,p2,_⟩:=I.tuple hb;refine HT.cat_tup p1 p2 (λz=>hx (r1.nil_iff.mp z)) (λz=>⟨.ref a,H,I,rfl,q1 (r2.nil_iff.mp z)⟩) (λz=> ?_) (by rw [<-r1.length,<-r2.length];exact hz)
 refine⟨.ref s.heap.objs.size,_,I.laid (t':=s.toks) (o:= .tup (xs++ys)) (λb ob q=>AV _ q) (AS _) ?_,rfl,q2 (λw=>z (r2.nil_iff.mpr w)) _ (I.hok.fresh (AS _))⟩;exact⟨by rw [AY];exact hz,_,r1.append r2,IsTup.new _ _⟩
end
def ixN(n:Nat)(i:Int):Option Nat:=if 0<=i then(if i<n then ξ i.toNat else ζ) else if -(n:Int)<=i then ξ (i+n).toNat else ζ
def atI{α:Type}(xs:List α)(i:Int):Option α:=(ixN xs.length i).bind λj=>xs[j]?
theorem c2K{n:Nat}{i:Int}{j:Nat}(h:ixN n i=ξ j):seqIndex? i n=ξ j/\j<n/\ -(n:Int)<=i/\i<n:=by
 unfold ixN at h
 by_cases h0:0<=i
 ·rw [if_pos h0] at h
  by_cases h1:i<n
  ·rw [if_pos h1] at h;have e:i.toNat=j:=Option.some.inj h;exact⟨by rw [seqIndex_of h0 h1,e],by lia,by lia,h1⟩
  ·rw [if_neg h1] at h;cases h
 ·rw [if_neg h0] at h
  by_cases h1: -(n:Int)<=i
  ·rw [if_pos h1] at h;have e:(i+n).toNat=j:=Option.some.inj h;exact⟨by rw [seqIndex_neg (by lia) h1,e],by lia,h1,by lia⟩
  ·rw [if_neg h1] at h;cases h
theorem b26{α:Type}{xs:List α}{i:Int}{v:α}(h:atI xs i=ξ v):∃j,seqIndex? i xs.length=ξ j/\xs[j]?=ξ v/\j<xs.length/\ -(xs.length:Int)<=i/\i<xs.length:=by
 unfold atI at h;cases e:ixN xs.length i with
 |none=>rw [e] at h;cases h
 |some j=>
  rw [e] at h;obtain⟨h1,h2,h3,h4⟩:=c2K e;exact⟨j,h1,h,h2,h3,h4⟩
def b69(b:AG):Prop:=∀o i,subscripted b false o i=operate [o,i] (getItem o i)
def IxR(X:Cx)(r:R2):Prop:=
 ∀(value slice:AG) (pins:List (AB×Obj)) (s:AD) (σ:St) (H:Hp) (x y:V) (v u:AA) (Q:VK),n3 X pins σ H s->w6 x v->w6 y u->r x y H Q->
  subscripted slice false v u=operate [v,u] (getItem v u)->AH (model X.prog X.w) X.A (subscriptTail value slice v u) (EP X pins σ Q) X.xe s
def MtR(X:Cx)(id:String)(r:V->List V->Hp->VK->Prop):Prop:=
 ∀(pins:List (AB×Obj)) (s:AD) (σ:St) (H:Hp) (x:V) (xs:List V) (v:AA) (us:List AA) (Q:VK),n3 X pins σ H s->w6 x v->u9 xs us->r x xs H Q->
  AH (model X.prog X.w) X.A (call (.builtin id) (v::us)) (EP X pins σ Q) X.xe s
section
variable {X:Cx}{a b:AG}{ta tb:TE}{pos:Pos}
theorem c58{r:R2}(hr:IxR X r)(ha:PE X a ta)(hb:PE X b tb)(hs:b69 b):PE X (.Subscript a b pos) (tOp r ta tb):=by
 ext n
 exact Subscript_ (c4l ha hb I h λv u s2 x y H2 I2 rx ry q=>hr a b pins s2 σ H2 x y v u Q I2 rx ry q (hs _ _))
def c6L(K:AE):R2:=λx y H Q=>∃p xs i v,x= .ref p/\y= .int i/\SqL K H p xs/\atI xs i=ξ v/\Q v H
def c6N(K:AE):R2:=λx y H Q=>∃p xs i v,x= .ref p/\y= .int i/\SqT K H p xs/\atI xs i=ξ v/\Q v H
def c6M:R2:=λx y H Q=>∃z i c,x= .str z/\y= .int i/\z.length<=AM/\atI z.cps.toList i=ξ c/\Q (.str ⟨#[c]⟩) H
theorem c2L:IxR X (c6L X.K):=by
 intro value slice pins s σ H x y v u Q I rx ry h hs;obtain⟨p,xs,i,z,rfl,rfl,hq,he,q⟩:=h;cases rx;obtain⟨t,rfl⟩:=ry;obtain⟨its,r,pl,hz⟩:=I.list hq;obtain⟨j,h1,h2,h3,h4,h5⟩:=b26 he;obtain⟨w,ew,rw'⟩:=r.get h2;have hl:=r.length;have hn:=a75;have fin:EP X pins σ Q w s:=⟨z,H,I,rw',q⟩
 by_cases h0:0<=i
 ·have hj:i.toNat=j:=by
   rw [seqIndex_of h0 h5] at h1;exact Option.some.inj h1
  exact item_listR pl.isList h0 (by lia) (by rw [hj];simpa using ew) fin hs
 ·have hj:(i+(its.toArray.size:Int)).toNat=j:=by
   rw [seqIndex_neg (by lia) h4] at h1
   rw [Ai,<-hl];exact Option.some.inj h1
  exact subscriptTail_builtinR (x:=w) pl.isList.typeIs slot_list_getitem.lookup
   (wpAny_getItem_list_neg (Q:=λr s'=>r=w/\EP X pins σ Q r s') pl.isList (by lia) (by rw [Ai]<;>lia) (by lia) (by rw [hj];simpa using ew) ⟨rfl,fin⟩) hs
theorem c4L:IxR X (c6N X.K):=by
 intro value slice pins s σ H x y v u Q I rx ry h hs;obtain⟨p,xs,i,z,rfl,rfl,hq,he,q⟩:=h;cases rx;obtain⟨t,rfl⟩:=ry;obtain⟨its,r,pl,hz⟩:=I.tuple hq;obtain⟨j,h1,h2,h3,h4,h5⟩:=b26 he;obtain⟨w,ew,rw'⟩:=r.get h2;have hl:=r.length;have hn:=a75;have fin:EP X pins σ Q w s:=⟨z,H,I,rw',q⟩;exact subscriptTail_builtinR (x:=w) pl.typeIs slot_tuple_getitem.lookup
  (getItem_tuple (j:=j) (Q:=λr s'=>r=w/\EP X pins σ Q r s') pl (by lia) (by lia) (by rw [Ai,<-hl];exact h1) (by simpa using ew) ⟨rfl,fin⟩) hs
theorem c4K:IxR X c6M:=by
 intro value slice pins s σ H x y v u Q I rx ry h hs;obtain⟨z,i,c,rfl,rfl,hz,he,q⟩:=h
 ext v
 obtain⟨j,h1,h2,h3,h4,h5⟩:=b26 he;have hl:z.cps.toList.length=z.length:=by simp [Str.length]
 rw [hl] at h1 h4 h5;have hn:=a75;exact tail_any (typeIs_str s z t) slot_str_getitem.lookup (getItem_str (c:=c) (by
  have e1:decide (i< -(2 ^ 63:Int))=false:=decide_eq_false (by lia)
  have e2:decide (i>=2 ^ 63)=false:=decide_eq_false (by lia)
  rw [e1,e2,Bool.or_false]) (by rw [h1];simpa using h2) ⟨.str ⟨#[c]⟩,H,I.tok _,⟨_,rfl⟩,q⟩) hs
theorem b3c:T5 X (.builtin "len") (λxs H Q=>∃p ys,xs=[.ref p]/\(SqL X.K H p ys\/SqT X.K H p ys)/\Q (.int ys.length) H):=by
 intro pins s σ H xs us Q I r h;obtain⟨p,ys,rfl,hq,q⟩:=h;obtain⟨u,rfl,rx⟩:=a2I r;cases rx;have hn:=a75;rcases hq with hq|hq
 ·obtain⟨its,r',pl,hz⟩:=I.list hq;have hlen:=r'.length;exact Calls.call_len_list pl.isList (by simp only [Ai]<;>lia) ⟨.int ys.length,H,I.tok _,⟨s.toks+1,by rw [Ai,hlen]⟩,q⟩
 ·obtain⟨its,r',pl,hz⟩:=I.tuple hq;have hlen:=r'.length;exact len_tuple pl (by simp only [Ai]<;>lia) ⟨.int ys.length,H,I.tok _,⟨s.toks+1,by rw [Ai,hlen]⟩,q⟩
theorem b3d:T5 X (.builtin "len") (λxs H Q=>∃z,xs=[.str z]/\z.length<=AM/\Q (.int z.length) H):=by
 intro pins s σ H xs us Q I r h;obtain⟨z,rfl,hz,q⟩:=h;obtain⟨u,rfl,t,rfl⟩:=a2I r;have hn:=a75;exact len_str (by lia) ⟨.int z.length,H,I.tok _,⟨_,rfl⟩,q⟩
theorem b07:T5 X (.type "tuple") (λxs H Q=>∃p ys,xs=[.ref p]/\((SqL X.K H p ys/\∀l,H l=ζ->Q (.ref l) (B9 H l (.tup ys)))\/(SqT X.K H p ys/\Q (.ref p) H))):=by
 intro pins s σ H xs us Q I r h;obtain⟨p,ys,rfl,h⟩:=h;obtain⟨u,rfl,rx⟩:=a2I r;cases rx;rcases h with⟨hq,q⟩|⟨hq,q⟩
 ·obtain⟨its,r',pl,hz⟩:=I.list hq;have hlen:=r'.length;refine call_tuple_list pl.isList (λh' kp=> ?_) (by simp only [Ai]<;>lia)
  have I1:n3 X pins σ H {s with heap:=h'}:=I.kept (t':=s.toks) kp
  have I2:n3 X pins σ (B9 H h'.objs.size (.tup ys)) {s with heap:=h'.push {cls:= .type "tuple",data:= .seq its.toArray}}:=
   I1.laid (t':=s.toks) (λb o e=>AV _ e) (AS _) (show N4 X.prog X.w _ _ _ (.tup ys) from⟨hz,its,r',IsTup.new _ _⟩)
  exact⟨.ref h'.objs.size,_,I2,rfl,q _ (I1.hok.fresh (AS _))⟩
 ·obtain⟨its,r',pl,hz⟩:=I.tuple hq;exact call_tuple_same pl ⟨.ref p,H,I,rfl,q⟩
def tyV(K:AE)(T:String)(x:V)(H:Hp):Prop:=match x with
 | .str _=>T="str"
 | .int _=>T="int"
 | .ref p=>(T="list"/\∃xs,SqL K H p xs)\/(T="tuple"/\∃o,K.lookup p=ξ o/\o.cls= .type "tuple"/\o.dict=ζ)\/
  (T="dict"/\((∃kvs,H p=ξ (.dK kvs))\/∃kvs,H p=ξ (.dT kvs)))\/(T="set"/\∃S n,H p=ξ (.set S n))
 |_=>False
theorem c14{pins:List (AB×Obj)}{σ:St}{H:Hp}{s:AD}{T:String}{x:V}{v:AA}(I:n3 X pins σ H s)(r:w6 x v)(ty:tyV X.K T x H):
 s.TypeIs v T/\∀a,v= .ref a->∃ob,s.heap.get? a=ξ ob/\ob.dict=ζ:=by
 cases x with
 |str z=>
  obtain⟨t,rfl⟩:=r
  cases(show T="str" from ty)
  exact⟨typeIs_str s z t,λ_ e=>nomatch e⟩
 |int i=>
  obtain⟨t,rfl⟩:=r
  cases(show T="int" from ty)
  exact⟨typeIs_int s i t,λ_ e=>nomatch e⟩
 |ref p=>
  cases r
  rcases ty with⟨rfl,xs,hq⟩|⟨rfl,o,hk,hc,hd⟩|⟨rfl,hk⟩|⟨rfl,S,n,hk⟩
  ·obtain⟨its,_,pl,_⟩:=I.list hq
   refine⟨pl.isList.typeIs,λa e=> ?_⟩
   cases e
   obtain⟨o,n,e,c,hd,_⟩:=pl
   exact⟨o,e,hd⟩
  ·refine⟨⟨o,I.kIn p o hk,hc⟩,λa e=> ?_⟩
   cases e
   exact⟨o,I.kIn _ o hk,hd⟩
  ·have z:∃o,s.heap.get? p=ξ o/\o.ExactDict:=by
    rcases hk with⟨kvs,hk⟩|⟨kvs,hk⟩
    ·obtain⟨_,_,_,_,o,_,_,e,ex,_⟩:=I.hok p _ hk;exact⟨o,e,ex⟩
    ·obtain⟨_,_,_,_,o,_,_,e,ex,_⟩:=I.hok p _ hk;exact⟨o,e,ex⟩
   obtain⟨o,e,ex⟩:=z;refine⟨⟨o,e,ex.1⟩,λa e2=> ?_⟩;cases e2;exact⟨o,e,ex.2.1⟩
  ·obtain⟨o,_,_,_,e,ex,_⟩:=I.hok p _ hk
   refine⟨⟨o,e,ex.1⟩,λa e2=> ?_⟩
   cases e2
   exact⟨o,e,ex.2.1⟩
 |_=>exact False.elim ty
def tBM(K:AE)(T:String)(r:V->List V->Hp->VK->Prop)(to:TE)(t:TA):TE:=λσ H Q=>to σ H λx H1=>tyV K T x H1/\t σ H1 λxs H2=>r x xs H2 Q
variable {o e:AG}{es:List AG}{to:TE}{t:TA}{name:Str}{apos cpos:Pos}{T id:String}{r:V->List V->Hp->VK->Prop}
theorem c39(pa:PlainAttrs T)(slot:Slot T name id)(hty:typeOf (.builtin id)=pure (.type "method_descriptor"))(hm:MtR X id r)(ho:PE X o to)(ha:PA X (e::es) t)
 (hbase:attributeBase o name X.env (eval o X.env)=eval o X.env:=by rfl)
 (hfew:((backTo cpos (AL (e::es) X.env)).all (λx=> !x.1)&&(backToKw cpos (keywordEach [] X.env)).all (λx=>x.1.isSome)
  && decide ((e::es).length+([]:List Keyword).length+(if([]:List Keyword).isEmpty then 0 else 1)<30))=true:=by rfl)
 (hline:(apos.endLine==cpos.line)=true:=by rfl) (hs:AL (e::es) X.env=(false,eval e X.env)::AL es X.env:=by rfl) (hplain:(backTo cpos (AL es X.env)).any (·.1)=false:=by rfl):
 PE X (.Call (.Attribute o name apos) (e::es) [] cpos) (tBM X.K T r to t):=by
 intro pins s σ H Q I h
 refine wpAny_Call_method_late hbase hfew hline rfl (M8 (ho pins s σ H _ I h) λv s1 h0=>a9d h0 λx H1 I1 r1 ty q1=> ?_)
 obtain⟨h1,h2⟩:=c14 I1 r1 ty
 refine⟨T,id,pa,slot,hty,h1,h2, ?_⟩
 have hA:=ha cpos pins s1 σ H1 _ I1 q1
 rw [hs] at hA ⊢
 refine Calls.callWith_builtin (by show(false||(backTo cpos (AL es X.env)).any (·.1))=false;rw [hplain]<;>rfl) (Calls.evalArgs_plain ?_)
 exact M8 hA λus s2 h0=>v9 h0 λvs H2 I2 r2 q2=>hm pins s2 σ H2 x vs v us Q I2 r1 r2 q2
end
def MtM(X:Cx)(id:String)(r:V->List V->Hp->VK->Prop):Prop:=
 ∀(pins:List (AB×Obj)) (s:AD) (σ:St) (H:Hp) (x:V) (xs:List V) (v:AA) (us:List AA) (Q:VK),n3 X pins σ H s->w6 x v->u9 xs us->r x xs H Q->
  AH (model X.prog X.w) X.A (call (.builtin id) (v::us)) (EP X pins σ Q) X.xe s
theorem u9.one:∀{x:V} {us:List AA},u9 [x] us->∃u,us=[u]/\w6 x u
 |_,_,.cons r .nil=>⟨_,rfl,r⟩
theorem u9.rep{xs:List V}{us:List AA}(h:u9 xs us):∀k:Nat,u9 (AQ k xs).flatten (AQ k us).flatten
 |0=> .nil
 |k+1=>by
  rw [Ap,Ap,List.flatten_cons,List.flatten_cons];exact u9.append h (u9.rep h k)
theorem a7X(its:List AA):∀(k:Nat) (acc:List AA),
 List.foldl (λx1 x2=>x1++x2) acc.toArray (AQ k its.toArray)=(acc++(AQ k its).flatten).toArray
 |0,acc=>by simp
 |k+1,acc=>by
  have e:acc.toArray++its.toArray=(acc++its).toArray:=by simp
  have e2:(acc++its)++(AQ k its).flatten=acc++(AQ (k+1) its).flatten:=by
   rw [Ap,List.flatten_cons,List.append_assoc]
  rw [<-e2,<-a7X its k (acc++its),<-e,Ap,List.foldl_cons]
section
variable {X:Cx}{pins:List (AB×Obj)}{σ:St}{H:Hp}{s:AD}{l b:AB}{xs ys zs:List V}
theorem n3.lset{its its':List AA}{n:Nat}{f:Array AA->Array AA}{t':Nat}(I:n3 X pins σ H s)(hH:H l=ξ (.lst xs))
 (e:s.heap.get? l=ξ {cls:= .type "list",data:= .seq its.toArray n}) (hf:f its.toArray=its'.toArray) (hv:u9 ys its') (hz:ys.length<=AM):
 n3 X pins σ (B9 H l (.lst ys)) {s with heap:=s.heap.update l (Obj.mapSeq f),toks:=t'}:=by
 have q:=PySem.IsL.update e f
 rw [hf] at q
 refine I.write (x:=l) (e:=l) (by rw [hH];exact trivial) (.inl rfl) (λb' u hb hu=>(Heap.get?_update_other s.heap (Obj.mapSeq f) (Ne.symm hb)).trans hu) ⟨_,q⟩ ?_
 exact⟨hz,its',_,hv,q⟩
theorem n3.lnew{its:List AA}{t':Nat}(I:n3 X pins σ H s)(hv:u9 ys its)(hz:ys.length<=AM):
 n3 X pins σ (B9 H s.heap.objs.size (.lst ys)) {s with heap:=s.heap.push {cls:= .type "list",data:= .seq its.toArray},toks:=t'}:=
 I.laid (λ_ _ q=>AV _ q) (AS _) ⟨hz,its,0,hv,Ae _ rfl⟩
theorem n3.fresh(I:n3 X pins σ H s):H s.heap.objs.size=ζ:=I.hok.fresh (AS _)
theorem n3.lstM(I:n3 X pins σ H s)(hH:H l=ξ (.lst xs)):xs.length<=AM/\∃(its:List AA) (n:Nat),u9 xs its/\xs.length=its.length/\s.heap.get? l=ξ {cls:= .type "list",data:= .seq its.toArray n}:=by
 obtain⟨z,its,n,r,e⟩:=I.hok l _ hH;exact⟨z,its,n,r,r.length,e⟩
theorem b5e{n:Nat}(h:n<=AM):Builtin.List.listTooLong n=false:=by
 unfold Builtin.List.listTooLong;exact decide_eq_false (by lia)
end
section
variable {X:Cx}
def c3n:V->List V->Hp->VK->Prop:=λx vs H Q=>∃l xs y,x= .ref l/\vs=[y]/\H l=ξ (.lst xs)/\xs.length<AM/\Q .non (B9 H l (.lst (xs++[y])))
theorem b2u:MtM X "list.append" c3n:=by
 intro pins s σ H x vs v us Q I rx rv h;obtain⟨l,xs,y,rfl,rfl,hH,hz,q⟩:=h;cases rx;obtain⟨u,rfl,ru⟩:=rv.one;obtain⟨z,its,n,r,hl,e⟩:=I.lstM hH;refine call_meets F.slot_list_append ⟨_,e,rfl⟩ F.entry_list_append (F.args_list_append_2 _ _) (PySem.list_append l its.toArray n u (by rw [Ai];lia)) ⟨e, ?_⟩
 refine⟨.non,_,I.lset (its':=its++[u]) hH e (by simp) (r.append (.cons ru .nil)) ?_,rfl,q⟩
 rw [AY,List.length_singleton]
 lia
def c6K:R2:=λx y H Q=>∃l b xs zs,x= .ref l/\y= .ref b/\H l=ξ (.lst xs)/\H b=ξ (.lst zs)/\xs.length+zs.length<=AM/\∀p,H p=ζ->Q (.ref p) (B9 H p (.lst (xs++zs)))
theorem c40:OpR X (binaryOp .Add) c6K:=by
 ext o
 obtain⟨l,b,xs,zs,rfl,rfl,hH,hB,hz,q⟩:=h;cases rx;cases ry;obtain⟨z,its,n,r,hl,e⟩:=I.lstM hH;obtain⟨z2,its2,n2,r2,hl2,e2⟩:=I.lstM hB;refine PySem.P.add_list e e2 ?_ (by rw [Ai,Ai];lia)
 have ea:its.toArray++its2.toArray=(its++its2).toArray:=by simp
 rw [ea];exact⟨.ref _,_,I.lnew (t':=s.toks) (r.append r2) (by rw [AY];lia),rfl,q _ I.fresh⟩
def c6O:R2:=λx y H Q=>∃l k xs,x= .ref l/\y= .int k/\H l=ξ (.lst xs)/\ -(2 ^ 63)<=k/\k<2 ^ 63/\xs.length*k.toNat<=AM/\
 ∀p,H p=ζ->Q (.ref p) (B9 H p (.lst (AQ k.toNat xs).flatten))
theorem b3B{α:Type}(xs:List α)(k:Nat):(AQ k xs).flatten.length=k*xs.length:=by
 induction k with
 |zero=>simp
 |succ k ih=>rw [Ap,List.flatten_cons,AY,ih,Nat.succ_mul,Nat.add_comm]
theorem c45:OpR X (binaryOp .Mult) c6O:=by
 ext o
 obtain⟨l,k,xs,rfl,rfl,hH,h1,h2,hz,q⟩:=h;cases rx;obtain⟨t,rfl⟩:=ry;obtain⟨z,its,n,r,hl,e⟩:=I.lstM hH;have hlen:its.toArray.size*k.toNat<=AM:=by rw [Ai,<-hl];exact hz
 have hcap:¬its.toArray.size*k.toNat>(2 ^ 63 - 1)/ 8:=by
  have:(AM:Nat)<=(2 ^ 63 - 1)/ 8:=by decide
  lia
 have hfit:¬(!Builtin.List.listFitsIndex k)=true:=by
  rw [fitsIndex_both h1 h2];exact Ac
 have hlong:¬Builtin.List.listTooLong (its.toArray.size*k.toNat)=true:=by
  rw [b5e hlen];exact Ac
 have hnew:List.foldl (λx1 x2=>x1++x2) #[] (AQ (if its.toArray.isEmpty=true then 0 else k.toNat) its.toArray)=(AQ k.toNat its).flatten.toArray:=by
  have f0:∀m:Nat,List.foldl (λx1 x2=>x1++x2) #[] (AQ m its.toArray)=(AQ m its).flatten.toArray:=λm=>by
   have:=a7X its m [];rw [As] at this;exact this
  rw [f0];cases its with
  |nil=>simp
  |cons a r'=>rw [if_neg (by simp)]
 refine wpAny_binaryOp_repeat_ref (T:="list") (U:="int") (by decide) ⟨_,e,rfl⟩ (λs'=>typeIs_int s' k t) noFill_list_mul F.fills_int_mul F.slot_int_rmul repeat_list F.slot_int_index.lookup
  (call_meets F.slot_int_rmul (typeIs_int s k t) F.entry_int_rmul (F.args_int_rmul_2 _ _) (int___rmul___int_list k t l its.toArray n)
   ⟨e,rfl,⟨_,e,rfl⟩,call_meets F.slot_list_mul ⟨_,e,rfl⟩ F.entry_list_mul (F.args_list_mul_2 _ _) (AutoListH.list___mul___list_int_3 l its.toArray n k t hfit hcap hlong) ⟨e, ?_⟩⟩)
 rw [hnew];exact⟨.ref _,_,I.lnew (t':=s.toks) (r.rep k.toNat) (by rw [b3B,Nat.mul_comm];exact hz),rfl,q _ I.fresh⟩
end
section
variable {prog:AJ}{w:AI}{A:AK}{E:AA->AD->Prop}{s:AD}
end
section
variable {X:Cx}
end
end L2
namespace Att
open PySem PySem.W PySem.Calls PyProof.Rows
theorem a8Y{P:Params}{h:Heap}:∀(ns:List Int) (vs:List AA),WellAll P h vs (ns.map WData.int)->IntsAre vs ns:=by
 intro ns
 induction ns with
 |nil=>
  intro vs w;rw [An] at w;cases w;exact .nil
 |cons n ns ih=>
  intro vs w;rw [AN] at w;cases w with
  |cons a b=>
   cases a;exact .cons _ _ (ih _ b)
theorem b9t{l:OpenLaw}{n:Nat}(hn:l.most=ξ n){P:Params}{h:Heap}{args:List WData}{vals:List AA}
 (hpre:l.row.toRowW.claim.pre args=true) (hwl:WellAll P h vals args):
 ∃a vs ns,vals=[Value.ref a]/\args=[WData.list (ns.map WData.int)]/\h.get? a=ξ {cls:= .type "list",data:= .seq vs.toArray}/\IntsAre vs ns/\ns.length<=n:=by
 have hsh:WShape.hasAll [] args [.list .int]=true:=(pre_splitW hpre).1
 have hc:l.pre.holds [] {args:=args}=true:=(pre_splitW hpre).2
 obtain⟨d,r,rfl,h1,h2⟩:=hasAllW_cons hsh
 obtain rfl:=hasAllW_nil h2
 obtain⟨xs,rfl,h3⟩:=hasW_list h1
 obtain⟨ns,rfl⟩:=items_int h3
 have hlen:ns.length<=n:=by
  unfold OpenLaw.pre at hc;have h4:(WTm.not (.lt (.lit (.int (n:Int))) (.len (.arg 0)))).holds [] {args:=[.list (ns.map .int)]}=true:=by
   have h4:=(holds_andW hc).1;rw [hn] at h4;exact h4
  have h5:=condW_of h4 (w_not (w_lt w_lit (w_len_list (w_arg rfl))));rw [AW] at h5;refine Nat.le_of_not_lt λq=> ?_;have q':(n:Int)<((ns.length:Nat):Int):=by lia
  first
   |(rw [decide_eq_true q'] at h5;exact absurd h5 (by decide))
   |(simp at h5;lia)
 cases hwl with
 |cons w1 w2=>
  cases w2
  cases w1 with
  |list ho hall=>exact⟨_,_,ns,rfl,rfl,ho,a8Y ns _ hall,hlen⟩
theorem b9k(l:OpenLaw)(args:List WData):l.row.toRowW.claim.post args (.bool true) args=true:=
 postW_of (r:=l.row.toRowW) (X:=(true==true))
  (show WShape.has [] (.bool true) .bool=true by first|rfl|decide|simp [WShape.has,WShape.arms,WShape.armsAll])
  (show(WTm.eq .res (.lit (.bool true))).value [] {args:=args,res:=ξ (.bool true),after:=args}=ξ (.bool (true==true)) from w_eq_bool (w_res rfl) w_lit) rfl
theorem attach_call{l:OpenLaw}{n:Nat}{q:AJ}{loose:List Str}{XP:(Str->Option AA)->Heap->Prop}{YP:AI->Heap->Prop}{d:DefRec}
 (hn:l.most=ξ n) (hdf:d.params.defaults=[])
 (call:∀(w:AI) (s₀ s₁:AD) (mg mb:Str->Option AA) (fa:AB) (o:Obj) (pm cd doc:AA) (a:AB) (vs:List AA) (ns:List Int),
  Ground q loose [] XP w s₀ mg mb s₁.heap->YP w s₁.heap->
  s₁.heap.get? fa=ξ o->o.data= .func (docDef d.name d.params d.body d.scope pm cd doc)->s₁.heap.CodeRec cd d.name->mg d.name=ξ (.ref fa)->
  s₁.heap.get? a=ξ {cls:= .type "list",data:= .seq vs.toArray}->IntsAre vs ns->ns.length<=n->s₁.gens= #[]->
  codeAny (model l.prog w) callerA (.call (.ref fa) ⟨[.ref a],[]⟩) (λr s'=>r= .ok (.ret (.bool true))/\OldK s₁.heap s'.heap/\s'.os=s₁.os/\AllBare s'.gens) s₁):
 WalkO q loose XP YP l.row.toRowW d [] (λf vs=>PySem.call f vs):=by
 intro w s₀ s₁ mg mb G Y fa o pm cd doc dV kV ho hd hcd hD hmg hg args vals as hpre hlay hrd hwl hlo
 obtain rfl:dV= .none:=Dflts.none hD hdf
 obtain rfl:kV= .none:=Dflts.noKw hD
 obtain⟨a,vs,ns,rfl,rfl,hobj,hints,hlen⟩:=b9t hn hpre hwl
 refine enter_call (codeAny_mono (call w s₀ s₁ mg mb fa o pm cd doc a vs ns G Y ho (fd_plain hd) hcd hmg hobj hints hlen hg) λr s' hq=> ?_)
 obtain⟨rfl,h2,h3,h4⟩:=hq
 exact⟨.inl ⟨.bool true,.bool true,[],rfl,λ_=>rfl,.bool true,b9k l _,λ_=>⟨List.Pairwise.nil,λ_ hm=>(nomatch hm)⟩⟩,h2,h3,h4⟩
section
variable {prog:AJ}{w:AI}{A:AK}{E:AA->AD->Prop}{s:AD}{K:Frag}
end
end Att
namespace L2
open PySem PySem.Spec PyProof.Rows
theorem b2S:∀{vs:List AA} {ns:List Int},IntsAre vs ns->u9 (ns.map V.int) vs
 |_,_,.nil=> .nil
 |_,_,.cons n t h=> .cons ⟨t,rfl⟩ (b2S h)
def c4h(H:Hp):Prop:=∀b,H b=ζ\/∃o xs,H b=ξ (.frz o (.lst xs))
theorem c0Q{P:AJ}{w:AI}{K:AE}{mg mb:Str->Option AA}{CX:CXT}{k:Nat}{fa a:AB}{fd:FuncData}{x:Str}{sp:Sp}{s₁:AD}{vs:List AA}{ns:List Int}
 (KX:K.In s₁.heap) (hns:s₁.heap.Ns mainGlobals mg) (hb:s₁.heap.Ns builtinsNs mb) (hbb:∀x:Str,x≠"__name__"->mb x=bootBuiltins x) (hlim:s₁.heap.NoLimit) (hg:s₁.gens= #[])
 (ha:s₁.heap.get? a=ξ {cls:= .type "list",data:= .seq vs.toArray}) (hi:IntsAre vs ns) (hl:ns.length<=AM) (hr:O1 k callerA)
 (F:∀base:Heap,K.In base->base.Ns mainGlobals mg->U7 P w K mg base CX k fa fd [x] sp) (hbind:∀(s:AD) (u:AA),BindsTo s fd ⟨[u],[]⟩ [(x,u)])
 (hsp:∀H:Hp,c4h H->SqL K H a (ns.map V.int)->sp [.ref a] H (λv _=>v= .bl true) λ_ _ _=>False)
 (hCX:∀H e s',CX [] H s₁ (λ_ _ _=>False) e s'->False):
 codeAny (model P w) callerA (.call (.ref fa) ⟨[.ref a],[]⟩) (λr s'=>r= .ok (.ret (.bool true))/\OldK s₁.heap s'.heap/\s'.os=s₁.os/\AllBare s'.gens) s₁:=by
 have rv:=b2S hi
 have lenV:=hi.length
 have core:∀H:Hp,c4h H->SqL K H a (ns.map V.int)->HOk P w H s₁.heap->(∀b,H b≠ζ->b=a)->(H a≠ζ->K.lookup a=ζ)->
  codeAny (model P w) callerA (.call (.ref fa) ⟨[.ref a],[]⟩) (λr s'=>r= .ok (.ret (.bool true))/\OldK s₁.heap s'.heap/\s'.os=s₁.os/\AllBare s'.gens) s₁:=by
  intro H hO hS hok hA hK
  have base_of:∀{b:AB} {o:Obj},s₁.heap.get? b=ξ o->H b=ζ->(b3s s₁.heap H).get? b=ξ o:=λe n=>c0G e n
  have noA:∀{b:AB} {o:Obj} {es:Array DictEntry} {ep:Nat},s₁.heap.get? b=ξ o->o.data= .dict es ep->H b=ζ:=λ {b o es ep} e d=>by
   cases q:H b with
   |none=>rfl
   |some u=>
    have e':b=a:=hA b (by rw [q];simp)
    subst e';rw [ha] at e;cases e;have d':Data.seq vs.toArray _=Data.dict es ep:=d;cases d'
  have nsK:∀{b:AB} {m:Str->Option AA},s₁.heap.Ns b m->(b3s s₁.heap H).Ns b m:=λ {b m} ⟨o,es,ep,e,d,r⟩=>⟨o,es,ep,base_of e (noA e d),d,r⟩
  have hKb:K.In (b3s s₁.heap H):=λb o e=>base_of (KX b o e) (by
   cases q:H b with
   |none=>rfl
   |some u=>
    have e':b=a:=hA b (by rw [q];simp)
    subst e';rw [hK (by rw [q];simp)] at e;cases e)
  have hM:Mod K mg (b3s s₁.heap H):=⟨hKb,nsK hns,⟨mb,nsK hb,hbb⟩,let ⟨mc,h1,h2⟩:=hlim;⟨mc,nsK h1,h2⟩⟩
  have e0:b5Z P w K mg (b3s s₁.heap H) callerA [] s₁ H:=⟨rfl,hM,λb o e=>c20 e,Nat.le_of_eq (b8K _ _),trivial,λb hb=>absurd (show b∈([]:List AB) from hb) (by simp),hok,.of_eq hg⟩
  refine codeAny_mono ((F _ hKb (nsK hns)).run callerA [] s₁ H ⟨[.ref a],[]⟩ [.ref a] [.ref a] _ _ hr e0 (hbind s₁ (.ref a)) (.cons rfl .nil) (hsp H hO hS)) λr s' h=> ?_
  cases r with
  |error e=>exact(hCX H e s' h).elim
  |ok fl=>
   cases fl with
   |next=>exact False.elim h
   |brk=>exact False.elim h
   |cont=>exact False.elim h
   |ret u=>
    obtain⟨v,H',os,bare,un,hok',r',q⟩:=h
    have q':v= .bl true:=q
    subst q'
    obtain rfl:u=Value.bool true:=r'
    refine⟨rfl,OldK.of_keep λb o e=> ?_,os,bare⟩
    cases q:H b with
    |none=>exact un.keep b o e q (by intro z;exact absurd (show b∈([]:List AB) from z) (by simp)) (by simp)
    |some u=>
     rcases hO b with z|⟨ob,xs,z⟩
     ·rw [q] at z;cases z
     ·have z2:=un.frzs b ob _ z
      obtain⟨e1,_⟩:=hok b _ z
      obtain⟨e2,_⟩:=hok' b _ z2
      rw [e] at e1;cases e1
      exact e2
 cases hk:K.lookup a with
 |some o=>
  have e:=KX a o hk
  rw [ha] at e
  cases e
  refine core (λ_=>ζ) (λ_=> .inl rfl) (.inr ⟨_,vs.toArray,_,hk,rfl,rfl,rfl,by rw [Ai,lenV];exact hl,by simpa using rv⟩) (λb u z=>by have z':(ζ:Option HO)=ξ u:=z;cases z') (λb z=>absurd rfl z) λz=>absurd rfl z
 |none=>
  refine core (λb=>if b=a then ξ (.frz {cls:= .type "list",data:= .seq vs.toArray} (.lst (ns.map V.int))) else ζ) (λb=> ?_) (.inl (.inr ⟨{cls:= .type "list",data:= .seq vs.toArray},if_pos rfl⟩)) (λb u z=> ?_) (λb z=> ?_) λ_=>hk
  ·by_cases hb:b=a
   ·exact .inr ⟨_,_,if_pos hb⟩
   ·exact .inl (if_neg hb)
  ·by_cases hb:b=a
   ·have z':=(if_pos hb).symm.trans z
    cases z'
    subst hb
    exact⟨ha,by rw [AW];exact hl,vs,_,rv,ha⟩
   ·have z':=(if_neg hb).symm.trans z
    cases z'
  ·by_cases hb:b=a
   ·exact hb
   ·exact absurd (if_neg hb) z
theorem c3P{l:PySem.W.OpenLaw}{n k:Nat}{q:AJ}{loose:List Str}{XP:(Str->Option AA)->Heap->Prop}{YP:AI->Heap->Prop}{d:DefRec}{K:Params->AE}{CX:AI->CXT}{sp:AI->Sp}{x:Str}
 (hn:l.most=ξ n) (hn2:n<=AM) (hdf:d.params.defaults=[]) (hr:O1 k callerA)
 (hY:∀(w:AI) (h:Heap),YP w h->(K w.params).In h)
 (F:∀(w:AI) (mg:Str->Option AA) (fa:AB) (h:Heap),(K w.params).In h->h.Ns mainGlobals mg->mg d.name=ξ (.ref fa)->
  ∃fd:FuncData,(∀(s:AD) (u:AA),BindsTo s fd ⟨[u],[]⟩ [(x,u)])/\
   ∀base:Heap,(K w.params).In base->base.Ns mainGlobals mg->U7 l.prog w (K w.params) mg base (CX w) k fa fd [x] (sp w))
 (hsp:∀(w:AI) (H:Hp) (a:AB) (ns:List Int),ns.length<=n->c4h H->SqL (K w.params) H a (ns.map V.int)->sp w [.ref a] H (λv _=>v= .bl true) λ_ _ _=>False)
 (hCX:∀(w:AI) (H:Hp) (s:AD) (e:AA) (s':AD),CX w [] H s (λ_ _ _=>False) e s'->False):
 PySem.W.WalkO q loose XP YP l.row.toRowW d [] (λf vs=>PySem.call f vs):=by
 refine Att.attach_call hn hdf λw s₀ s₁ mg mb fa o pm cd doc a vs ns G Y ho hd hcd hmg hobj hints hlen hg=> ?_
 have KX:=hY w _ Y
 obtain⟨fd,hb,hF⟩:=F w mg fa _ KX G.T.g hmg
 exact c0Q KX G.T.g G.T.b G.T.builtins G.T.nolimit hg hobj hints (Nat.le_trans hlen hn2) hr hF hb (λH hO hS=>hsp w H a ns hlen hO hS) λH e s'=>hCX w H s₁ e s'
def J8(s:Stmt):Arguments:=match s with
 | .FunctionDef _ a _ _ _ _ _ _ _ _=>a
 |_=>{posonlyargs:=[],args:=[],vararg:=ζ,kwonlyargs:=[],kw_defaults:=[],kwarg:=ζ,defaults:=[]}
def B8(s:Stmt):List Stmt:=match s with
 | .FunctionDef _ _ b _ _ _ _ _ _ _=>b
 |_=>[]
def c9(s:Stmt):Scope:=match s with
 | .FunctionDef _ _ _ _ _ _ sc _ _ _=>sc
 |_=>{kind:= .function,names:=[],isGenerator:=false,isCoroutine:=false}
abbrev CX0:CXT:=λ_ _ _ _ _ _=>False
abbrev E0:XK:=λ_ _ _=>False
theorem b2v{X:Cx}:a7O CX0 X E0:=λ_ _ _ _ _ _ _ h=>h.elim
structure Fun(K:AE)(x qual:Str)(st:Stmt)(f:AB)(fd:FuncData):Prop where
 ex:∃(oc:AA) (od:Option AB) (kV doc pm:AA) (an:Option AB) (cdv ct:AA) (osl:Array (Option AA)),
  fd=PySem.W.fnOf x qual (J8 st) (B8 st) (c9 st) .none kV doc pm an cdv ct/\K.lookup f=ξ ⟨oc,od,.func fd,osl⟩/\PySem.W.codeIn K cdv qual=true
 kp:PySem.W.keepIn K (.ref f)=true
section
variable {P:AJ}{w:AI}{K:AE}{mg:Str->Option AA}{base:Heap}
theorem Fun.ok{x qual:Str}{st:Stmt}{f:AB}{fd:FuncData}{N ps:List Str}{k:Nat}{sp:Sp}(F:Fun K x qual st f fd)(S:i8 N ps (c9 st))(len:∀vs H Q E,sp vs H Q E->vs.length=ps.length)
 (hbody:∀(cdv:AA) (A:AK) (outer:List Env) (s:AD) (H:Hp) (vs:List V) (Q:VK) (E:XK),O1 k (A.deeper (envOfC qual (c9 st) s.heap.objs.size f cdv))->sp vs H Q E->
  ∃t,PSs (a9H CX0 P w K mg base N qual (c9 st) f cdv A outer s H E).nox (B8 st) t/\t {nx:=λ_ H'=>Q .non H',rt:=Q} (a4Y N vs) H):U7 P w K mg base CX0 (k+1) f fd ps sp:=by
 obtain⟨oc,od,kV,doc,pm,an,cdv,ct,osl,rfl,lk,hcd⟩:=F.ex
 refine c5U lk hcd S len λA outer s H vs Q E hr hsp=> ?_
 obtain⟨t,h,q⟩:=hbody cdv A outer s H vs Q E hr hsp
 exact⟨t,h.nox,q⟩
theorem Fun.binds{x qual:Str}{st:Stmt}{f:AB}{fd:FuncData}{ps:List Str}(F:Fun K x qual st f fd)
 (h:∀(kV doc pm:AA) (an:Option AB) (cdv ct:AA) (us:List AA),us.length=ps.length->bindArgs (PySem.W.fnOf x qual (J8 st) (B8 st) (c9 st) .none kV doc pm an cdv ct) ⟨us,[]⟩=pure (ps.zip us)):a05 K fd ps []:=by
 obtain⟨oc,od,kV,doc,pm,an,cdv,ct,osl,rfl,lk,hcd⟩:=F.ex
 exact .all (h kV doc pm an cdv ct)
theorem c0n{x qual:Str}{st:Stmt}{f:AB}{oc:AA}{od an:Option AB}{osl:Array (Option AA)}{kV doc pm cdv ct:AA}(l:K.lookup f=ξ ⟨oc,od,.func (PySem.W.fnOf x qual (J8 st) (B8 st) (c9 st) .none kV doc pm an cdv ct),osl⟩)
 (c:PySem.W.codeIn K cdv qual=true) (k:PySem.W.keepIn K (.ref f)=true):Fun K x qual st f (PySem.W.fnOf x qual (J8 st) (B8 st) (c9 st) .none kV doc pm an cdv ct):=⟨⟨oc,od,kV,doc,pm,an,cdv,ct,osl,rfl,l,c⟩,k⟩
end
theorem b9v{n:Nat}(h:n<=1000):n<AM:=Nat.lt_of_le_of_lt h (by decide)
section
variable {X:Cx}
theorem pv(i:Nat){x:Str}{pos:Pos}(hN:X.N[i]?=ξ x:=by rfl)(hv:Vis X.env.scope x:=by first|exact Or.inl rfl|exact Or.inr (Or.inl rfl)|exact Or.inr (Or.inr rfl))(hd:(x==("__debug__":Str))=false:=by decide)
 (hcd:(x==("__classdict__":Str))=false:=by decide):PE X (.Name x pos) (a3G i):=c5k hN hv hd hcd
end
theorem b6u{A B:Prop}(h:B):if false=true then A else B:=by
 rw [if_neg Ac];exact h
theorem b6v{A B:Prop}(h:A):if true=true then A else B:=by
 rw [if_pos rfl];exact h
def u4(H H':Hp):Prop:=∀b o,H b=ξ o->H' b=ξ o
theorem u4.trans{H H1 H2:Hp}(a:u4 H H1)(b:u4 H1 H2):u4 H H2:=λc o h=>b c o (a c o h)
theorem u4.free{H H':Hp}(e:u4 H H'){l:AB}(h:H' l=Option.none):H l=Option.none:=by
 cases q:H l with
 |none=>rfl
 |some o=>
  rw [e l o q] at h;cases h
section
variable (P:AJ)(w:AI)
end
section
variable {P:AJ}{w:AI}{H H':Hp}{h h':Heap}{a:AB}{o:HO}
end
section
variable {P:AJ}{w:AI}{H:Hp}{h h':Heap}{x e:AB}{o':HO}
end
section
variable {fs fs' ex ex':List AB}{H H1 H2:Hp}{h h1 h2 h':Heap}{a x e:AB}{o:HO}
end
section
variable {X:Cx}{pins:List (AB×Obj)}{σ:List (Option V)}{H H':Hp}{s:AD}{h':Heap}
end
section
variable {X:Cx}
variable {a b:AG}{ta tb:TE}{pos:Pos}
variable {tA tB':TT}{rest:List AG}
end
section
variable {X:Cx}{pins:List (AB×Obj)}{σ:St}{H:Hp}{s:AD}{a:AB}{xs ys:List V}
end
section
variable {X:Cx}{pins:List (AB×Obj)}{σ:St}{H:Hp}{s:AD}{E:AA->AD->Prop}
end
section
variable {X:Cx}{st:Stmt}{rest:List Stmt}{t u:TS}{e:AG}{te:TE}{pos:Pos}
end
section
variable {X:Cx}{pos:Pos}
end
section
variable {X:Cx}{tg:AG}
end
section
variable {X:Cx}{a b c:AG}{ta tb tc:TE}{pos:Pos}
end
section
variable {prog:AJ}{w:AI}{A:AK}{E:AA->AD->Prop}{s:AD}{K:AE}{x dx C f:AB}{mA:Str->Option AA}{name:Str}{v:AA}
end
section
variable {P:AJ}{w:AI}{H H':Hp}{h h':Heap}{a C dx:AB}{fs fs':List (Str×V)}
end
section
variable {X:Cx}{pins:List (AB×Obj)}{σ:St}{H:Hp}{s:AD}{a C dx:AB}{fs:List (Str×V)}{f:Str}{v:V}{A:AK}{E:AA->AD->Prop}
end
section
variable {X:Cx}{o e value:AG}{f:Str}{pos pos' tpos:Pos}{ta tv:TE}
end
section
variable {X:Cx}{pins:List (AB×Obj)}{σ:St}{H:Hp}{s:AD}{A:AK}{E:AA->AD->Prop}{Q:AA->AD->Prop}{c:AA}{b:Bool}
end
section
variable {X:Cx}{e:AG}{es:List AG}{te:TE}{t:TA}{pos:Pos}
end
section
variable {X:Cx}{pins:List (AB×Obj)}{σ:St}{H:Hp}{s s':AD}
end
section
variable {X:Cx}{CX:CXT}{k:Nat}{f C:AB}{fd:FuncData}{ps:List Str}{sp:Sp}{dvs:List V}{ds:List AA}{E:XK}{x m:Str}{p pos apos:Pos}{e o:AG}{es:List AG}{ta:TE}{t:TA}
end
section
variable {X:Cx}{CX:CXT}{k:Nat}{f C:AB}{fd:FuncData}{ps ks:List Str}{sp:Sp}{E:XK}{x m:Str}{p pos apos kpos:Pos}{e o:AG}{es:List AG}{kws:List Keyword}{te ta:TE}{t tk:TA}{nm:Option Str}
variable {g:List AA->List AA->List AA}{gV:List V->List V->List V}
end
section
variable {X:Cx}{x:Str}{p pos:Pos}{e:AG}{es:List AG}{t:TA}{id T:String}{r:List V->Hp->VK->Prop}
end
section
variable {κ:Type}[DecidableEq κ]
def a2n(kvs:List (κ×V))(k:κ):Option V:=(kvs.find? λkv=>decide (kv.1=k)).map (·.2)
def a5s(kvs:List (κ×V))(k:κ)(v:V):List (κ×V):=
 if(kvs.any λkv=>decide (kv.1=k))=true then kvs.map (λkv=>if kv.1=k then(kv.1,v) else kv) else kvs++[(k,v)]
theorem a2H{p:κ×V}{r:List (κ×V)}{k:κ}(e:p.1=k):a2n (p::r) k=ξ p.2:=by simp [a2n,List.find?_cons,e]
theorem a2G{p:κ×V}{r:List (κ×V)}{k:κ}(e:¬p.1=k):a2n (p::r) k=a2n r k:=by simp [a2n,List.find?_cons,e]
theorem b5P(k:κ):∀kvs:List (κ×V),(kvs.any λkv=>decide (kv.1=k))=(a2n kvs k).isSome
 |[]=>rfl
 |p::r=>by
  rw [List.any_cons]
  by_cases e:p.1=k
  ·simp only [a2H e,decide_eq_true e,Bool.true_or,Option.isSome_some]
  ·rw [a2G e,decide_eq_false e,Bool.false_or];exact b5P k r
theorem a8D(kvs:List (κ×V))(k:κ)(v:V):(a5s kvs k v).length<=kvs.length+1:=by
 unfold a5s;split
 ·rw [AW];lia
 ·rw [AY,AX,Am];lia
theorem a3D.isSome_eq{o:Option V}{u:Option AA}(r:a3D o u):o.isSome=u.isSome:=by
 cases o with
 |none=>cases u with
  |none=>rfl
  |some _=>exact(show False from r).elim
 |some _=>cases u with
  |none=>exact(show False from r).elim
  |some _=>rfl
theorem a3D.getD{o:Option V}{u:Option AA}{d:V}{d':AA}(r:a3D o u)(rd:w6 d d'):w6 (o.getD d) (u.getD d'):=by
 cases o with
 |none=>cases u with
  |none=>exact rd
  |some _=>exact(show False from r).elim
 |some _=>cases u with
  |none=>exact(show False from r).elim
  |some _=>exact r
theorem KV.val{kvs:List (κ×V)}{vs:List (κ×AA)}(r:KV kvs vs)(k:κ):a3D (a2n kvs k) (valueAt vs k):=by
 unfold KV at r
 induction r with
 |nil=>exact True.intro
 | @cons p q ps qs h t ih=>
   obtain⟨h1,h2⟩:=h
   by_cases e:p.1=k
   ·have e':q.1=k:=h1.symm.trans e;have b:valueAt (q::qs) k=ξ q.2:=by simp [valueAt,List.find?_cons,e']
    rw [a2H e,b];exact h2
   ·have e':¬q.1=k:=λz=>e (h1.trans z);have b:valueAt (q::qs) k=valueAt qs k:=by simp [valueAt,List.find?_cons,e']
    rw [a2G e,b];exact ih
theorem KV.any{kvs:List (κ×V)}{vs:List (κ×AA)}(r:KV kvs vs)(k:κ):(kvs.any λkv=>decide (kv.1=k))=vs.any λkv=>decide (kv.1=k):=by
 unfold KV at r
 induction r with
 |nil=>rfl
 |cons h t ih=>rw [List.any_cons,List.any_cons,ih,h.1]
theorem KV.repl{kvs:List (κ×V)}{vs:List (κ×AA)}(r:KV kvs vs)(k:κ){y:V}{u:AA}(ry:w6 y u):
 KV (kvs.map λkv=>if kv.1=k then(kv.1,y) else kv) (vs.map λkv=>if kv.1=k then(kv.1,u) else kv):=by
 unfold KV at r ⊢
 induction r with
 |nil=>exact .nil
 | @cons p q ps qs h t ih=>
   rw [AN,AN]
   refine .cons ?_ ih
   obtain⟨h1,h2⟩:=h
   by_cases e:p.1=k
   ·rw [if_pos e,if_pos (h1.symm.trans e)];exact⟨h1,ry⟩
   ·rw [if_neg e,if_neg (λz=>e (h1.trans z))];exact⟨h1,h2⟩
theorem KV.put{kvs:List (κ×V)}{vs:List (κ×AA)}(r:KV kvs vs)(k:κ){y:V}{u:AA}(ry:w6 y u):KV (a5s kvs k y) (stored vs k u):=by
 unfold a5s stored;rw [r.any k]
 by_cases e:(vs.any λkv=>decide (kv.1=k))=true
 ·rw [if_pos e,if_pos e];exact r.repl k ry
 ·rw [if_neg e,if_neg e];exact Paired.snoc r ⟨rfl,ry⟩
theorem KV.length{kvs:List (κ×V)}{vs:List (κ×AA)}(r:KV kvs vs):kvs.length=vs.length:=Paired.length r
end
theorem a94{P:AJ}{w:AI}{k:u8}{u:AA}(r:w6 (kV k) u):(B1 P w).is k u=true:=by
 cases k with
 |inl i=>obtain⟨t,e⟩:=(show ∃t,u=Value.int i t from r);subst e;exact a8G P w i t
 |inr x=>obtain⟨t,e⟩:=(show ∃t,u=Value.str x t from r);subst e;exact a8H P w x t
theorem b2n{P:AJ}{w:AI}:∀{ks:List u8} {us:List AA},u9 (ks.map kV) us->ItemsAre (B1 P w) ks us
 |[],_,r=>by rw [An] at r;cases r;exact .nil
 |k::ks,_,r=>by
  rw [AN] at r;cases r with
  |cons h t=>exact .cons (a94 h) (b2n t)
abbrev KT(H:Hp):List (List u8×V)->List (List u8×AB×AA)->Prop:=Paired λp q=>p.1=q.1/\H q.2.1=ξ (.tup (p.1.map kV))/\w6 p.2 q.2.2
theorem KT.val{H:Hp}{kvs:List (List u8×V)}{xs:List (List u8×AB×AA)}(r:KT H kvs xs)(k:List u8):a3D (a2n kvs k) ((atKey xs k).map (·.2)):=by
 induction r with
 |nil=>exact True.intro
 | @cons p q ps qs h t ih=>
   obtain⟨h1,_,h2⟩:=h
   by_cases e:p.1=k
   ·have e':q.1=k:=h1.symm.trans e;have b:atKey (q::qs) k=ξ q.2:=by simp [atKey,List.find?_cons,e']
    rw [a2H e,b];exact h2
   ·have e':¬q.1=k:=λz=>e (h1.trans z);have b:atKey (q::qs) k=atKey qs k:=by simp [atKey,List.find?_cons,e']
    rw [a2G e,b];exact ih
theorem KT.repl{H:Hp}{kvs:List (List u8×V)}{xs:List (List u8×AB×AA)}(r:KT H kvs xs)(k:List u8){y:V}{u:AA}(ry:w6 y u):
 KT H (kvs.map λkv=>if kv.1=k then(kv.1,y) else kv) (xs.map (putAt k u)):=by
 induction r with
 |nil=>exact .nil
 | @cons p q ps qs h t ih=>
   rw [AN,AN]
   refine .cons ?_ ih
   obtain⟨h1,h2,h3⟩:=h
   unfold putAt
   by_cases e:p.1=k
   ·rw [if_pos e,if_pos (h1.symm.trans e)];exact⟨h1,h2,ry⟩
   ·rw [if_neg e,if_neg (λz=>e (h1.trans z))];exact⟨h1,h2,h3⟩
theorem KT.put{H:Hp}{kvs:List (List u8×V)}{xs:List (List u8×AB×AA)}(r:KT H kvs xs)(k:List u8){b:AB}{y:V}{u:AA}(hb:H b=ξ (.tup (k.map kV)))(ry:w6 y u):
 KT H (a5s kvs k y) (storedH xs k b u):=by
 have e:(kvs.any λkv=>decide (kv.1=k))=(atKey xs k).isSome:=by
  rw [b5P,(r.val k).isSome_eq,Option.isSome_map]
 unfold a5s storedH
 rw [e]
 by_cases q:(atKey xs k).isSome=true
 ·rw [if_pos q,if_pos q];exact r.repl k ry
 ·rw [if_neg q,if_neg q];exact Paired.snoc r ⟨rfl,hb,ry⟩
theorem KT.keeps{H H':Hp}{kvs:List (List u8×V)}{xs:List (List u8×AB×AA)}(r:KT H kvs xs)(ht:∀b ys,H b=ξ (.tup ys)->H' b=ξ (.tup ys)):KT H' kvs xs:=
 Paired.mapP r λ_ _ z=>⟨z.1,ht _ _ z.2.1,z.2.2⟩
section
variable {P:AJ}{w:AI}{H:Hp}{h:Heap}{a:AB}
theorem c4a{u:HO}(ok:HOk P w H h)(e:Rd H a u):N4 P w H h a u:=e.ok ok
theorem a9M{kvs:List (u8×V)}(ok:HOk P w H h)(e:Rd H a (.dK kvs)):kvs.length<=AM/\(a==sysModules)=false/\∃vs,KV kvs vs/\h.DictOf (B1 P w) a vs:=
 show N4 P w H h a (.dK kvs) from c4a ok e
theorem b95{kvs:List (u8×V)}(ok:HOk P w H h)(e:H a=ξ (.dK kvs)):kvs.length<=AM/\(a==sysModules)=false/\∃vs,KV kvs vs/\h.DictOf (B1 P w) a vs:=a9M ok (.inl e)
theorem a72{ks:List u8}(ok:HOk P w H h)(e:H a=ξ (.tup (ks.map kV))):(tupleKind (B1 P w)).is h ks a:=by
 obtain⟨_,its,r,o,h1,h2,n,h3⟩:=(show N4 P w H h a (.tup (ks.map kV)) from ok a _ e);exact⟨o,its.toArray,n,h1,h2,h3,by simpa using b2n r⟩
theorem a9P{kvs:List (List u8×V)}(ok:HOk P w H h)(e:Rd H a (.dT kvs)):kvs.length<=AM/\(a==sysModules)=false/\
 ∃xs,KT H kvs xs/\h.DictOfH (tupleKind (B1 P w)) a xs:=by
 obtain⟨z,y,xs,r,o,es,ep,h1,h2,h3,h4,h5⟩:=(show N4 P w H h a (.dT kvs) from c4a ok e)
 refine⟨z,y,xs,r,o,es,ep,h1,h2,h3,h4,λx hx=> ?_,h5⟩
 have all:∀{l:List (List u8×V)} {m:List (List u8×AB×AA)},KT H l m->∀x∈m,(tupleKind (B1 P w)).is h x.1 x.2.1:=by
  intro l m q
  induction q with
  |nil=>intro x hx;exact nomatch hx
  | @cons p q ps qs hq t ih=>
    intro x hx;rcases Ab.mp hx with e|hx
    ·subst e;exact a72 ok (by rw [<-hq.1];exact hq.2.1)
    ·exact ih x hx
 exact all r x hx
theorem c5S{kvs:List (List u8×V)}(ok:HOk P w H h)(e:H a=ξ (.dT kvs)):kvs.length<=AM/\(a==sysModules)=false/\
 ∃xs,KT H kvs xs/\h.DictOfH (tupleKind (B1 P w)) a xs:=a9P ok (.inl e)
end
def a3H(H:Hp)(a:AB)(y:V)(r:Option V):Prop:=
 (∃kvs k,Rd H a (.dK kvs)/\y=kV k/\r=a2n kvs k)\/∃kvs k b,Rd H a (.dT kvs)/\y= .ref b/\H b=ξ (.tup (k.map kV))/\r=a2n kvs k
def b9C(H:Hp)(a:AB)(y v:V)(H':Hp):Prop:=
 (∃kvs k,H a=ξ (.dK kvs)/\y=kV k/\kvs.length<AM/\H'=B9 H a (.dK (a5s kvs k v)))\/
 ∃kvs k b,H a=ξ (.dT kvs)/\y= .ref b/\H b=ξ (.tup (k.map kV))/\kvs.length<AM/\H'=B9 H a (.dT (a5s kvs k v))
theorem a3H.k{H:Hp}{a:AB}{kvs:List (u8×V)}{k:u8}(e:H a=ξ (.dK kvs)):a3H H a (kV k) (a2n kvs k):= .inl ⟨kvs,k,.inl e,rfl,rfl⟩
theorem b9C.k{H:Hp}{a:AB}{kvs:List (u8×V)}{k:u8}{v:V}(e:H a=ξ (.dK kvs))(hl:kvs.length<AM):b9C H a (kV k) v (B9 H a (.dK (a5s kvs k v))):= .inl ⟨kvs,k,e,rfl,hl,rfl⟩
section
variable {X:Cx}{pins:List (AB×Obj)}{σ:St}{H:Hp}{s:AD}{a:AB}{y v:V}{u r:AA}{o:Option V}{A:AK}{E:AA->AD->Prop}
theorem n3.big(I:n3 X pins σ H s):sysModules<s.heap.objs.size:=by
 have h:mainGlobals<s.heap.objs.size:=(I.mod.glob.keeps I.bk).lt;exact Nat.lt_trans (by decide) h
theorem b8q{Q:AA->AD->Prop}(hu:A.units+1<cLine)(I:n3 X pins σ H s)(g:a3H H a y (ξ v))(ry:w6 y u)(h:∀w' s',n3 X pins σ H s'->w6 v w'->Q w' s'):
 AH (model X.prog X.w) A (getItem (.ref a) u) Q E s:=by
 rcases g with⟨kvs,k,e,ey,l⟩|⟨kvs,k,b,e,ey,eb,l⟩
 ·subst ey
  obtain⟨z,hd,vs,rel,dd⟩:=a9M I.hok e
  obtain⟨w',hw,rw'⟩:=a3D.some_of (v:=v) (o:=valueAt vs k) (by rw [l];exact rel.val k)
  exact wpAny_getItem_of (a94 ry) dd.mapOf hw (h w' _ (I.tok _) rw')
 ·subst ey
  cases(show u=Value.ref b from ry)
  obtain⟨z,hd,xs,rel,dd⟩:=a9P I.hok e
  obtain⟨w',hw,rw'⟩:=a3D.some_of (v:=v) (o:=(atKey xs k).map (·.2)) (by rw [l];exact rel.val k)
  obtain⟨p,hp,hp2⟩:=Option.map_eq_some_iff.mp hw
  refine wpAny_getItem_heap (tupleKind_room_in1 hu) (a72 I.hok eb) dd hp ?_
  rw [hp2]
  exact h w' _ (I.tok _) rw'
theorem c6E{Q:AA->AD->Prop}(hu:A.units+1<cLine)(I:n3 X pins σ H s)(g:a3H H a y o)(ry:w6 y u)(h:∀s',n3 X pins σ H s'->Q (.bool o.isSome) s'):
 AH (model X.prog X.w) A (compareOp .In u (.ref a)) Q E s:=by
 rcases g with⟨kvs,k,e,ey,l⟩|⟨kvs,k,b,e,ey,eb,l⟩
 ·subst ey
  obtain⟨z,hd,vs,rel,dd⟩:=a9M I.hok e
  refine wpAny_in_of (a94 ry) hd dd.mapOf ?_
  rw [<-(rel.val k).isSome_eq,<-l]
  exact h _ (I.tok _)
 ·subst ey
  cases(show u=Value.ref b from ry)
  obtain⟨z,hd,xs,rel,dd⟩:=a9P I.hok e
  refine wpAny_in_heap (tupleKind_room_in1 hu) (a72 I.hok eb) hd dd ?_
  have q:=(rel.val k).isSome_eq
  rw [Option.isSome_map] at q
  rw [<-q,<-l]
  exact h _ (I.tok _)
theorem c2o{Q:AA->AD->Prop}(hu:A.units+1<cLine)(I:n3 X pins σ H s)(g:a3H H a y o)(ry:w6 y u)(h:∀s',n3 X pins σ H s'->Q (.bool (!o.isSome)) s'):
 AH (model X.prog X.w) A (compareOp .NotIn u (.ref a)) Q E s:=by
 rcases g with⟨kvs,k,e,ey,l⟩|⟨kvs,k,b,e,ey,eb,l⟩
 ·subst ey
  obtain⟨z,hd,vs,rel,dd⟩:=a9M I.hok e
  refine wpAny_notIn_of (a94 ry) hd dd.mapOf ?_
  rw [<-(rel.val k).isSome_eq,<-l]
  exact h _ (I.tok _)
 ·subst ey
  cases(show u=Value.ref b from ry)
  obtain⟨z,hd,xs,rel,dd⟩:=a9P I.hok e
  refine wpAny_notIn_heap (tupleKind_room_in1 hu) (a72 I.hok eb) hd dd ?_
  have q:=(rel.val k).isSome_eq
  rw [Option.isSome_map] at q
  rw [<-q,<-l]
  exact h _ (I.tok _)
theorem b7h{h':Heap}{t':Nat}{ob:HO}(I:n3 X pins σ H s)(mu:Mut (H a))(hs:Heap.SameBut a s.heap h')(he:∃q,h'.get? a=ξ q)(new:N4 X.prog X.w (B9 H a ob) h' a ob):
 n3 X pins σ (B9 H a ob) {s with heap:=h',toks:=t'}:=
 I.write (x:=a) (e:=a) mu (.inl rfl) (λb q hb z=>(hs.2 b hb).trans z) he new
theorem c4r{P:AJ}{w:AI}{H':Hp}{h':Heap}{kvs:List (u8×V)}{vs:List (u8×AA)}(z:kvs.length<=AM)(hd:(a==sysModules)=false)(rel:KV kvs vs)(dd:h'.DictOf (B1 P w) a vs):
 N4 P w H' h' a (.dK kvs):=⟨z,hd,vs,rel,dd⟩
theorem b8r{H':Hp}{Q:Unit->AD->Prop}(hu:A.units+1<cLine)(I:n3 X pins σ H s)(g:b9C H a y v H')(ry:w6 y u)(rv:w6 v r)(h:∀s',n3 X pins σ H' s'->Q () s'):
 AH (model X.prog X.w) A (setItem (.ref a) u r) Q E s:=by
 rcases g with⟨kvs,k,e,ey,l,eH⟩|⟨kvs,k,b,e,ey,eb,l,eH⟩
 ·subst ey eH
  obtain⟨z,hd,vs,rel,dd⟩:=b95 I.hok e
  have hz:vs.length<=AM:=by rw [<-rel.length];exact z
  have hl:(a5s kvs k v).length<=AM:=by have:=a8D kvs k v;lia
  refine wpAny_setItem_pairs (hsz:=hz) (a94 ry) dd λh' dd' hs=>h _ ?_
  have he:∃q,h'.get? a=ξ q:=by obtain⟨q,_,_,hq,_⟩:=dd';exact⟨q,hq⟩
  exact b7h I (by rw [e];exact True.intro) hs he (c4r hl hd (rel.put k rv) dd')
 ·subst ey eH
  cases(show u=Value.ref b from ry)
  obtain⟨z,hd,xs,rel,dd⟩:=c5S I.hok e
  have hz:xs.length<=AM:=by rw [<-Paired.length rel];exact z
  have hl:(a5s kvs k v).length<=AM:=by have:=a8D kvs k v;lia
  refine wpAny_setItem_heap (hsz:=hz) (tupleKind_room_in1 hu) (a72 I.hok eb) dd λh' dd' hs=>h _ ?_
  obtain⟨q,es,ep,hq,h2,h3,h4,_,h5⟩:=dd'
  refine b7h I (by rw [e];exact True.intro) hs ⟨q,hq⟩ ⟨hl,hd,_,(rel.put k eb rv).keeps λc ys ec=> ?_,q,es,ep,hq,h2,h3,h4,h5⟩
  rw [l8 (b7I ec e (λz=>nomatch z))]
  exact ec
end
section
variable {X:Cx}{pins:List (AB×Obj)}{σ:St}{H:Hp}{s:AD}{a:AB}{kvs:List (u8×V)}{k:u8}{u:AA}{A:AK}{E:AA->AD->Prop}
end
def c2d(i:AG):Prop:=∀ov iv,subscripted i false ov iv=operate [ov,iv] (getItem ov iv)
theorem b7V{prog:AJ}{w:AI}{A:AK}{E:AA->AD->Prop}{s:AD}{env:Env}{value slice:AG}{pos:Pos}{T id:String}{Q:AA->AD->Prop}
 (hl:typeLookup (.type T) "__getitem__"=pure (ξ (.builtin id))) (hs:c2d slice)
 (h:AH (model prog w) A (eval value env) (λo s₁=>AH (model prog w) A (eval slice env) (λi s₂=>s₂.TypeIs o T/\AH (model prog w) A (getItem o i) Q E s₂) E s₁) E s):
 AH (model prog w) A (eval (.Subscript value slice pos) env) Q E s:=by
 refine Subscript_ (wpAny_mono h (λo s₁ h₁=>wpAny_mono h₁ (λi s₂ h₂=> ?_) λ_ _ x=>x) λ_ _ x=>x)
 obtain⟨hT,h₂⟩:=h₂
 unfold subscriptTail
 refine AF ?_
 rw [getitemInPython_of_ne hT.not_modules]
 refine AF (wpAny_specialOf hT hl ?_)
 have fin:AH (model prog w) A (subscripted slice false o i) (λr s₃=>AH (model prog w) A (letTemporaryGo value o r>>=λ_=>pure r) Q E s₃) E s₂:=by
  rw [hs o i];exact wpAny_operating (wpAny_mono h₂ (λr s₃ h₃=>AF (wpAny_letTemporaryGo (AR h₃))) λ_ _ x=>x)
 first
  |exact AR (AF fin)
  |exact AF (AR (AF fin))
  |exact AF fin
theorem b4I{X:Cx}{pins:List (AB×Obj)}{σ:St}{H:Hp}{s:AD}{a:AB}{y:V}{o:Option V}(I:n3 X pins σ H s)(g:a3H H a y o):s.TypeIs (.ref a) "dict":=by
 rcases g with⟨kvs,k,e,_,_⟩|⟨kvs,k,b,e,_,_,_⟩
 ·obtain⟨_,_,vs,_,dd⟩:=a9M I.hok e;exact dd.typeIs
 ·obtain⟨_,_,xs,_,dd⟩:=a9P I.hok e;exact dd.typeIs
def c6k(td ty:TE):TE:=λσ H Q=>td σ H λx H1=>ty σ H1 λy H2=>∃a v,x= .ref a/\a3H H2 a y (ξ v)/\Q v H2
def c6T(ty td:TE):TE:=λσ H Q=>ty σ H λy H1=>td σ H1 λx H2=>∃a o,x= .ref a/\a3H H2 a y o/\Q (.bl o.isSome) H2
def c3H(ty td:TE):TE:=λσ H Q=>ty σ H λy H1=>td σ H1 λx H2=>∃a o,x= .ref a/\a3H H2 a y o/\Q (.bl (!o.isSome)) H2
def c6h(td ty tv:TE):TS:=λD σ H=>tv σ H λv H1=>td σ H1 λx H2=>ty σ H2 λy H3=>∃a H4,x= .ref a/\b9C H3 a y v H4/\D.nx σ H4
section
variable {X:Cx}{o i e value:AG}{pos pos' tpos:Pos}{td ty tv:TE}
theorem c3d(hu:X.A.units+1<cLine)(ho:PE X o td)(hi:PE X i ty)(hs:c2d i):PE X (.Subscript o i pos) (c6k td ty):=by
 ext n
 refine b7V PySem.F.slot_dict_getitem.lookup hs (M8 (ho pins s σ H _ I h) λu s1 h0=>v9 h0 λx H1 I1 rx q1=>M8 (hi pins s1 σ H1 _ I1 q1) λiv s2 ⟨y,H2,I2,ry,a,v,ex,g,q2⟩=> ?_);subst ex;obtain rfl:u=Value.ref a:=rx;exact⟨b4I I2 g,b8q hu I2 g ry λw' s3 I3 rw'=>⟨v,H2,I3,rw',q2⟩⟩
theorem c5a(hu:X.A.units+1<cLine)(hi:PE X i ty)(ho:PE X o td):PC X .In i o (c6T ty td):=by
 ext n
 refine M8 (hi pins s σ H _ I h) λiv s1 h0=>v9 h0 λy H1 I1 ry q1=>M8 (ho pins s1 σ H1 _ I1 q1) λu s2 ⟨x,H2,I2,rx,a,ov,ex,g,q2⟩=> ?_;subst ex;obtain rfl:u=Value.ref a:=rx;exact c6E hu I2 g ry λs3 I3=>⟨.bl ov.isSome,H2,I3,rfl,q2⟩
theorem b2w(hu:X.A.units+1<cLine)(hi:PE X i ty)(ho:PE X o td):PC X .NotIn i o (c3H ty td):=by
 ext n
 refine M8 (hi pins s σ H _ I h) λiv s1 h0=>v9 h0 λy H1 I1 ry q1=>M8 (ho pins s1 σ H1 _ I1 q1) λu s2 ⟨x,H2,I2,rx,a,ov,ex,g,q2⟩=> ?_;subst ex;obtain rfl:u=Value.ref a:=rx;exact c2o hu I2 g ry λs3 I3=>⟨.bl (!ov.isSome),H2,I3,rfl,q2⟩
theorem c3i(hu:X.A.units+1<cLine)(ho:PE X o td)(hi:PE X i ty)(hv:PE X value tv)(hs:swapsWith value (ξ (.Subscript o i pos')) pos.line X.env=pure false):
 PS X (.Assign [.Subscript o i pos'] value pos) (c6h td ty tv):=by
 intro pins s σ H D I h
 refine wpAny_Assign_Subscript (M8 (hv pins s σ H _ I h) λr s1 h0=>v9 h0 λv H1 I1 rv q1=>M8 (ho pins s1 σ H1 _ I1 q1) λu s2 h0=>v9 h0 λx H2 I2 rx q2=>M8 (hi pins s2 σ H2 _ I2 q2) λiv s3 ⟨y,H3,I3,ry,a,H4,ex,g,q3⟩=> ?_) hs
 subst ex
 obtain rfl:u=Value.ref a:=rx
 exact b8r hu I3 g ry rv λs4 I4=>⟨σ,H4,I4,q3⟩
end
theorem b4J{P:AJ}{w:AI}{H:Hp}(h:Heap)(hb:sysModules<h.objs.size):N4 P w H (h.push {cls:= .type "dict",data:= .dict #[]}) h.objs.size (.dK []):=
 ⟨Nat.zero_le _,beq_eq_false_iff_ne.mpr (Ne.symm (Af hb)),[],.nil,Heap.DictOf.new h⟩
def c5B:TE:=λ_ H Q=>∀p,H p=ζ->Q (.ref p) (B9 H p (.dK []))
section
variable {X:Cx}{pos:Pos}
theorem c1l:PE X (.Dict [] [] pos) c5B:=λpins s σ H Q I h=>
 wpAny_Dict_empty ⟨.ref s.heap.objs.size,_,I.laid (a:=s.heap.objs.size) (o:= .dK []) (t':=s.toks) (λ_ _ q=>AV _ q) (AS _) (b4J s.heap I.big),rfl,h _ (I.hok.fresh (AS _))⟩
end
structure M2(X:Cx)(o:AG)(m:Str)(apos:Pos)(e f:AG)(cpos:Pos):Prop where
 base:attributeBase o m X.env (eval o X.env)=eval o X.env
 few:((backTo cpos (AL [e,f] X.env)).all (λx=> !x.1)&&(backToKw cpos (keywordEach [] X.env)).all (λx=>x.1.isSome)
  && decide (([e,f]:List AG).length+([]:List Keyword).length+(if([]:List Keyword).isEmpty then 0 else 1)<30))=true
 line:(apos.endLine==cpos.line)=true
 trees:backTo cpos (AL [e,f] X.env)=[(false,eval e X.env),(false,eval f X.env)]
def IsD(H:Hp)(a:AB):Prop:=(∃kvs,Rd H a (.dK kvs))\/∃kvs,Rd H a (.dT kvs)
theorem c4J{X:Cx}{pins:List (AB×Obj)}{σ:St}{H:Hp}{s:AD}{a:AB}(I:n3 X pins σ H s)(d:IsD H a):
 s.TypeIs (.ref a) "dict"/\(∀b,Value.ref a= .ref b->∃ob,s.heap.get? b=ξ ob/\ob.dict=ζ)/\(a==sysModules)=false:=by
 rcases d with⟨kvs,e⟩|⟨kvs,e⟩
 ·obtain⟨_,hd,vs,_,dd⟩:=a9M I.hok e
  refine⟨dd.typeIs,λb q=> ?_,hd⟩
  cases q
  obtain⟨ob,_,_,h1,h2,_⟩:=dd
  exact⟨ob,h1,h2.2.1⟩
 ·obtain⟨_,hd,xs,_,dd⟩:=a9P I.hok e
  refine⟨dd.typeIs,λb q=> ?_,hd⟩
  cases q
  obtain⟨ob,_,_,h1,h2,_⟩:=dd
  exact⟨ob,h1,h2.2.1⟩
section
variable {X:Cx}{pins:List (AB×Obj)}{σ:St}{H:Hp}{s:AD}{a:AB}{y d:V}{u r:AA}{o:Option V}{A:AK}{E:AA->AD->Prop}
theorem c4p{Q:AA->AD->Prop}(hu:A.units+1<cLine)(I:n3 X pins σ H s)(g:a3H H a y o)(ry:w6 y u)(rd:w6 d r)(h:∀w' s',n3 X pins σ H s'->w6 (o.getD d) w'->Q w' s'):
 AH (model X.prog X.w) A (call (.builtin "dict.get") [.ref a,u,r]) Q E s:=by
 rcases g with⟨kvs,k,e,ey,l⟩|⟨kvs,k,b,e,ey,eb,l⟩
 ·subst ey
  obtain⟨z,hd,vs,rel,dd⟩:=a9M I.hok e
  refine call_meetsIn PySem.F.slot_dict_get dd.typeIs PySem.F.entry_dict_get (PySem.F.args_dict_get_3 _ _ _) (meets_dict_get_default (B1 X.prog X.w) a (a94 ry) hd r) ⟨_,dd.mapOf,h _ _ (I.tok _) ?_⟩
  rw [l]
  exact(rel.val k).getD rd
 ·subst ey
  cases(show u=Value.ref b from ry)
  obtain⟨z,hd,xs,rel,dd⟩:=a9P I.hok e
  refine call_meetsIn PySem.F.slot_dict_get dd.typeIs PySem.F.entry_dict_get (PySem.F.args_dict_get_3 _ _ _) (meetsH_dict_get_default (tupleKind (B1 X.prog X.w)) a b hd r) ⟨tupleKind_room_in1 hu,k,xs,a72 I.hok eb,dd,h _ _ (I.tok _) ?_⟩
  rw [l]
  exact(rel.val k).getD rd
end
def c5A(td ty tx:TE):TE:=λσ H Q=>td σ H λx H1=>∃a,x= .ref a/\IsD H1 a/\ty σ H1 λy H2=>tx σ H2 λz H3=>∃o,a3H H3 a y o/\Q (o.getD z) H3
section
variable {X:Cx}{o e f:AG}{apos cpos:Pos}{td ty tx:TE}
theorem c1k(hu:X.A.units+1<cLine)(ho:PE X o td)(he:PE X e ty)(hf:PE X f tx)(m:M2 X o "get" apos e f cpos):PE X (.Call (.Attribute o "get" apos) [e,f] [] cpos) (c5A td ty tx):=by
 ext n
 refine wpAny_Call_method m.base m.few m.line PySem.F.plainAttrs_dict PySem.F.slot_dict_get PySem.F.type_dict_get (M8 (ho pins s σ H _ I h) λu s1 ⟨x,H1,I1,rx,a,ex,d,q1⟩=> ?_);subst ex;obtain rfl:u=Value.ref a:=rx;obtain⟨t1,t2,_⟩:=c4J I1 d;refine⟨t1,t2, ?_⟩;rw [m.trees];refine Calls.callWith_builtin rfl (Calls.evalArgs_plain (Calls.spliced_cons (M8 (he pins s1 σ H1 _ I1 q1) λiv s2 h0=>v9 h0 λy H2 I2 ry q2=>
  Calls.spliced_cons (M8 (hf pins s2 σ H2 _ I2 q2) λfv s3 ⟨z,H3,I3,rz,ov,g,q3⟩=>Calls.spliced_nil ?_))))
 exact c4p hu I3 g ry rz λw' s4 I4 rw'=>⟨_,H3,I4,rw',q3⟩
end
section
variable {X:Cx}{pins:List (AB×Obj)}{σ:St}{H:Hp}{s:AD}{a:AB}{kvs:List (u8×V)}{A:AK}{E:AA->AD->Prop}
end
section
variable {X:Cx}{pins:List (AB×Obj)}{σ:St}{H:Hp}{s:AD}{a:AB}{y:V}{u:AA}{A:AK}{E:AA->AD->Prop}
end
end L2
namespace Att
open PySem PySem.W PySem.Calls PyProof.Rows
section
variable {prog:AJ}{w:AI}{A:AK}{E:AA->AD->Prop}{s:AD}{K:Frag}
end
end Att
namespace L2
open PySem PySem.Spec PyProof.Rows
section
variable {P:AJ}{w:AI}{K:AE}{mg:Str->Option AA}{base:Heap}
end
section
variable {X:Cx}
end
section
variable {κ:Type}[DecidableEq κ]
end
end L2
set_option maxHeartbeats 4000000
namespace PU
open PySem PySem.Spec PyProof.Rows L2
abbrev PV:=PyData
def TqT(K:AE)(H:Hp)(a:AB)(xs:List V):Prop:=
 H a=ξ (.tup xs)\/∃(o:Obj) (its:Array AA) (n:Nat),K.lookup a=ξ o/\o.cls= .type "tuple"/\o.data= .seq its n/\its.size<=AM/\u9 xs its.toList
theorem TqT.of{K:AE}{H:Hp}{a:AB}{xs:List V}(h:H a=ξ (.tup xs)):TqT K H a xs:= .inl h
theorem TqT.sq{K:AE}{H:Hp}{a:AB}{xs:List V}(h:TqT K H a xs):SqT K H a xs:=h.elim (λh=> .inl (.inl h)) .inr
theorem c3z{K:AE}{H H':Hp}{a:AB}{xs:List V}(s:u4 H H')(h:TqT K H a xs):TqT K H' a xs:=h.elim (λh=> .inl (s _ _ h)) .inr
def b67(K:AE)(x:Str)(v:V):Prop:=∃(a:AB) (oc:AA) (od:Option AB) (fd:FuncData) (osl:Array (Option AA)),v= .ref a/\K.lookup a=ξ ⟨oc,od,.func fd,osl⟩/\fd.name=x
def a1H(K:AE)(x:Str)(C:AB):Prop:=PySem.W.nsIn K mainGlobals x=ξ (ξ (.ref C))/\∃(oc:AA) (od:Option AB) (cd:ClassData) (osl:Array (Option AA)),K.lookup C=ξ ⟨oc,od,.cls cd,osl⟩/\cd.name=x
theorem a1H.inj{K:AE}{x y:Str}{C:AB}(h:a1H K x C)(h':a1H K y C):x=y:=by
 obtain⟨_,_,_,_,_,k,n⟩:=h;obtain⟨_,_,_,_,_,k',n'⟩:=h';rw [k] at k';cases k';rw [<-n,n']
theorem a1H.uniq{K:AE}{x:Str}{C D:AB}(h:a1H K x C)(h':a1H K x D):C=D:=by
 have:=h.1.symm.trans h'.1;cases this;rfl
def c6B(K:AE)(H:Hp)(x:Str)(v:V):Prop:=∃(a C:AB) (φ:Heap->Prop),v= .ref a/\H a=ξ (.ext φ)/\
 (∀h:Heap,φ h->∃oe vs,h.get? a=ξ oe/\oe.cls= .ref C/\oe.data= .fields vs/\oe.dict=ζ)/\a1H K x C
def b8c(K:AE)(H:Hp)(x:Str)(t:PV)(v:V):Prop:=(t= .none/\b67 K x v)\/(t= .bool true/\c6B K H x v)
theorem b8c.ref{K:AE}{H:Hp}{x:Str}{t:PV}{v:V}(h:b8c K H x t v):∃a,v= .ref a:=by
 rcases h with⟨_,a,_,_,_,_,e,_⟩|⟨_,a,_,_,e,_⟩<;>exact⟨a,e⟩
theorem b8c.mono{K:AE}{H H':Hp}{x:Str}{t:PV}{v:V}(s:u4 H H')(h:b8c K H x t v):b8c K H' x t v:=by
 rcases h with h|⟨z,a,C,φ,e,q,r⟩
 ·exact .inl h
 ·exact .inr ⟨z,a,C,φ,e,s _ _ q,r⟩
def b50(K:AE)(H:Hp)(x:Str)(m:V)(fs:List (Str×V))(v:V):Prop:=
 (m= .bl false/\∃a C dx,v= .ref a/\H a=ξ (.ins C dx fs)/\a1H K x C)\/
 (m= .int 0/\∃(a C dx:AB) (φ:Heap->Prop),v= .ref a/\H a=ξ (.ext φ)/\(∀h:Heap,φ h->∃oe vs,h.get? a=ξ oe/\oe.cls= .ref C/\oe.data= .fields vs/\oe.dict=ξ dx)/\H dx=ξ (.xd fs)/\a1H K x C)
theorem b50.ref{K:AE}{H:Hp}{x:Str}{m:V}{fs:List (Str×V)}{v:V}(h:b50 K H x m fs v):∃a,v= .ref a:=by
 rcases h with⟨_,a,_,_,e,_⟩|⟨_,a,_,_,_,e,_⟩<;>exact⟨a,e⟩
theorem b50.mono{K:AE}{H H':Hp}{x:Str}{m:V}{fs:List (Str×V)}{v:V}(s:u4 H H')(h:b50 K H x m fs v):b50 K H' x m fs v:=by
 rcases h with⟨z,a,C,dx,e,q,n⟩|⟨z,a,C,dx,φ,e,q,r,d,n⟩
 ·exact .inl ⟨z,a,C,dx,e,s _ _ q,n⟩
 ·exact .inr ⟨z,a,C,dx,φ,e,s _ _ q,r,s _ _ d,n⟩
def kP:u8->PV
 | .inl i=> .int i
 | .inr x=> .str x
def s1{α:Type}(kv:u8×α):List u8×α:=([kv.1],kv.2)
mutual
def L3(K:AE)(H:Hp):PV->V->Prop
 | .none,v=>v= .non
 | .bool b,v=>v= .bl b
 | .int i,v=>v= .int i
 | .str x,v=>v= .str x
 | .tuple ps,v=>∃a xs,v= .ref a/\TqT K H a xs/\n8 K H ps xs
 | .list ps,v=>∃a xs,v= .ref a/\SqL K H a xs/\n8 K H ps xs
 | .dict kvs,v=>(∃a ys,v= .ref a/\H a=ξ (.dK ys)/\a5m K H kvs (ys.map s1))\/(∃a xs,v= .ref a/\H a=ξ (.dT xs)/\a5m K H kvs (([],.non)::xs))\/(∃x t,kvs=[(.str x,t)]/\b8c K H x t v)\/(∃x m fs,b50 K H x m fs v/\a6y K H kvs ((x,m)::fs))
def n8(K:AE)(H:Hp):List PV->List V->Prop
 |[],vs=>vs=[]
 |p::ps,vs=>∃v r,vs=v::r/\L3 K H p v/\n8 K H ps r
def a5m(K:AE)(H:Hp):List (PV×PV)->List (List u8×V)->Prop
 |[],ys=>ys=[]
 |(k,p)::r,ys=>∃kk v t,ys=(kk,v)::t/\k= .tuple (kk.map kP)/\L3 K H p v/\a5m K H r t
def a6y(K:AE)(H:Hp):List (PV×PV)->List (Str×V)->Prop
 |[],ys=>ys=[]
 |(k,p)::r,ys=>∃f v t,ys=(f,v)::t/\k= .str f/\L3 K H p v/\a6y K H r t
end
theorem w4{K:AE}{H H':Hp}{a:AB}{xs:List V}(s:u4 H H')(h:SqT K H a xs):SqT K H' a xs:=by
 rcases h with(h|⟨o,h⟩)|h
 ·exact .inl (.inl (s _ _ h))
 ·exact .inl (.inr ⟨o,s _ _ h⟩)
 ·exact .inr h
theorem L1{K:AE}{H H':Hp}{a:AB}{xs:List V}(s:u4 H H')(h:SqL K H a xs):SqL K H' a xs:=by
 rcases h with(h|⟨o,h⟩)|h
 ·exact .inl (.inl (s _ _ h))
 ·exact .inl (.inr ⟨o,s _ _ h⟩)
 ·exact .inr h
mutual
theorem L3.mono{K:AE}{H H':Hp}(s:u4 H H'):∀(p:PV) {v:V},L3 K H p v->L3 K H' p v
 | .none,_,h=>h
 | .bool _,_,h=>h
 | .int _,_,h=>h
 | .str _,_,h=>h
 | .dict kvs,_,.inl ⟨a,ys,q,h,r⟩=> .inl ⟨a,ys,q,s _ _ h,a5m.mono s kvs r⟩
 | .dict kvs,_,.inr (.inl ⟨a,xs,q,h,r⟩)=> .inr (.inl ⟨a,xs,q,s _ _ h,a5m.mono s kvs r⟩)
 | .dict _,_,.inr (.inr (.inl ⟨x,t,e,h⟩))=> .inr (.inr (.inl ⟨x,t,e,h.mono s⟩))
 | .dict kvs,_,.inr (.inr (.inr ⟨x,m,fs,h,r⟩))=> .inr (.inr (.inr ⟨x,m,fs,h.mono s,a6y.mono s kvs r⟩))
 | .tuple ps,_,⟨a,xs,e,q,r⟩=>⟨a,xs,e,c3z s q,n8.mono s ps r⟩
 | .list ps,_,⟨a,xs,e,q,r⟩=>⟨a,xs,e,L1 s q,n8.mono s ps r⟩
theorem n8.mono{K:AE}{H H':Hp}(s:u4 H H'):∀(ps:List PV) {vs:List V},n8 K H ps vs->n8 K H' ps vs
 |[],_,h=>h
 |p::ps,_,⟨v,r,e,q,t⟩=>⟨v,r,e,L3.mono s p q,n8.mono s ps t⟩
theorem a5m.mono{K:AE}{H H':Hp}(s:u4 H H'):∀(es:List (PV×PV)) {ys:List (List u8×V)},a5m K H es ys->a5m K H' es ys
 |[],_,h=>h
 |(k,p)::es,_,⟨kk,v,r,e,z,q,t⟩=>⟨kk,v,r,e,z,L3.mono s p q,a5m.mono s es t⟩
theorem a6y.mono{K:AE}{H H':Hp}(s:u4 H H'):∀(es:List (PV×PV)) {ys:List (Str×V)},a6y K H es ys->a6y K H' es ys
 |[],_,h=>h
 |(k,p)::es,_,⟨kk,v,r,e,z,q,t⟩=>⟨kk,v,r,e,z,L3.mono s p q,a6y.mono s es t⟩
end
theorem n8.length{K:AE}{H:Hp}:∀{ps:List PV} {vs:List V},n8 K H ps vs->vs.length=ps.length
 |[],_,h=>by cases h;rfl
 |_::ps,_,⟨v,r,e,_,t⟩=>by subst e;rw [AX,AX,n8.length t]
theorem n8.get{K:AE}{H:Hp}:∀{ps:List PV} {vs:List V} {i:Nat} {p:PV},n8 K H ps vs->ps[i]?=ξ p->∃v,vs[i]?=ξ v/\L3 K H p v
 |[],_,_,_,_,h=>by simp at h
 |q::ps,_,0,p,⟨v,r,e,a,t⟩,h=>by subst e;simp at h;subst h;exact⟨v,rfl,a⟩
 |q::ps,_,i+1,p,⟨v,r,e,a,t⟩,h=>by subst e;exact n8.get (i:=i) t (by simpa using h)
theorem n8.getV{K:AE}{H:Hp}:∀{ps:List PV} {vs:List V} {i:Nat} {v:V},n8 K H ps vs->vs[i]?=ξ v->∃p,ps[i]?=ξ p/\L3 K H p v
 |[],_,_,_,h,e=>by cases h;simp at e
 |q::ps,_,0,v,⟨w,r,e,a,t⟩,h=>by subst e;simp at h;subst h;exact⟨q,rfl,a⟩
 |q::ps,_,i+1,v,⟨w,r,e,a,t⟩,h=>by subst e;exact n8.getV (i:=i) t (by simpa using h)
theorem n8.append{K:AE}{H:Hp}:∀{ps qs:List PV} {vs ws:List V},n8 K H ps vs->n8 K H qs ws->n8 K H (ps++qs) (vs++ws)
 |[],_,_,_,h,t=>by cases h;exact t
 |_::ps,_,_,_,⟨v,r,e,a,t⟩,s=>by subst e;exact⟨v,_,rfl,a,n8.append t s⟩
theorem n8.drop{K:AE}{H:Hp}:∀{ps:List PV} {vs:List V} (n:Nat),n8 K H ps vs->n8 K H (ps.drop n) (vs.drop n)
 |_,_,0,h=>h
 |[],_,n+1,h=>by cases h;rfl
 |_::ps,_,n+1,⟨v,r,e,a,t⟩=>by subst e;exact n8.drop n t
theorem n8.take{K:AE}{H:Hp}:∀{ps:List PV} {vs:List V} (n:Nat),n8 K H ps vs->n8 K H (ps.take n) (vs.take n)
 |_,_,0,h=>rfl
 |[],_,n+1,h=>by cases h;rfl
 |_::ps,_,n+1,⟨v,r,e,a,t⟩=>by subst e;exact⟨v,_,rfl,a,n8.take n t⟩
def E9(K:AE)(H:Hp):List (List u8×PV)->List (List u8×V)->Prop
 |[],ys=>ys=[]
 |(k,p)::r,ys=>∃v t,ys=(k,v)::t/\L3 K H p v/\E9 K H r t
theorem E9.mono{K:AE}{H H':Hp}(s:u4 H H'):∀(kvs:List (List u8×PV)) {ys:List (List u8×V)},E9 K H kvs ys->E9 K H' kvs ys
 |[],_,h=>h
 |(k,p)::r,_,⟨v,t,e,q,h⟩=>⟨v,t,e,L3.mono s p q,E9.mono s r h⟩
inductive a06 where
 |lst (ps:List PV)|dct (kvs:List (List u8×PV))|txt (kvs:List (List u8×PV))
inductive d7 where
 |v (p:PV)|ow (c:a06)|bo (c:a06)
abbrev d7.own(ps:List PV):d7:= .ow (.lst ps)
abbrev d7.bor(ps:List PV):d7:= .bo (.lst ps)
def a1C(K:AE)(F H:Hp)(v:V):a06->Prop
 | .lst ps=>∃a xs,v= .ref a/\F a=ζ/\H a=ξ (.lst xs)/\n8 K F ps xs
 | .dct kvs=>∃a xs,v= .ref a/\F a=ζ/\H a=ξ (.dT xs)/\E9 K F kvs xs
 | .txt kvs=>∃a xs,v= .ref a/\F a=ζ/\H a=ξ (.dK xs)/\E9 K F kvs (xs.map s1)
def X4(K:AE)(F H:Hp)(v:V):d7->Prop
 | .v p=>L3 K F p v
 | .ow c=>a1C K F H v c
 | .bo c=>a1C K F H v c
theorem a1C.at_{K:AE}{F H:Hp}{v:V}:∀{c:a06},a1C K F H v c->∃a o,v= .ref a/\F a=ζ/\H a=ξ o
 | .lst _,⟨a,_,e,n,q,_⟩=>⟨a,_,e,n,q⟩
 | .dct _,⟨a,_,e,n,q,_⟩=>⟨a,_,e,n,q⟩
 | .txt _,⟨a,_,e,n,q,_⟩=>⟨a,_,e,n,q⟩
def NT(o:HO):Prop:=∀xs,o≠.tup xs
structure Ext(F H F' H':Hp):Prop where
 f:u4 F F'
 h:u4 H H'
 fh:u4 F' H'
 nw:∀b o,F b=ζ->H b=ξ o->NT o->F' b=ζ
 nf:∀b o u,F' b=ξ (.frz o u)->F b=ξ (.frz o u)
theorem u4.refl(H:Hp):u4 H H:=λ_ _ e=>e
theorem Ext.refl{F H:Hp}(s:u4 F H):Ext F H F H:=⟨u4.refl F,u4.refl H,s,λ_ _ e _ _=>e,λ_ _ _ e=>e⟩
theorem Ext.trans{F H F1 H1 F2 H2:Hp}(a:Ext F H F1 H1)(b:Ext F1 H1 F2 H2):Ext F H F2 H2:=
 ⟨a.f.trans b.f,a.h.trans b.h,b.fh,λc o e q t=>b.nw c o (a.nw c o e q t) (a.h c o q) t,λc o u e=>a.nf c o u (b.nf c o u e)⟩
theorem c06{F0 F:Hp}{a:AB}{xs:List V}(h:∀b o u,F b=ξ (.frz o u)->F0 b=ξ (.frz o u)):∀b o u,B9 F a (.lst xs) b=ξ (.frz o u)->F0 b=ξ (.frz o u):=λb o u z=>by
 by_cases hb:b=a
 ·subst hb;rw [r9] at z;cases z
 ·rw [l8 hb] at z;exact h _ _ _ z
theorem a1C.ext{K:AE}{F H F' H':Hp}{v:V}(x:Ext F H F' H'):∀{c:a06},a1C K F H v c->a1C K F' H' v c
 | .lst _,⟨a,xs,e,n,q,r⟩=>⟨a,xs,e,x.nw _ _ n q (λ_ h=>nomatch h),x.h _ _ q,n8.mono x.f _ r⟩
 | .dct _,⟨a,xs,e,n,q,r⟩=>⟨a,xs,e,x.nw _ _ n q (λ_ h=>nomatch h),x.h _ _ q,E9.mono x.f _ r⟩
 | .txt _,⟨a,xs,e,n,q,r⟩=>⟨a,xs,e,x.nw _ _ n q (λ_ h=>nomatch h),x.h _ _ q,E9.mono x.f _ r⟩
theorem X4.ext{K:AE}{F H F' H':Hp}{v:V}(x:Ext F H F' H'):∀{r:d7},X4 K F H v r->X4 K F' H' v r
 | .v p,h=>L3.mono x.f p h
 | .ow _,h=>a1C.ext x h
 | .bo _,h=>a1C.ext x h
def a06.rd:a06->PV
 | .lst ps=> .list ps
 | .dct kvs=> .dict ((.tuple [],.none)::kvs.map λkv=>(.tuple (kv.1.map kP),kv.2))
 | .txt kvs=> .dict (kvs.map λkv=>(.tuple (kv.1.map kP),kv.2))
def d7.rd:d7->PV
 | .v p=>p
 | .ow c=>c.rd
 | .bo c=>c.rd
def d7.toVal:d7->Option PV
 | .v p=>ξ p
 | .ow (.lst ps)=>ξ (.list ps)
 | .ow (.dct _)=>ζ
 | .ow (.txt _)=>ζ
 | .bo _=>ζ
theorem a5m.of{K:AE}{F H:Hp}(s:u4 F H):∀{kvs:List (List u8×PV)} {xs:List (List u8×V)},E9 K F kvs xs->a5m K H (kvs.map λkv=>(PyData.tuple (kv.1.map kP),kv.2)) xs
 |[],_,h=>h
 |(k,p)::r,_,⟨v,t,e,q,h⟩=>⟨k,v,t,e,rfl,L3.mono s p q,a5m.of s h⟩
theorem a1C.rd{K:AE}{F H:Hp}{v:V}(s:u4 F H):∀{c:a06},a1C K F H v c->L3 K H c.rd v
 | .lst ps,⟨a,xs,e,n,q,r⟩=>⟨a,xs,e,SqL.of q,n8.mono s _ r⟩
 | .dct kvs,⟨a,xs,e,n,q,r⟩=> .inr (.inl ⟨a,xs,e,q,[],.non,xs,rfl,rfl,rfl,a5m.of s r⟩)
 | .txt kvs,⟨a,xs,e,n,q,r⟩=> .inl ⟨a,xs,e,q,a5m.of s r⟩
theorem X4.rd{K:AE}{F H:Hp}{v:V}(s:u4 F H):∀{r:d7},X4 K F H v r->L3 K H r.rd v
 | .v p,h=>L3.mono s p h
 | .ow _,h=>a1C.rd s h
 | .bo _,h=>a1C.rd s h
structure B2(K:AE)(F H F' H':Hp)(v:V)(r:d7):Prop where
 x:Ext F H F' H'
 rep:X4 K F' H' v r
 fr:∀c a,r= .ow c->v= .ref a->H a=ζ
theorem B2.val{K:AE}{F H F' H':Hp}{v:V}{p:PV}(x:Ext F H F' H')(r:L3 K F' p v):B2 K F H F' H' v (.v p):=⟨x,r,λ_ _ e=>nomatch e⟩
theorem B2.here{K:AE}{F H:Hp}{v:V}{p:PV}(s:u4 F H)(r:L3 K F p v):B2 K F H F H v (.v p):=B2.val (Ext.refl s) r
theorem B2.trans{K:AE}{F H F1 H1 F2 H2:Hp}{v:V}{r:d7}(a:Ext F H F1 H1)(b:B2 K F1 H1 F2 H2 v r):B2 K F H F2 H2 v r:=
 ⟨a.trans b.x,b.rep,λps c e q=>a.h.free (b.fr ps c e q)⟩
theorem B2.toVal{K:AE}{F H F' H':Hp}{v:V}{p:PV}:∀{r:d7},B2 K F H F' H' v r->r.toVal=ξ p->∃F2,B2 K F H F2 H' v (.v p)
 | .v q,o,e=>by cases e;exact⟨F',o⟩
 | .bo _,_,e=>nomatch e
 | .ow (.dct _),_,e=>nomatch e
 | .ow (.txt _),_,e=>nomatch e
 | .ow (.lst ps),o,e=>by
   cases e;obtain⟨a,xs,rfl,n,q,r⟩:=o.rep;have fr:=o.fr _ a rfl rfl;have up:u4 F' (B9 F' a (.lst xs)):=λb u z=>by rw [l8 (m5 z n)];exact z
   refine⟨B9 F' a (.lst xs),B2.val ⟨o.x.f.trans up,o.x.h,λb u z=> ?_,λb u z y t=> ?_,c06 o.x.nf⟩ ⟨a,xs,rfl,SqL.of r9,n8.mono up _ r⟩⟩
   ·by_cases hb:b=a
    ·subst hb;rw [r9] at z;cases z;exact q
    ·rw [l8 hb] at z;exact o.x.fh _ _ z
   ·rw [l8 (m5 y fr)];exact o.x.nw b u z y t
theorem X1{H:Hp}{a:AB}{o:HO}(n:H a=ζ):u4 H (B9 H a o):=λb u z=>by rw [l8 (m5 z n)];exact z
theorem Ext.lay{F H:Hp}{a:AB}{o:HO}(s:u4 F H)(n:H a=ζ)(hf:∀x u,o≠.frz x u:=by intro _ _ h;cases h):Ext F H (B9 F a o) (B9 H a o):=
 ⟨X1 (s.free n),X1 n,λb u z=>by
  by_cases hb:b=a
  ·subst hb;rw [r9] at z ⊢;exact z
  ·rw [l8 hb] at z ⊢;exact s _ _ z,λb u z y _=>by rw [l8 (m5 y n)];exact z,λb w u z=>by
  by_cases hb:b=a
  ·subst hb;rw [r9] at z;exact absurd (Option.some.inj z) (hf w u)
  ·rw [l8 hb] at z;exact z⟩
theorem Ext.layH{F H:Hp}{a:AB}{o:HO}(s:u4 F H)(n:H a=ζ):Ext F H F (B9 H a o):=
 ⟨u4.refl F,X1 n,λb u z=>by rw [l8 (m5 (s _ _ z) n)];exact s _ _ z,λb u z y _=>z,λ_ _ _ z=>z⟩
theorem B2.tup{K:AE}{F H:Hp}{a:AB}{xs:List V}{ps:List PV}(s:u4 F H)(n:H a=ζ)(r:n8 K F ps xs):B2 K F H (B9 F a (.tup xs)) (B9 H a (.tup xs)) (.ref a) (.v (.tuple ps)):=
 B2.val (Ext.lay s n) ⟨a,xs,rfl,TqT.of r9,n8.mono (X1 (s.free n)) _ r⟩
theorem B2.lst{K:AE}{F H:Hp}{a:AB}{xs:List V}{ps:List PV}(s:u4 F H)(n:H a=ζ)(r:n8 K F ps xs):B2 K F H F (B9 H a (.lst xs)) (.ref a) (.own ps):=
 ⟨Ext.layH s n,⟨a,xs,rfl,s.free n,r9,r⟩,λ_ _ _ e=>by cases e;exact n⟩
abbrev c5:=List (Option d7)
structure J4(K:AE)(F H:Hp)(σ:L2.St)(ρ:c5):Prop where
 fh:u4 F H
 len:σ.length=ρ.length
 at_:∀(i:Nat) (r:d7),ρ[i]?=ξ (ξ r)->∃v,σ[i]?=ξ (ξ v)/\X4 K F H v r
 nb:∀(i:Nat) (c:a06),ρ[i]?≠ξ (ξ (.bo c))
 ap:∀(i j:Nat) (c d:a06) (a:AB),i≠j->ρ[i]?=ξ (ξ (.ow c))->ρ[j]?=ξ (ξ (.ow d))->σ[i]?=ξ (ξ (.ref a))->σ[j]?≠ξ (ξ (.ref a))
theorem J4.ext{K:AE}{F H F' H':Hp}{σ:L2.St}{ρ:c5}(e:J4 K F H σ ρ)(x:Ext F H F' H'):J4 K F' H' σ ρ:=
 ⟨x.fh,e.len,λi r q=>let ⟨v,a,b⟩:=e.at_ i r q;⟨v,a,b.ext x⟩,e.nb,e.ap⟩
abbrev M:=c5->Option d7
def tM(K:AE)(m:M):TE:=λσ H Q=>∃F ρ r,J4 K F H σ ρ/\m ρ=ξ r/\∀v F' H',B2 K F H F' H' v r->Q v H'
abbrev EE(X:Cx)(e:AG)(m:M):Prop:=PE X e (tM X.K m)
theorem C6{X:Cx}{e:AG}{t t':TE}(h:PE X e t)(i:∀σ H Q,t' σ H Q->t σ H Q):PE X e t':=λpins s σ H Q I q=>h pins s σ H Q I (i σ H Q q)
theorem a79{X:Cx}{e:AG}{t t':TT}(h:PT X e t)(i:∀σ H Q,t' σ H Q->t σ H Q):PT X e t':=λpins s σ H Q I q=>h pins s σ H Q I (i σ H Q q)
theorem c1A{X:Cx}{e:AG}{t t':TT}(h:PW X e t)(i:∀σ H Q,t' σ H Q->t σ H Q):PW X e t':=λwh pins s σ H Q I q=>h wh pins s σ H Q I (i σ H Q q)
theorem c1h{X:Cx}{e:List AG}{t t':TA}(h:PA X e t)(i:∀σ H Q,t' σ H Q->t σ H Q):PA X e t':=λpos pins s σ H Q I q=>h pos pins s σ H Q I (i σ H Q q)
theorem W5{X:Cx}{e:Stmt}{t t':TS}(h:PS X e t)(i:∀D σ H,t' D σ H->t D σ H):PS X e t':=λpins s σ H D I q=>h pins s σ H D I (i D σ H q)
theorem b7Q{X:Cx}{e:List Stmt}{t t':TS}(h:PSs X e t)(i:∀D σ H,t' D σ H->t D σ H):PSs X e t':=λpins s σ H D I q=>h pins s σ H D I (i D σ H q)
def mC(p:PV):M:=λ_=>ξ (.v p)
def b0(i:Nat):M:=λρ=>match ρ[i]? with
 |some (ξ (.ow c))=>ξ (.bo c)
 |some (ξ r)=>ξ r
 |_=>ζ
section
variable {X:Cx}{a b c:AG}{ma mb mc:M}{pos:Pos}
theorem a2u{e:AG}{v:V}{p:PV}(h:PE X e (tC v))(r:∀H,L3 X.K H p v):EE X e (mC p):=
 C6 h λσ H Q h0=>B7 h0 λF ρ q he hm k=>by
  cases hm;exact k v F H (B2.here he.fh (r F))
theorem b6{i j pos}:EE X (.Constant (.int i) j pos) (mC (.int i)):=a2u c5d λ_=>rfl
theorem c3W{b j pos}:EE X (.Constant (.bool b) j pos) (mC (.bool b)):=a2u c57 λ_=>rfl
theorem b6f{j pos}:EE X (.Constant .none j pos) (mC .none):=a2u c5f λ_=>rfl
theorem e8{x j pos}:EE X (.Constant (.str x) j pos) (mC (.str x)):=a2u c5i λ_=>rfl
theorem c4w(i:Nat){x:Str}{pos:Pos}(h:PE X (.Name x pos) (a3G i)):EE X (.Name x pos) (b0 i):=
 C6 h λσ H Q h0=>B7 h0 λF ρ r he hm k=>by
  unfold b0 at hm;split at hm
  ·rename_i ps e;cases hm;obtain⟨v,e1,rr⟩:=he.at_ i _ e;exact⟨v,e1,k v F H ⟨Ext.refl he.fh,rr,λ_ _ z=>nomatch z⟩⟩
  ·rename_i r' nn e;cases hm;obtain⟨v,e1,rr⟩:=he.at_ i _ e;exact⟨v,e1,k v F H ⟨Ext.refl he.fh,rr,λps _ z=>absurd z (nn ps)⟩⟩
  ·cases hm
def rM2(K:AE)(g:d7->d7->Option d7):R2:=λx y H Q=>∃F rx ry rz,u4 F H/\X4 K F H x rx/\X4 K F H y ry/\g rx ry=ξ rz/\∀v F' H',B2 K F H F' H' v rz->Q v H'
abbrev OpM(X:Cx)(f:AA->AA->Sem AA)(g:d7->d7->Option d7):Prop:=OpR X f (rM2 X.K g)
def m2(g:d7->d7->Option d7)(ma mb:M):M:=λρ=>(ma ρ).bind λx=>(mb ρ).bind λy=>g x y
theorem bind_some{α β:Type}{o:Option α}{f:α->Option β}{b:β}(h:o.bind f=ξ b):∃a,o=ξ a/\f a=ξ b:=by
 cases o with
 |none=>cases h
 |some a=>exact⟨a,rfl,h⟩
theorem b4g{K:AE}{g:d7->d7->Option d7}{σ:L2.St}{H:Hp}{Q:VK}(h:tM K (m2 g ma mb) σ H Q):tOp (rM2 K g) (tM K ma) (tM K mb) σ H Q:=by
 obtain⟨F,ρ,r,he,hm,k⟩:=h;obtain⟨rx,e1,hm⟩:=bind_some hm;obtain⟨ry,e2,hm⟩:=bind_some hm;exact⟨F,ρ,rx,he,e1,λv F1 H1 o1=>⟨F1,ρ,ry,he.ext o1.x,e2,λu F2 H2 o2=>⟨F2,rx,ry,r,o2.x.fh,o1.rep.ext o2.x,o2.rep,hm,λz F3 H3 o3=>k z F3 H3 (B2.trans (o1.x.trans o2.x) o3)⟩⟩⟩
theorem f9{op:Operator}{g:d7->d7->Option d7}(ho:OpM X (binaryOp op) g)(ha:EE X a ma)(hb:EE X b mb):EE X (.BinOp a op b pos) (m2 g ma mb):=
 C6 (c59 ho ha hb) λ_ _ _ h=>b4g h
theorem c4t{op:CmpOp}{g:d7->d7->Option d7}(ho:OpM X (compareOp op) g)(ha:EE X a ma)(hb:EE X b mb)(hm:behindInMarks op b=false):EE X (.Compare a [op] [b] pos) (m2 g ma mb):=
 C6 (c3c ho ha hb hm) λ_ _ _ h=>b4g h
theorem a78{f:AA->AA->Sem AA}{r:R2}{g:d7->d7->Option d7}(h:OpR X f r)
 (i:∀F H x y rx ry rz,u4 F H->X4 X.K F H x rx->X4 X.K F H y ry->g rx ry=ξ rz->∀Q:VK,(∀v F' H',B2 X.K F H F' H' v rz->Q v H')->r x y H Q):OpM X f g:=
 λpins s σ H x y v u Q I rx ry ⟨F,ra,rb,rz,s0,h1,h2,h3,k⟩=>h pins s σ H x y v u Q I rx ry (i F H x y ra rb rz s0 h1 h2 h3 Q k)
end
def gI(f:Int->Int->PV):d7->d7->Option d7
 | .v (.int i),.v (.int j)=>ξ (.v (f i j))
 |_,_=>ζ
theorem c1b:∃f:(Int->Int->Prop)->Int->Int->Bool,∀C i j,f C i j=true↔C i j:=⟨λC i j=> @decide (C i j) (Classical.propDecidable _),λC i j=> @decide_eq_true_iff (C i j) (Classical.propDecidable _)⟩
def okC:(Int->Int->Prop)->Int->Int->Bool:=c1b.choose
theorem a0j{C:Int->Int->Prop}{i j:Int}:okC C i j=true↔C i j:=c1b.choose_spec C i j
def J2(C:Int->Int->Prop)[∀i j,Decidable (C i j)](f:Int->Int->PV):d7->d7->Option d7
 | .v (.int i),.v (.int j)=>if okC C i j=true then ξ (.v (f i j)) else ζ
 |_,_=>ζ
theorem b7r{f:Int->Int->PV}{rx ry rz:d7}(h:gI f rx ry=ξ rz):∃i j,rx= .v (.int i)/\ry= .v (.int j)/\rz= .v (f i j):=by
 unfold gI at h;split at h
 ·cases h;exact⟨_,_,rfl,rfl,rfl⟩
 ·cases h
theorem c0r{C:Int->Int->Prop}[∀i j,Decidable (C i j)]{f:Int->Int->PV}{rx ry rz:d7}(h:J2 C f rx ry=ξ rz):∃i j,rx= .v (.int i)/\ry= .v (.int j)/\C i j/\rz= .v (f i j):=by
 unfold J2 at h;split at h
 ·split at h
  ·rename_i c;cases h;exact⟨_,_,rfl,rfl,a0j.mp c,rfl⟩
  ·cases h
 ·cases h
section
variable {X:Cx}
theorem c38{f:AA->AA->Sem AA}{g:Int->Int->V}{g':Int->Int->PV}(h:OpR X f (rI0 g))(e:∀i j H,L3 X.K H (g' i j) (g i j)):OpM X f (gI g'):=
 a78 h λF H x y rx ry rz s h1 h2 h3 Q k=>by
  obtain⟨i,j,rfl,rfl,rfl⟩:=b7r h3;exact⟨i,j,h1,h2,k _ F H (B2.here s (e i j F))⟩
theorem b3Z{f:AA->AA->Sem AA}{C:Int->Int->Prop}[∀i j,Decidable (C i j)]{g:Int->Int->V}{g':Int->Int->PV}(h:OpR X f (rI C g))(e:∀i j H,L3 X.K H (g' i j) (g i j)):OpM X f (J2 C g'):=
 a78 h λF H x y rx ry rz s h1 h2 h3 Q k=>by
  obtain⟨i,j,rfl,rfl,c,rfl⟩:=c0r h3;exact⟨i,j,h1,h2,c,k _ F H (B2.here s (e i j F))⟩
end
mutual
def x4:PV->Nat->Bool
 | .list xs,n+1=>F8 xs n
 | .tuple xs,n+1=>F8 xs n
 | .list _,0=>false
 | .tuple _,0=>false
 | .dict _,_=>false
 | .none,_=>true
 | .bool _,_=>true
 | .int _,_=>true
 | .str _,_=>true
def F8:List PV->Nat->Bool
 |[],_=>true
 |x::xs,n=>x4 x n && F8 xs n
end
section
variable {X:Cx}{pins:List (AB×Obj)}{σ:L2.St}{H:Hp}{s:AD}
theorem a8J(I:n3 X pins σ H s){a:AB}{xs ys:List V}(h:SqL X.K H a xs)(h':SqT X.K H a ys):False:=by
 obtain⟨its,r,p,_⟩:=I.list h;obtain⟨its',r',p',_⟩:=I.tuple h';exact SeqAt.ne_of_list_tuple p.isList (show s.heap.IsTuple a its'.toArray from p') rfl
theorem c2Z{K:AE}{F:Hp}{k p:PV}{r:List (PV×PV)}{y:Str}{m v:V}{fs:List (Str×V)}(h:b50 K F y m fs v)(hr:a6y K F ((k,p)::r) ((y,m)::fs)):k= .str y/\(p= .bool false\/p= .int 0)/\a6y K F r fs:=by
 obtain⟨f,w,t,e,z,q,hr⟩:=hr;cases e;refine⟨z, ?_,hr⟩;rcases h with⟨rfl,_⟩|⟨rfl,_⟩
 ·cases p with
  |bool b=>cases q;exact .inl rfl
  |tuple _=>obtain⟨_,_,e,_⟩:=q;cases e
  |list _=>obtain⟨_,_,e,_⟩:=q;cases e
  |dict _=>
   rcases q with⟨_,_,e,_⟩|⟨_,_,e,_⟩|⟨_,_,_,q⟩|⟨_,_,_,q,_⟩
   ·cases e
   ·cases e
   ·obtain⟨_,e⟩:=q.ref;cases e
   ·obtain⟨_,e⟩:=q.ref;cases e
  |_=>cases q
 ·cases p with
  |int b=>cases q;exact .inr rfl
  |tuple _=>obtain⟨_,_,e,_⟩:=q;cases e
  |list _=>obtain⟨_,_,e,_⟩:=q;cases e
  |dict _=>
   rcases q with⟨_,_,e,_⟩|⟨_,_,e,_⟩|⟨_,_,_,q⟩|⟨_,_,_,q,_⟩
   ·cases e
   ·cases e
   ·obtain⟨_,e⟩:=q.ref;cases e
   ·obtain⟨_,e⟩:=q.ref;cases e
  |_=>cases q
mutual
theorem L3.inj(I:n3 X pins σ H s):∀(p q:PV) {v:V} {n m:Nat},x4 p n=true->x4 q m=true->L3 X.K H p v->L3 X.K H q v->p=q
 | .tuple ps,q,v,n,m,hp,hq,⟨a,xs,e,h,r⟩,h'=>by
   subst e;cases q with
   |tuple qs=>
    obtain⟨a',xs',e',h',r'⟩:=h';cases e';cases I.tuple_inj h.sq h'.sq;cases n<;>cases m<;>simp only [x4,BG] at hp hq
    rw [n8.inj I ps qs hp hq r r']
   |list qs=>obtain⟨a',xs',e',h',r'⟩:=h';cases e';exact(a8J I h' h.sq).elim
   |dict qs=>simp [x4] at hq
   |_=>cases h'
 | .list ps,q,v,n,m,hp,hq,⟨a,xs,e,h,r⟩,h'=>by
   subst e;cases q with
   |list qs=>
    obtain⟨a',xs',e',h',r'⟩:=h';cases e';cases I.list_inj h h';cases n<;>cases m<;>simp only [x4,BG] at hp hq
    rw [n8.inj I ps qs hp hq r r']
   |tuple qs=>obtain⟨a',xs',e',h',r'⟩:=h';cases e';exact(a8J I h h'.sq).elim
   |dict qs=>simp [x4] at hq
   |_=>cases h'
 | .dict _,_,_,_,_,hp,_,_,_=>by simp [x4] at hp
 | .none,q,v,n,m,hp,hq,h,h'| .bool _,q,v,n,m,hp,hq,h,h'| .int _,q,v,n,m,hp,hq,h,h'| .str _,q,v,n,m,hp,hq,h,h'=>by
   cases h;cases q with
   |tuple _=>obtain⟨_,_,e,_⟩:=h';cases e
   |list _=>obtain⟨_,_,e,_⟩:=h';cases e
   |dict _=>simp [x4] at hq
   |_=>cases h'<;>rfl
theorem n8.inj(I:n3 X pins σ H s):∀(ps qs:List PV) {vs:List V} {n m:Nat},F8 ps n=true->F8 qs m=true->n8 X.K H ps vs->n8 X.K H qs vs->ps=qs
 |[],qs,vs,n,m,_,_,h,h'=>by
  cases h;cases qs with
  |nil=>rfl
  |cons q qs=>obtain⟨_,_,e,_⟩:=h';cases e
 |p::ps,qs,vs,n,m,hp,hq,⟨v,r,e,h,t⟩,h'=>by
  subst e;cases qs with
  |nil=>cases h'
  |cons q qs=>
   obtain⟨v',r',e',h',t'⟩:=h';cases e';simp only [F8,Bool.and_eq_true] at hp hq;rw [L3.inj I p q hp.1 hq.1 h h',n8.inj I ps qs hp.2 hq.2 t t']
end
end
mutual
theorem a9U:∀(p:PV) (n:Nat),x4 p n=true->PyData.eqv p p=true
 | .none,_,_=>by simp [PyData.eqv]
 | .bool _,_,_=>by simp [PyData.eqv]
 | .int _,_,_=>by simp [PyData.eqv]
 | .str _,_,_=>by simp [PyData.eqv]
 | .list xs,n+1,h=>by simp only [PyData.eqv];exact a2w xs n (by simpa [x4] using h)
 | .tuple xs,n+1,h=>by simp only [PyData.eqv];exact a2w xs n (by simpa [x4] using h)
 | .list xs,0,h=>by simp [x4] at h
 | .tuple xs,0,h=>by simp [x4] at h
 | .dict _,_,h=>by simp [x4] at h
theorem a2w:∀(ps:List PV) (n:Nat),F8 ps n=true->PyData.eqvAll ps ps=true
 |[],_,_=>by simp [PyData.eqvAll]
 |x::xs,n,h=>by
  have h':x4 x n=true/\F8 xs n=true:=by simpa [F8] using h
  simp only [PyData.eqvAll,a9U x n h'.1,a2w xs n h'.2,Bool.and_self]
end
def eAt(ps qs:List PV)(j:Nat):Bool:=match ps[j]?,qs[j]? with
 |some p,ξ q=>PyData.eqv p q
 |_,_=>false
theorem a0V:∀(ps qs:List PV),PyData.eqvAll ps qs=((AT (min ps.length qs.length)).all (eAt ps qs)&& ps.length==qs.length)
 |[],[]=>by simp [PyData.eqvAll]
 |[],_::_=>by simp [PyData.eqvAll]
 |_::_,[]=>by simp [PyData.eqvAll]
 |p::ps,q::qs=>by
  have e:min (p::ps).length (q::qs).length=min ps.length qs.length+1:=by simp only [AX];lia
  rw [e,List.range_succ_eq_map,List.all_cons,List.all_map];have h0:eAt (p::ps) (q::qs) 0=PyData.eqv p q:=rfl;have h1:(eAt (p::ps) (q::qs)∘Nat.succ)=eAt ps qs:=by funext j;simp [eAt,Function.comp]
  rw [h0,h1];simp only [PyData.eqvAll,a0V ps qs,AX,Bool.and_assoc];have e2:(ps.length+1==qs.length+1)=(ps.length==qs.length):=by
   rw [Bool.eq_iff_iff];simp
  rw [e2]
section
variable {X:Cx}{pins:List (AB×Obj)}{σ:L2.St}{H:Hp}{s:AD}
structure b9H(A:AK)(s:AD)(u w:AA)(b:Bool):Prop where
 rc:SeqAt.RcAt A s u w b
 ne:SeqAt.RcNeAt A s u w (!b)
 eq:SeqAt.EqAt A s u w b
theorem b2m(A:AK):A.in1.units=A.units+1:=rfl
theorem b77{xs:List V}{its:List AA}{j:Nat}(r:u9 xs its)(h:j<its.length):∃x,xs[j]?=ξ x/\w6 x its[j]:=by
 have hx:j<xs.length:=by rw [r.length];exact h
 obtain⟨u,h1,h2⟩:=r.get (i:=j) (x:=xs[j]) (by simp [hx])
 rw [Av h] at h1;cases h1;exact⟨xs[j],by simp [hx],h2⟩
theorem b5N{A:AK}{ps qs:List PV}{xs ys:List V}{its its2:List AA}(r:n8 X.K H ps xs)(r':n8 X.K H qs ys)(rv:u9 xs its)(rv':u9 ys its2)
 (ih:∀p q x y u w,p∈ps->q∈qs->L3 X.K H p x->L3 X.K H q y->w6 x u->w6 y w->b9H A s u w (PyData.eqv p q)):
 ∀j (h1:j<its.toArray.size) (h2:j<its2.toArray.size),SeqAt.EqAt A s its.toArray[j] its2.toArray[j] (eAt ps qs j):=by
 intro j h1 h2
 have h1':j<its.length:=by simpa using h1
 have h2':j<its2.length:=by simpa using h2
 obtain⟨x,ex,rx⟩:=b77 rv h1'
 obtain⟨y,ey,ry⟩:=b77 rv' h2'
 obtain⟨p,ep,hp⟩:=r.getV ex
 obtain⟨q,eq,hq⟩:=r'.getV ey
 have:eAt ps qs j=PyData.eqv p q:=by simp [eAt,ep,eq]
 rw [this]
 have z:=(ih p q x y _ _ (BE ep) (BE eq) hp hq rx ry).eq
 simpa using z
theorem Y0:∀{ps:List PV} {n:Nat} {p:PV},F8 ps n=true->p∈ps->x4 p n=true
 |[],_,_,_,h=>by cases h
 |x::xs,n,p,h,hp=>by
  have h':x4 x n=true/\F8 xs n=true:=by simpa [F8] using h
  rcases Ab.mp hp with rfl|hp
  ·exact h'.1
  ·exact Y0 h'.2 hp
theorem b6i(I:n3 X pins σ H s):∀(n:Nat) (A:AK) (p q:PV) (x y:V) (u w:AA),A.units+n<cLine->x4 p n=true->x4 q n=true->L3 X.K H p x->L3 X.K H q y->w6 x u->w6 y w->b9H A s u w (PyData.eqv p q):=by
 intro n
 induction n with
 |zero=>
  intro A p q x y u w hu hp hq rp rq rx ry;cases p with
  |none=>
   cases rp;cases rx;cases q with
   |none=>cases rq;cases ry;simp only [PyData.eqv];exact⟨.none_none,.none_none,.same _⟩
   |bool j=>cases rq;cases ry;simp only [PyData.eqv];exact⟨.none_bool _,.none_bool _,.none_bool _⟩
   |int j=>cases rq;obtain⟨ty,rfl⟩:=ry;simp only [PyData.eqv];exact⟨.none_int _ _,.none_int _ _,.none_int _ _⟩
   |str j=>cases rq;obtain⟨ty,rfl⟩:=ry;simp only [PyData.eqv];exact⟨.none_str _ _,.none_str _ _,.none_str _ _⟩
   |dict _=>simp [x4] at hq
   |list _=>simp [x4] at hq
   |tuple _=>simp [x4] at hq
  |bool i=>
   cases rp;cases rx;cases q with
   |none=>cases rq;cases ry;simp only [PyData.eqv];exact⟨.bool_none _,.bool_none _,.bool_none _⟩
   |bool j=>cases rq;cases ry;simp only [PyData.eqv];exact⟨.bool_bool _ _,.bool_bool _ _,.bool_bool _ _⟩
   |int j=>cases rq;obtain⟨ty,rfl⟩:=ry;simp only [PyData.eqv];exact⟨.bool_int _ _ _,.bool_int _ _ _,.bool_int _ _ _⟩
   |str j=>cases rq;obtain⟨ty,rfl⟩:=ry;simp only [PyData.eqv];exact⟨.bool_str _ _ _,.bool_str _ _ _,.bool_str _ _ _⟩
   |dict _=>simp [x4] at hq
   |list _=>simp [x4] at hq
   |tuple _=>simp [x4] at hq
  |int i=>
   cases rp;obtain⟨tx,rfl⟩:=rx;cases q with
   |none=>cases rq;cases ry;simp only [PyData.eqv];exact⟨.int_none _ _,.int_none _ _,.int_none _ _⟩
   |bool j=>cases rq;cases ry;simp only [PyData.eqv];exact⟨.int_bool _ _ _,.int_bool _ _ _,.int_bool _ _ _⟩
   |int j=>cases rq;obtain⟨ty,rfl⟩:=ry;simp only [PyData.eqv];exact⟨.int_int _ _ _ _,.int_int _ _ _ _,.int_int _ _ _ _⟩
   |str j=>cases rq;obtain⟨ty,rfl⟩:=ry;simp only [PyData.eqv];exact⟨.int_str _ _ _ _,.int_str _ _ _ _,.int_str _ _ _ _⟩
   |dict _=>simp [x4] at hq
   |list _=>simp [x4] at hq
   |tuple _=>simp [x4] at hq
  |str i=>
   cases rp;obtain⟨tx,rfl⟩:=rx;cases q with
   |none=>cases rq;cases ry;simp only [PyData.eqv];exact⟨.str_none _ _,.str_none _ _,.str_none _ _⟩
   |bool j=>cases rq;cases ry;simp only [PyData.eqv];exact⟨.str_bool _ _ _,.str_bool _ _ _,.str_bool _ _ _⟩
   |int j=>cases rq;obtain⟨ty,rfl⟩:=ry;simp only [PyData.eqv];exact⟨.str_int _ _ _ _,.str_int _ _ _ _,.str_int _ _ _ _⟩
   |str j=>cases rq;obtain⟨ty,rfl⟩:=ry;simp only [PyData.eqv];exact⟨.str_str _ _ _ _,.str_str _ _ _ _,.str_str _ _ _ _⟩
   |dict _=>simp [x4] at hq
   |list _=>simp [x4] at hq
   |tuple _=>simp [x4] at hq
  |dict _=>simp [x4] at hp
  |list _=>simp [x4] at hp
  |tuple _=>simp [x4] at hp
 |succ n ih=>
  intro A p q x y u w hu hp hq rp rq rx ry;have hu0:A.units<cLine:=by lia
  have hu1:A.in1.units+n<cLine:=by rw [b2m];lia
  cases p with
  |dict _=>simp [x4] at hp
  |list ps=>
   obtain⟨a,xs,rfl,hs,r⟩:=rp;cases rx;obtain⟨its,rv,pl,hz⟩:=I.list hs;have okp:F8 ps n=true:=by simpa [x4] using hp
   cases q with
   |dict _=>simp [x4] at hq
   |list qs=>
    obtain⟨b,ys,rfl,hs',r'⟩:=rq;cases ry;obtain⟨its2,rv',pl',hz'⟩:=I.list hs';have okq:F8 qs n=true:=by simpa [x4] using hq
    have hle:its.toArray.size=ps.length:=by rw [<-r.length,rv.length];simp
    have hle':its2.toArray.size=qs.length:=by rw [<-r'.length,rv'.length];simp
    have he:=b5N (A:=A.in1) (s:=s) r r' rv rv' λp q x y u w hp' hq' rp' rq' rx' ry'=>ih A.in1 p q x y u w hu1 (Y0 okp hp') (Y0 okq hq') rp' rq' rx' ry';simp only [PyData.eqv];have main:SeqAt.RcAt A s (.ref a) (.ref b) (PyData.eqvAll ps qs)/\SeqAt.RcNeAt A s (.ref a) (.ref b) (!PyData.eqvAll ps qs):=by
     by_cases e:its.toArray.size=its2.toArray.size
     ·have el:ps.length=qs.length:=by rw [<-hle,<-hle',e]
      have e3:PyData.eqvAll ps qs=(AT its.toArray.size).all (eAt ps qs):=by
       rw [a0V,el,Nat.min_self,hle,el];simp
      rw [e3];exact⟨.lists pl.isList pl'.isList e hu0 he,.lists pl.isList pl'.isList e hu0 he⟩
     ·have e3:PyData.eqvAll ps qs=false:=by
       rw [a0V];have:(ps.length==qs.length)=false:=by
        rw [beq_eq_false_iff_ne];intro z;exact e (by rw [hle,hle',z])
       rw [this,Bool.and_false]
      have e4:(its.toArray.size !=its2.toArray.size)=true:=by simpa using e
      rw [e3];exact⟨.lists_lengths pl.isList pl'.isList e4 hu0,.lists_lengths pl.isList pl'.isList e4 hu0⟩
    refine⟨main.1,main.2, ?_⟩
    by_cases hab:a=b
    ·subst hab;cases I.list_inj hs hs';cases n8.inj I ps qs okp okq r r';rw [a2w ps n okp];exact .same _
    ·exact .of_refs hab main.1
   |tuple qs=>
    obtain⟨b,ys,rfl,hs',r'⟩:=rq;cases ry;obtain⟨its2,rv',pl',hz'⟩:=I.tuple hs'.sq;simp only [PyData.eqv];exact⟨.list_tuple pl.isList pl' hu0,.list_tuple pl.isList pl' hu0,.list_tuple pl.isList pl' hu0⟩
   |none=>cases rq;cases ry;simp only [PyData.eqv];exact⟨.list_none pl.isList hu0,.list_none pl.isList hu0,.list_none pl.isList hu0⟩
   |bool k=>cases rq;cases ry;simp only [PyData.eqv];exact⟨.list_bool _ pl.isList hu0,.list_bool _ pl.isList hu0,.list_bool _ pl.isList hu0⟩
   |int k=>cases rq;obtain⟨t,rfl⟩:=ry;simp only [PyData.eqv];exact⟨.list_int _ _ pl.isList hu0,.list_int _ _ pl.isList hu0,.list_int _ _ pl.isList hu0⟩
   |str k=>cases rq;obtain⟨t,rfl⟩:=ry;simp only [PyData.eqv];exact⟨.list_str _ _ pl.isList hu0,.list_str _ _ pl.isList hu0,.list_str _ _ pl.isList hu0⟩
  |tuple ps=>
   obtain⟨a,xs,rfl,hs,r⟩:=rp;cases rx;obtain⟨its,rv,pl,hz⟩:=I.tuple hs.sq;have okp:F8 ps n=true:=by simpa [x4] using hp
   cases q with
   |dict _=>simp [x4] at hq
   |tuple qs=>
    obtain⟨b,ys,rfl,hs',r'⟩:=rq;cases ry;obtain⟨its2,rv',pl',hz'⟩:=I.tuple hs'.sq;have okq:F8 qs n=true:=by simpa [x4] using hq
    have hle:its.toArray.size=ps.length:=by rw [<-r.length,rv.length];simp
    have hle':its2.toArray.size=qs.length:=by rw [<-r'.length,rv'.length];simp
    have he:=b5N (A:=A.in1) (s:=s) r r' rv rv' λp q x y u w hp' hq' rp' rq' rx' ry'=>ih A.in1 p q x y u w hu1 (Y0 okp hp') (Y0 okq hq') rp' rq' rx' ry';simp only [PyData.eqv];have e3:PyData.eqvAll ps qs=((AT (min its.toArray.size its2.toArray.size)).all (eAt ps qs)&& its.toArray.size==its2.toArray.size):=by
     rw [a0V,hle,hle']
    have main:SeqAt.RcAt A s (.ref a) (.ref b) (PyData.eqvAll ps qs)/\SeqAt.RcNeAt A s (.ref a) (.ref b) (!PyData.eqvAll ps qs):=by
     rw [e3];exact⟨.tuples pl pl' hu0 he,.tuples pl pl' hu0 he⟩
    refine⟨main.1,main.2, ?_⟩
    by_cases hab:a=b
    ·subst hab;cases I.tuple_inj hs.sq hs'.sq;cases n8.inj I ps qs okp okq r r';rw [a2w ps n okp];exact .same _
    ·exact .of_refs hab main.1
   |list qs=>
    obtain⟨b,ys,rfl,hs',r'⟩:=rq;cases ry;obtain⟨its2,rv',pl',hz'⟩:=I.list hs';simp only [PyData.eqv];exact⟨.tuple_list pl pl'.isList hu0,.tuple_list pl pl'.isList hu0,.tuple_list pl pl'.isList hu0⟩
   |none=>cases rq;cases ry;simp only [PyData.eqv];exact⟨.tuple_none pl hu0,.tuple_none pl hu0,.tuple_none pl hu0⟩
   |bool k=>cases rq;cases ry;simp only [PyData.eqv];exact⟨.tuple_bool _ pl hu0,.tuple_bool _ pl hu0,.tuple_bool _ pl hu0⟩
   |int k=>cases rq;obtain⟨t,rfl⟩:=ry;simp only [PyData.eqv];exact⟨.tuple_int _ _ pl hu0,.tuple_int _ _ pl hu0,.tuple_int _ _ pl hu0⟩
   |str k=>cases rq;obtain⟨t,rfl⟩:=ry;simp only [PyData.eqv];exact⟨.tuple_str _ _ pl hu0,.tuple_str _ _ pl hu0,.tuple_str _ _ pl hu0⟩
  |none=>
   cases q with
   |list qs=>
    obtain⟨b,ys,rfl,hs',r'⟩:=rq;cases ry;obtain⟨its2,rv',pl',hz'⟩:=I.list hs';cases rp;cases rx;simp only [PyData.eqv];exact⟨.none_list pl'.isList hu0,.none_list pl'.isList hu0,.none_list pl'.isList hu0⟩
   |tuple qs=>
    obtain⟨b,ys,rfl,hs',r'⟩:=rq;cases ry;obtain⟨its2,rv',pl',hz'⟩:=I.tuple hs'.sq;cases rp;cases rx;simp only [PyData.eqv];exact⟨.none_tuple pl' hu0,.none_tuple pl' hu0,.none_tuple pl' hu0⟩
   |dict _=>simp [x4] at hq
   |_=>exact ih A _ _ x y u w (by lia) (by simp [x4]) (by simp [x4]) rp rq rx ry
  |bool k=>
   cases q with
   |list qs=>
    obtain⟨b,ys,rfl,hs',r'⟩:=rq;cases ry;obtain⟨its2,rv',pl',hz'⟩:=I.list hs';cases rp;cases rx;simp only [PyData.eqv];exact⟨.bool_list _ pl'.isList hu0,.bool_list _ pl'.isList hu0,.bool_list _ pl'.isList hu0⟩
   |tuple qs=>
    obtain⟨b,ys,rfl,hs',r'⟩:=rq;cases ry;obtain⟨its2,rv',pl',hz'⟩:=I.tuple hs'.sq;cases rp;cases rx;simp only [PyData.eqv];exact⟨.bool_tuple _ pl' hu0,.bool_tuple _ pl' hu0,.bool_tuple _ pl' hu0⟩
   |dict _=>simp [x4] at hq
   |_=>exact ih A _ _ x y u w (by lia) (by simp [x4]) (by simp [x4]) rp rq rx ry
  |int k=>
   cases q with
   |list qs=>
    obtain⟨b,ys,rfl,hs',r'⟩:=rq;cases ry;obtain⟨its2,rv',pl',hz'⟩:=I.list hs';cases rp;obtain⟨t,rfl⟩:=rx;simp only [PyData.eqv];exact⟨.int_list _ _ pl'.isList hu0,.int_list _ _ pl'.isList hu0,.int_list _ _ pl'.isList hu0⟩
   |tuple qs=>
    obtain⟨b,ys,rfl,hs',r'⟩:=rq;cases ry;obtain⟨its2,rv',pl',hz'⟩:=I.tuple hs'.sq;cases rp;obtain⟨t,rfl⟩:=rx;simp only [PyData.eqv];exact⟨.int_tuple _ _ pl' hu0,.int_tuple _ _ pl' hu0,.int_tuple _ _ pl' hu0⟩
   |dict _=>simp [x4] at hq
   |_=>exact ih A _ _ x y u w (by lia) (by simp [x4]) (by simp [x4]) rp rq rx ry
  |str k=>
   cases q with
   |list qs=>
    obtain⟨b,ys,rfl,hs',r'⟩:=rq;cases ry;obtain⟨its2,rv',pl',hz'⟩:=I.list hs';cases rp;obtain⟨t,rfl⟩:=rx;simp only [PyData.eqv];exact⟨.str_list _ _ pl'.isList hu0,.str_list _ _ pl'.isList hu0,.str_list _ _ pl'.isList hu0⟩
   |tuple qs=>
    obtain⟨b,ys,rfl,hs',r'⟩:=rq;cases ry;obtain⟨its2,rv',pl',hz'⟩:=I.tuple hs'.sq;cases rp;obtain⟨t,rfl⟩:=rx;simp only [PyData.eqv];exact⟨.str_tuple _ _ pl' hu0,.str_tuple _ _ pl' hu0,.str_tuple _ _ pl' hu0⟩
   |dict _=>simp [x4] at hq
   |_=>exact ih A _ _ x y u w (by lia) (by simp [x4]) (by simp [x4]) rp rq rx ry
end
set_option maxHeartbeats 1000000
instance (i j:Int):Decidable (b5Q i j):=by unfold b5Q;infer_instance
instance (i j:Int):Decidable (b0T i j):=by unfold b0T;infer_instance
instance (i j:Int):Decidable (b78 i j):=by unfold b78;infer_instance
def d7.mine:d7->Option (List PV)
 | .ow (.lst ps)=>ξ ps
 | .bo (.lst ps)=>ξ ps
 |_=>ζ
theorem b5a{K:AE}{F H:Hp}{v:V}{r:d7}{ps:List PV}(h:X4 K F H v r)(e:r.mine=ξ ps):∃a xs,v= .ref a/\F a=ζ/\H a=ξ (.lst xs)/\n8 K F ps xs:=by
 cases r with
 |v _=>cases e
 |ow c=>cases c<;>cases e;exact h
 |bo c=>cases c<;>cases e;exact h
def y8(x y:d7):Option d7:=match x,y with
 | .v (.int i),.v (.int j)=>ξ (.v (.int (i+j)))
 | .v (.str i),.v (.str j)=>if i.length+j.length<=AM then ξ (.v (.str (i++j))) else ζ
 | .v (.tuple ps),.v (.tuple qs)=>if(ps.length≠0/\qs.length≠0)/\ps.length+qs.length<=AM then ξ (.v (.tuple (ps++qs))) else ζ
 |x,y=>match x.mine,y.mine with
  |some ps,ξ qs=>if ps.length+qs.length<=AM then ξ (.own (ps++qs)) else ζ
  |_,_=>ζ
section
variable {X:Cx}
theorem n6:OpM X (binaryOp .Add) y8:=by
 ext e
 unfold y8 at h3;split at h3
 ·cases h3;cases h1;cases h2;exact c4Z pins s σ H _ _ v u Q I rx ry ⟨_,_,rfl,rfl,k _ F H (B2.here s0 rfl)⟩
 ·rename_i i j;split at h3
  ·rename_i c;cases h3;cases h1;cases h2;exact b6N pins s σ H _ _ v u Q I rx ry ⟨i,j,rfl,rfl,c,k _ F H (B2.here s0 rfl)⟩
  ·cases h3
 ·rename_i ps qs;split at h3
  ·rename_i c;cases h3;obtain⟨a,xs,rfl,hq,r⟩:=h1;obtain⟨b,ys,rfl,hq',r'⟩:=h2;refine c22 pins s σ H _ _ v u Q I rx ry ⟨a,b,xs,ys,rfl,rfl,w4 s0 hq.sq,w4 s0 hq'.sq, ?_,by rw [r.length,r'.length];exact c.2, ?_⟩
   ·intro z;subst z;exact c.1.1 r.length.symm
   ·refine⟨λz=> ?_,λ_ p hp=>k _ _ _ (B2.tup s0 hp (r.append r'))⟩;subst z;exact absurd r'.length.symm c.1.2
  ·cases h3
 ·split at h3
  ·rename_i ps qs e1 e2;split at h3
   ·rename_i c;cases h3;obtain⟨a,xs,rfl,_,hq,r⟩:=b5a h1 e1;obtain⟨b,ys,rfl,_,hq',r'⟩:=b5a h2 e2;refine c40 pins s σ H _ _ v u Q I rx ry ⟨a,b,xs,ys,rfl,rfl,hq,hq',by rw [r.length,r'.length];exact c,λp hp=> ?_⟩
    exact k _ _ _ (B2.lst s0 hp (r.append r'))
   ·cases h3
  ·cases h3
theorem S7:OpM X (binaryOp .Sub) (gI λi j=> .int (i - j)):=c38 c46 λ_ _ _=>rfl
theorem c28:OpM X (binaryOp .Mult) (J2 b5Q λi j=> .int (i*j)):=b3Z c43 λ_ _ _=>rfl
theorem u7:OpM X (binaryOp .Mod) (J2 (λ_ j=>0<j) λi j=> .int (i % j)):=b3Z c42 λ_ _ _=>rfl
theorem b5t:OpM X (binaryOp .FloorDiv) (J2 b0T λi j=> .int (i / j)):=b3Z c23 λ_ _ _=>rfl
theorem c29:OpM X (binaryOp .Pow) (J2 b78 λi j=> .int (i ^ j.toNat)):=b3Z c44 λ_ _ _=>rfl
theorem a4B:OpM X (compareOp .Gt) (gI λi j=> .bool (decide (j<i))):=c38 c53 λ_ _ _=>rfl
def D0(x y:d7):Option d7:=if x4 x.rd 50=true/\x4 y.rd 50=true then ξ (.v (.bool (PyData.eqv x.rd y.rd))) else ζ
def gNe(x y:d7):Option d7:=if x4 x.rd 50=true/\x4 y.rd 50=true then ξ (.v (.bool (!PyData.eqv x.rd y.rd))) else ζ
theorem l6(hu:X.A.units+64<cLine):OpM X (compareOp .Eq) D0:=by
 ext e
 unfold D0 at h3;split at h3
 ·rename_i c;cases h3;have z:=b6i I 50 X.A _ _ x y v u (by lia) c.1 c.2 (h1.rd s0) (h2.rd s0) rx ry
  exact z.rc _ _ _ _ ⟨.bl _,H,I,rfl,k _ F H (B2.here s0 rfl)⟩
 ·cases h3
theorem a1v(hu:X.A.units+64<cLine):OpM X (compareOp .NotEq) gNe:=by
 ext e
 unfold gNe at h3;split at h3
 ·rename_i c;cases h3;have z:=b6i I 50 X.A _ _ x y v u (by lia) c.1 c.2 (h1.rd s0) (h2.rd s0) rx ry
  exact z.ne _ _ _ _ ⟨.bl _,H,I,rfl,k _ F H (B2.here s0 rfl)⟩
 ·cases h3
open Classical in
def b1e(K:AE)(H:Hp)(q:PV)(u:AA):Bool:=if h:∃p v,w6 v u/\L3 K H p v/\x4 p 50=true then PyData.eqv h.choose q else false
theorem b7i{pins:List (AB×Obj)}{σ:L2.St}{H:Hp}{s:AD}(I:n3 X pins σ H s){p q:PV}{v:V}{u:AA}(r:w6 v u)(h:L3 X.K H p v)(ok:x4 p 50=true):b1e X.K H q u=PyData.eqv p q:=by
 have hx:∃p v,w6 v u/\L3 X.K H p v/\x4 p 50=true:=⟨p,v,r,h,ok⟩;unfold b1e;rw [dif_pos hx];obtain⟨v',r',h',o'⟩:=hx.choose_spec;cases r.inj r';rw [L3.inj I _ _ o' ok h' h]
theorem a9x{pins:List (AB×Obj)}{σ:L2.St}{H:Hp}{s:AD}(I:n3 X pins σ H s){q:PV}:∀{ps:List PV} {xs:List V} {us:List AA},n8 X.K H ps xs->u9 xs us->F8 ps 50=true->us.any (b1e X.K H q)=ps.any λp=>PyData.eqv p q
 |[],_,_,r,v,_=>by cases r;cases v;rfl
 |p::ps,_,_,⟨x,r,e,h,t⟩,v,ok=>by
  simp only [F8,Bool.and_eq_true] at ok;subst e;cases v with
  |cons a b=>rw [List.any_cons,List.any_cons,b7i I a h ok.1,a9x I t b ok.2]
theorem b7G{H:Hp}:∀{ps:List PV} {xs:List V} {us:List AA} {u:AA},n8 X.K H ps xs->u9 xs us->u∈us->∃p x,p∈ps/\w6 x u/\L3 X.K H p x
 |[],_,_,_,r,v,h=>by cases r;cases v;cases h
 |p::ps,_,_,u,⟨x,r,e,hp,t⟩,v,h=>by
  subst e;cases v with
  |cons a b=>
   rcases Ab.mp h with rfl|h
   ·exact⟨p,x,AZ,a,hp⟩
   ·obtain⟨p',x',h1,h2,h3⟩:=b7G t b h;exact⟨p',x',Aa _ h1,h2,h3⟩
def PyData.items?:PV->Option (List PV)
 | .list ps=>ξ ps
 | .tuple ps=>ξ ps
 |_=>ζ
def gIn(neg:Bool)(x y:d7):Option d7:=match PyData.items? y.rd with
 |some ps=>if x4 x.rd 50=true/\F8 ps 50=true then ξ (.v (.bool (if neg then !(ps.any λp=>PyData.eqv p x.rd) else ps.any λp=>PyData.eqv p x.rd))) else ζ
 |none=>ζ
theorem b4X{pins:List (AB×Obj)}{σ:L2.St}{H:Hp}{s:AD}(I:n3 X pins σ H s)(hu:X.A.units+64<cLine){q:PV}{ps:List PV}{x:V}{xs:List V}{v:AA}{us:List AA}(hq:x4 q 50=true)(hp:F8 ps 50=true)
 (rq:L3 X.K H q x) (rx:w6 x v) (r:n8 X.K H ps xs) (rv:u9 xs us):∀y,y∈us.toArray->SeqAt.EqAt X.A.in1 s y v (b1e X.K H q y):=by
 intro y hy
 have hy':y∈us:=by simpa using hy
 obtain⟨p,z,h1,h2,h3⟩:=b7G r rv hy'
 rw [b7i I h2 h3 (Y0 hp h1)]
 exact(b6i I 50 X.A.in1 p q z x y v (by rw [b2m];lia) (Y0 hp h1) hq h3 rq h2 rx).eq
theorem a04{F H:Hp}{v:V}{r:d7}{ps:List PV}(s0:u4 F H)(h:X4 X.K F H v r)(e:PyData.items? r.rd=ξ ps):∃a xs,v= .ref a/\(SqL X.K H a xs\/SqT X.K H a xs)/\n8 X.K F ps xs:=by
 cases r with
 |v p=>
  cases p with
  |list qs=>cases e;obtain⟨a,xs,rfl,hq,r⟩:=h;exact⟨a,xs,rfl,.inl (L1 s0 hq),r⟩
  |tuple qs=>cases e;obtain⟨a,xs,rfl,hq,r⟩:=h;exact⟨a,xs,rfl,.inr (w4 s0 hq.sq),r⟩
  |_=>cases e
 |ow c=>cases c<;>cases e;obtain⟨a,xs,rfl,_,hq,r⟩:=h;exact⟨a,xs,rfl,.inl (SqL.of hq),r⟩
 |bo c=>cases c<;>cases e;obtain⟨a,xs,rfl,_,hq,r⟩:=h;exact⟨a,xs,rfl,.inl (SqL.of hq),r⟩
theorem c47(hu:X.A.units+64<cLine):OpM X (compareOp .In) (gIn false):=by
 ext e
 unfold gIn at h3;split at h3
 ·rename_i ps e;split at h3
  ·rename_i c;cases h3;obtain⟨a,xs,rfl,hq,r⟩:=a04 s0 h2 e;cases ry;have rH:=n8.mono s0 _ r;rcases hq with hq|hq
   ·obtain⟨its,rv,pl,hz⟩:=I.list hq;refine SeqAt.in_listAt (b1e X.K H ra.rd) pl.isList (b4X I hu c.1 c.2 (h1.rd s0) rx rH rv) ⟨.bl _,H,I,rfl, ?_⟩;rw [show its.toArray.any (b1e X.K H ra.rd)=its.any (b1e X.K H ra.rd) by simp,a9x I rH rv c.2]
    exact k _ F H (B2.here s0 rfl)
   ·obtain⟨its,rv,pl,hz⟩:=I.tuple hq;refine SeqAt.in_tupleAt (b1e X.K H ra.rd) pl (b4X I hu c.1 c.2 (h1.rd s0) rx rH rv) ⟨.bl _,H,I,rfl, ?_⟩;rw [show its.toArray.any (b1e X.K H ra.rd)=its.any (b1e X.K H ra.rd) by simp,a9x I rH rv c.2]
    exact k _ F H (B2.here s0 rfl)
  ·cases h3
 ·cases h3
def c4C(neg:Bool)(x y:d7):Option d7:=match y with
 | .v .none=>(match x.rd with
   | .none=>ξ (.v (.bool (!neg)))
   |_=>ξ (.v (.bool neg)))
 |_=>ζ
def PyData.isNone:PV->Bool
 | .none=>true
 |_=>false
theorem c3p{K:AE}{H:Hp}{p:PV}{v:V}(h:L3 K H p v):decide (v=V.non)=PyData.isNone p:=by
 cases p with
 |none=>cases h;rfl
 |bool _=>cases h;rfl
 |int _=>cases h;rfl
 |str _=>cases h;rfl
 |list _=>obtain⟨_,_,rfl,_⟩:=h;rfl
 |tuple _=>obtain⟨_,_,rfl,_⟩:=h;rfl
 |dict _=>
  rcases h with⟨_,_,rfl,_⟩|⟨_,_,rfl,_⟩|⟨_,_,_,h⟩|⟨_,_,_,h,_⟩
  ·rfl
  ·rfl
  ·obtain⟨_,rfl⟩:=h.ref;rfl
  ·obtain⟨_,rfl⟩:=h.ref;rfl
theorem c26:OpM X (compareOp .Is) (c4C false):=
 a78 c41 λF H x y rx ry rz s0 h1 h2 h3 Q k=>by
  unfold c4C at h3;split at h3
  ·cases h2;have e:=c3p (h1.rd s0);refine⟨rfl, ?_⟩;rw [e];cases hp:rx.rd<;>rw [hp] at h3<;>cases h3<;>exact k _ F H (B2.here s0 rfl)
  ·cases h3
def W4(m:M):M:=λρ=>(m ρ).bind λr=>match r with
 | .v (.int i)=>ξ (.v (.int (-i)))
 |_=>ζ
theorem a1l{a:AG}{ma:M}{pos:Pos}(ha:EE X a ma):EE X (.UnaryOp .USub a pos) (W4 ma):=
 C6 (c6a c5I ha) λσ H Q h0=>B7 h0 λF ρ r he hm k=>by
  obtain⟨rx,e1,hm⟩:=bind_some hm;refine⟨F,ρ,rx,he,e1,λv F1 H1 o1=> ?_⟩;split at hm
  ·cases hm;exact⟨_,o1.rep,k _ F1 H1 (B2.trans o1.x (B2.here o1.x.fh rfl))⟩
  ·cases hm
def k6(x y:d7):Option d7:=match y with
 | .v (.int i)=>(match x.rd with
   | .str z=>if z.length<=AM then(atI z.cps.toList i).map λc=> .v (.str ⟨#[c]⟩) else ζ
   |p=>match PyData.items? p with
    |some ps=>(atI ps i).map .v
    |none=>ζ)
 |_=>ζ
theorem n8.atI{K:AE}{H:Hp}{ps:List PV}{xs:List V}{i:Int}{p:PV}(r:n8 K H ps xs)(e:L2.atI ps i=ξ p):∃v,L2.atI xs i=ξ v/\L3 K H p v:=by
 unfold L2.atI at e ⊢;rw [r.length];obtain⟨j,e1,e2⟩:=bind_some e;rw [e1];exact r.get e2
theorem ixm:IxR X (rM2 X.K k6):=by
 intro value slice pins s σ H x y v u Q I rx ry h hs;obtain⟨F,ra,rb,rz,s0,h1,h2,h3,k⟩:=h;unfold k6 at h3;split at h3
 ·rename_i i;cases h2;split at h3
  ·rename_i z ez;split at h3
   ·rename_i c;have rr:=h1.rd s0;rw [ez] at rr;cases rr;cases ea:L2.atI z.cps.toList i with
    |none=>rw [ea] at h3;cases h3
    |some ch=>
     rw [ea] at h3;cases h3;exact c4K value slice pins s σ H _ _ v u Q I rx ry ⟨z,i,ch,rfl,rfl,c,ea,k _ F H (B2.here s0 rfl)⟩ hs
   ·cases h3
  ·split at h3
   ·rename_i ps e;cases ea:L2.atI ps i with
    |none=>rw [ea] at h3;cases h3
    |some p=>
     rw [ea] at h3;cases h3;obtain⟨a,xs,rfl,hq,r⟩:=a04 s0 h1 e;obtain⟨z,ez,rp⟩:=r.atI ea;rcases hq with hq|hq
     ·exact c2L value slice pins s σ H _ _ v u Q I rx ry ⟨a,xs,i,z,rfl,rfl,hq,ez,k _ F H (B2.here s0 rp)⟩ hs
     ·exact c4L value slice pins s σ H _ _ v u Q I rx ry ⟨a,xs,i,z,rfl,rfl,hq,ez,k _ F H (B2.here s0 rp)⟩ hs
   ·cases h3
 ·cases h3
theorem d8{a b:AG}{ma mb:M}{pos:Pos}(ha:EE X a ma)(hb:EE X b mb)(hs:b69 b:=by intro _ _;rfl):EE X (.Subscript a b pos) (m2 k6 ma mb):=
 C6 (c58 ixm ha hb hs) λ_ _ _ h=>b4g h
abbrev MA:=c5->Option (List PV)
def tMA(K:AE)(m:MA):TA:=λσ H Q=>∃F ρ ps,J4 K F H σ ρ/\m ρ=ξ ps/\∀vs F' H',Ext F H F' H'->n8 K F' ps vs->Q vs H'
abbrev EA(X:Cx)(es:List AG)(m:MA):Prop:=PA X es (tMA X.K m)
def b8:MA:=λ_=>ξ []
def a8(m:M)(r:MA):MA:=λρ=>((m ρ).bind d7.toVal).bind λp=>(r ρ).bind λps=>ξ (p::ps)
theorem c6:EA X [] b8:=c1h a2d λσ H Q h0=>B7 h0 λF ρ ps he hm k=>by
 cases hm;exact k [] F H (Ext.refl he.fh) rfl
theorem a9{e:AG}{es:List AG}{m:M}{r:MA}(ha:EE X e m)(hr:EA X es r)(hs:AL (e::es) X.env=(false,eval e X.env)::AL es X.env:=by rfl):EA X (e::es) (a8 m r):=
 c1h (Q5 ha hr hs) λσ H Q h0=>B7 h0 λF ρ ps he hm k=>by
  obtain⟨p,e1,hm⟩:=bind_some hm;obtain⟨r1,e1,e2⟩:=bind_some e1;obtain⟨qs,e3,hm⟩:=bind_some hm;cases hm;refine⟨F,ρ,r1,he,e1,λv F1 H1 o1=> ?_⟩;obtain⟨F2,o2⟩:=o1.toVal e2;exact⟨F2,ρ,qs,he.ext o2.x,e3,λvs F3 H3 x3 rl=>k _ F3 H3 (o2.x.trans x3) ⟨v,vs,rfl,L3.mono x3.f _ o2.rep,rl⟩⟩
def u5(m:MA):M:=λρ=>(m ρ).bind λps=>if ps.length<=AM then ξ (.v (.tuple ps)) else ζ
def N2(m:MA):M:=λρ=>(m ρ).bind λps=>if ps.length<=AM then ξ (.own ps) else ζ
theorem p8{es:List AG}{m:MA}{x1:Nat}{pos:Pos}(h:EA X es m):EE X (.Tuple es x1 pos) (u5 m):=
 C6 (c5j h) λσ H Q h0=>B7 h0 λF ρ r he hm k=>by
  obtain⟨ps,e1,hm⟩:=bind_some hm;split at hm
  ·rename_i c;cases hm;exact⟨F,ρ,ps,he,e1,λvs F1 H1 x rl=>⟨by rw [rl.length];exact c,λp hp=>k _ _ _ (B2.trans x (B2.tup x.fh hp rl))⟩⟩
  ·cases hm
theorem J1{es:List AG}{m:MA}{pos:Pos}(h:EA X es m):EE X (.List es pos) (N2 m):=
 C6 (c5e h) λσ H Q h0=>B7 h0 λF ρ r he hm k=>by
  obtain⟨ps,e1,hm⟩:=bind_some hm;split at hm
  ·rename_i c;cases hm;exact⟨F,ρ,ps,he,e1,λvs F1 H1 x rl=>⟨by rw [rl.length];exact c,λp hp=>k _ _ _ (B2.trans x (B2.lst x.fh hp rl))⟩⟩
  ·cases hm
def spP(K:AE)(n:Nat)(g:List PV->Option d7):Sp:=λvs H Q _=>∃F ps r,u4 F H/\n8 K F ps vs/\ps.length=n/\g ps=ξ r/\∀v F' H',B2 K F H F' H' v r->Q v H'
def j5(g:List PV->Option d7)(m:MA):M:=λρ=>(m ρ).bind g
theorem c2q{k n:Nat}{f:AB}{fd:FuncData}{ps:List Str}{g:List PV->Option d7}{x:Str}{p pos:Pos}{e:AG}{es:List AG}{m:MA}
 (G:U7 X.prog X.w X.K X.mg X.base CX0 k f fd ps (spP X.K n g)) (hr:O1 k X.A) (hg:Gl X x) (hm:X.mg x=ξ (.ref f)) (hk:PySem.W.keepIn X.K (.ref f)=true) (hb:a05 X.K fd ps []) (hn:∀ρ ps,m ρ=ξ ps->ps.length=n) (ha:EA X (e::es) m)
 (hdb:(x==("__debug__":Str))=false:=by decide) (he:AL (e::es) X.env=(false,eval e X.env)::AL es X.env:=by rfl) (hpl:(backTo pos (AL es X.env)).any (·.1)=false:=by rfl):
 EE X (.Call (.Name x p) (e::es) [] pos) (j5 g m):=
 C6 (b7K G hr hg hm hk hb .nil b2v ha hdb he hpl) λσ H Q h0=>B7 h0 λF ρ r he hm k=>by
  obtain⟨qs,e1,hm⟩:=bind_some hm;refine⟨F,ρ,qs,he,e1,λvs F1 H1 x rl=> ?_⟩;show spP X.K n g (vs++[]) H1 Q E0;rw [Ag];exact⟨F1,qs,r,x.fh,rl,hn _ _ e1,hm,λv F2 H2 o=>k v F2 H2 (B2.trans x o)⟩
theorem b97{k:Nat}{f:AB}{fd:FuncData}{ps:List Str}{g:List PV->Option d7}{x:Str}{p pos:Pos}
 (G:U7 X.prog X.w X.K X.mg X.base CX0 k f fd ps (spP X.K 0 g)) (hr:O1 k X.A) (hg:Gl X x) (hm:X.mg x=ξ (.ref f)) (hk:PySem.W.keepIn X.K (.ref f)=true) (hb:a05 X.K fd ps [])
 (hdb:(x==("__debug__":Str))=false:=by decide):
 EE X (.Call (.Name x p) [] [] pos) (λ_=>g []):=
 C6 (c1j G hr hg hm hk hb .nil b2v hdb) λσ H Q h0=>B7 h0 λF ρ r he hm k=>by
  exact⟨F,[],r,he.fh,rfl,rfl,hm,k⟩
theorem d9:∀ρ ps,b8 ρ=ξ ps->ps.length=0:=λ_ _ h=>by cases h;rfl
theorem b4{m:M}{r:MA}{n:Nat}(h:∀ρ ps,r ρ=ξ ps->ps.length=n):∀ρ ps,a8 m r ρ=ξ ps->ps.length=n+1:=λρ ps e=>by
 obtain⟨p,e1,e⟩:=bind_some e;obtain⟨qs,e3,e⟩:=bind_some e;cases e;rw [AX,h ρ qs e3]
end
mutual
def a3E(K:AE):Nat->AA->Option PV
 |0,_=>ζ
 |_+1,.none=>ξ .none
 |_+1,.bool b=>ξ (.bool b)
 |_+1,.int i _=>ξ (.int i)
 |_+1,.str x _=>ξ (.str x)
 |n+1,.ref a=>match K.lookup a with
  |some ⟨.type "tuple",_,.seq its _,_⟩=>if its.size<=1000 then(a6G K n its.toList).map .tuple else ζ
  |some ⟨.type "list",ζ,.seq its _,_⟩=>if its.size<=1000 then(a6G K n its.toList).map .list else ζ
  |_=>ζ
 |_+1,_=>ζ
def a6G(K:AE):Nat->List AA->Option (List PV)
 |0,_=>ζ
 |_+1,[]=>ξ []
 |n+1,u::us=>(a3E K n u).bind λp=>(a6G K n us).bind λps=>ξ (p::ps)
end
theorem b0L{n:Nat}(h:n<=1000):n<=AM:=BD (b9v h)
theorem b4t(K:AE):∀(n:Nat),(∀(u:AA) (p:PV),a3E K n u=ξ p->∃v,w6 v u/\∀H,L3 K H p v)/\(∀(us:List AA) (ps:List PV),a6G K n us=ξ ps->∃vs,u9 vs us/\∀H,n8 K H ps vs):=by
 intro n
 induction n with
 |zero=>exact⟨λu p h=>by simp [a3E] at h,λu p h=>by simp [a6G] at h⟩
 |succ n ih=>
  constructor
  ·intro u p h;cases u with
   |none=>simp only [a3E] at h;cases h;exact⟨.non,rfl,λ_=>rfl⟩
   |bool b=>simp only [a3E] at h;cases h;exact⟨.bl b,rfl,λ_=>rfl⟩
   |int i t=>simp only [a3E] at h;cases h;exact⟨.int i,⟨t,rfl⟩,λ_=>rfl⟩
   |str x t=>simp only [a3E] at h;cases h;exact⟨.str x,⟨t,rfl⟩,λ_=>rfl⟩
   |ref a=>
    simp only [a3E] at h;split at h
    ·rename_i d its m sl e;split at h
     ·rename_i c;cases q:a6G K n its.toList with
      |none=>rw [q] at h;cases h
      |some ps=>
       rw [q] at h;cases h;obtain⟨vs,h1,h2⟩:=ih.2 _ _ q;exact⟨.ref a,rfl,λH=>⟨a,vs,rfl,.inr ⟨_,its,m,e,rfl,rfl,b0L c,h1⟩,h2 H⟩⟩
     ·cases h
    ·rename_i its m sl e;split at h
     ·rename_i c;cases q:a6G K n its.toList with
      |none=>rw [q] at h;cases h
      |some ps=>
       rw [q] at h;cases h;obtain⟨vs,h1,h2⟩:=ih.2 _ _ q;exact⟨.ref a,rfl,λH=>⟨a,vs,rfl,.inr ⟨_,its,m,e,rfl,rfl,rfl,b0L c,h1⟩,h2 H⟩⟩
     ·cases h
    ·cases h
   |_=>simp [a3E] at h
  ·intro us ps h;cases us with
   |nil=>simp only [a6G] at h;cases h;exact⟨[],.nil,λ_=>rfl⟩
   |cons u us=>
    simp only [a6G] at h;obtain⟨p,e1,h⟩:=bind_some h;obtain⟨qs,e2,h⟩:=bind_some h;cases h;obtain⟨v,r1,r2⟩:=ih.1 _ _ e1;obtain⟨vs,r3,r4⟩:=ih.2 _ _ e2;exact⟨v::vs,.cons r1 r3,λH=>⟨v,vs,rfl,r2 H,r4 H⟩⟩
section
variable {X:Cx}
theorem a6V{x:Str}{u:AA}{p:PV}{pos:Pos}{n:Nat}(hg:Gl X x)(hm:X.mg x=ξ u)(ha:a3E X.K n u=ξ p)(hd:(x==("__debug__":Str))=false:=by decide):EE X (.Name x pos) (mC p):=by
 obtain⟨v,r,h⟩:=(b4t X.K n).1 u p ha;exact a2u (b7M hg hm r hd) h
def b7y:PV->Option u8
 | .int i=>ξ (.inl i)
 | .str x=>ξ (.inr x)
 |_=>ζ
theorem b8T{K:AE}{H:Hp}{p:PV}{k:u8}{v:V}(e:b7y p=ξ k)(r:L3 K H p v):v=kV k:=by
 cases p with
 |int i=>cases e;cases r;rfl
 |str x=>cases e;cases r;rfl
 |_=>cases e
def a8u:List DictEntry->Option (List (u8×AA))
 |[]=>ξ []
 |e::es=>match e.key with
  | .int i _=>(a8u es).map λr=>(.inl i,e.val)::r
  | .str x _=>(a8u es).map λr=>(.inr x,e.val)::r
  |_=>ζ
theorem a1M{P:AJ}{w:AI}:∀{es:List DictEntry} {kvs:List (u8×AA)},a8u es=ξ kvs->es.map (·.hash)=kvs.map (λkv=>b8P w kv.1)->Pairs (B1 P w) es kvs/\∀e∈es,∃k,(B1 P w).is k e.key=true/\e.hash=(B1 P w).hash k
 |[],_,h,_=>by cases h;exact⟨.nil,λ_ h=>nomatch h⟩
 |e::es,kvs,h,hh=>by
  simp only [a8u] at h;split at h
  ·rename_i i t ek;cases q:a8u es with
   |none=>rw [q] at h;cases h
   |some r=>
    rw [q] at h;cases h;simp only [AN,List.cons.injEq] at hh;obtain⟨h1,h2⟩:=a1M q hh.2;have hi:(B1 P w).is (.inl i) e.key=true:=by rw [ek];exact a8G P w i t
    exact⟨.cons hi rfl h1,λe' he=>(Ab.mp he).elim (λz=>by subst z;exact⟨_,hi,hh.1⟩) (h2 e')⟩
  ·rename_i x t ek;cases q:a8u es with
   |none=>rw [q] at h;cases h
   |some r=>
    rw [q] at h;cases h;simp only [AN,List.cons.injEq] at hh;obtain⟨h1,h2⟩:=a1M q hh.2;have hi:(B1 P w).is (.inr x) e.key=true:=by rw [ek];exact a8H P w x t
    exact⟨.cons hi rfl h1,λe' he=>(Ab.mp he).elim (λz=>by subst z;exact⟨_,hi,hh.1⟩) (h2 e')⟩
  ·cases h
def a2O{κ:Type}(K:AE)(n:Nat):List (κ×AA)->Option (List (κ×PV))
 |[]=>ξ []
 |(k,u)::r=>(a3E K n u).bind λp=>(a2O K n r).bind λt=>ξ ((k,p)::t)
def a8E{κ:Type}[DecidableEq κ](tbl:List (κ×PV))(k:κ):Option PV:=match tbl with
 |[]=>ζ
 |(k',p)::r=>if k'=k then ξ p else a8E r k
theorem b2q{K:AE}{n:Nat}{k:u8}:∀{kvs:List (u8×AA)} {tbl:List (u8×PV)} {p:PV},a2O K n kvs=ξ tbl->a8E tbl k=ξ p->∃u,valueAt kvs k=ξ u/\a3E K n u=ξ p
 |[],_,_,h,e=>by cases h;cases e
 |(k',u)::r,tbl,p,h,e=>by
  simp only [a2O] at h;obtain⟨q,e1,h⟩:=bind_some h;obtain⟨t,e2,h⟩:=bind_some h;cases h;simp only [a8E] at e;split at e
  ·rename_i c;cases e;exact⟨u,by simp [valueAt,List.find?_cons,c],e1⟩
  ·rename_i c;obtain⟨u',h1,h2⟩:=b2q e2 e;refine⟨u', ?_,h2⟩
   simpa [valueAt,List.find?_cons,c] using h1
structure Tab(P:AJ)(w:AI)(K:AE)(a:AB)(tbl:List (u8×PV)):Prop where
 ex:∃es ep kvs n,K.lookup a=ξ ⟨.type "dict",ζ,.dict es ep, #[]⟩/\a8u es.toList=ξ kvs/\es.toList.map (·.hash)=kvs.map (λkv=>b8P w kv.1)/\a2O K n kvs=ξ tbl/\(kvs.map (·.1)).Nodup
def c4U(tbl:List (u8×PV))(m:M):M:=λρ=>(m ρ).bind λr=>(b7y r.rd).bind λk=>(a8E tbl k).map .v
theorem c4v{x:Str}{a:AB}{tbl:List (u8×PV)}{i:AG}{m:M}{p pos:Pos}(T:Tab X.prog X.w X.K a tbl)(hg:Gl X x)(hm:X.mg x=ξ (.ref a))(hi:EE X i m)(hd:(x==("__debug__":Str))=false:=by decide)(hs:c2d i:=by intro _ _;rfl):
 EE X (.Subscript (.Name x p) i pos) (c4U tbl m):=by
 intro pins s σ H Q I ⟨F,ρ,r,he,hm',k⟩
 obtain⟨es,ep,kvs,n,l1,l2,l3,l4,l5⟩:=T.ex
 obtain⟨ri,e1,hm'⟩:=bind_some hm'
 obtain⟨ky,e2,hm'⟩:=bind_some hm'
 cases e3:a8E tbl ky with
 |none=>rw [e3] at hm';cases hm'
 |some q=>
  rw [e3] at hm';cases hm'
  obtain⟨u,h1,h2⟩:=b2q l4 e3
  obtain⟨vv,r1,r2⟩:=(b4t X.K n).1 u q h2
  refine b7V PySem.F.slot_dict_getitem.lookup hs (a7g I hg hm ?_ hd)
  refine M8 (hi pins s σ H (λy H2=>∃F2,Ext F H F2 H2/\y=kV ky) I ⟨F,ρ,ri,he,e1,λv F1 H1 o1=>⟨F1,o1.x,b8T e2 (o1.rep.rd o1.x.fh)⟩⟩) λiv s2 ⟨y,H2,I2,ry,F2,x2,ey⟩=> ?_
  subst ey
  have dd:s2.heap.DictOf (B1 X.prog X.w) a kvs:=⟨_,es,ep,I2.kIn a _ l1,⟨rfl,rfl,rfl⟩,rfl,λe he=>(a1M l2 l3).2 e (by simpa using he),(a1M l2 l3).1,l5⟩
  exact⟨dd.typeIs,wpAny_getItem_of (a94 ry) dd.mapOf h1 ⟨vv,H2,I2.tok _,r1,k vv F2 H2 (B2.val x2 (r2 F2))⟩⟩
def a96:List PV->Option (List u8)
 |[]=>ξ []
 |p::ps=>(b7y p).bind λk=>(a96 ps).bind λks=>ξ (k::ks)
abbrev MT:=c5->Option Bool
def tMT(K:AE)(c:MT):TT:=λσ H Q=>∃F ρ b,J4 K F H σ ρ/\c ρ=ξ b/\∀F' H',Ext F H F' H'->Q b H'
abbrev ET(X:Cx)(e:AG)(c:MT):Prop:=PT X e (tMT X.K c)
abbrev EW(X:Cx)(e:AG)(c:MT):Prop:=PW X e (tMT X.K c)
def b6U:d7->Option Bool
 | .v (.bool b)=>ξ b
 |_=>ζ
def tru(r:d7):Option Bool:=match r.rd with
 | .none=>ξ false
 | .bool b=>ξ b
 | .int i=>ξ (i !=0)
 | .str z=>if z.length<=AM then ξ ((z.length:Int) !=0) else ζ
 | .list ps=>ξ (!ps.isEmpty)
 | .tuple ps=>ξ (!ps.isEmpty)
 | .dict _=>ζ
def mtV(m:M):MT:=λρ=>(m ρ).bind tru
def u6(m:M):MT:=λρ=>(m ρ).bind b6U
theorem n8.empty{K:AE}{H:Hp}{ps:List PV}{vs:List V}(r:n8 K H ps vs):vs.isEmpty=ps.isEmpty:=by
 cases ps with
 |nil=>cases r;rfl
 |cons p ps=>obtain⟨_,_,e,_⟩:=r;subst e;rfl
theorem c3K{H:Hp}{r:d7}{v:V}{b:Bool}(h:L3 X.K H r.rd v)(e:tru r=ξ b):c4i X.K v H b:=by
 unfold tru at e;cases hp:r.rd with
 |none=>rw [hp] at h e;cases h;cases e;exact rfl
 |bool k=>rw [hp] at h e;cases h;cases e;exact rfl
 |int i=>rw [hp] at h e;cases h;cases e;exact rfl
 |str z=>
  rw [hp] at h e;cases h;dsimp only at e;split at e
  ·rename_i c;cases e;exact⟨c,rfl⟩
  ·cases e
 |list ps=>rw [hp] at h e;obtain⟨a,xs,rfl,hq,rl⟩:=h;cases e;exact .inl ⟨xs,hq,by rw [rl.empty]⟩
 |tuple ps=>rw [hp] at h e;obtain⟨a,xs,rfl,hq,rl⟩:=h;cases e;exact .inr (.inl ⟨xs,hq.sq,by rw [rl.empty]⟩)
 |dict _=>rw [hp] at e;cases e
theorem a6c{e:AG}{m:M}(h:EE X e m)(he:∀whole,isTrue e X.env whole=(do let v<-whole;standAt e.pos;holding [v] (truthy v)):=by intro _;rfl):ET X e (mtV m):=
 a79 (c1y h he) λσ H Q h0=>B7 h0 λF ρ b h1 h2 k=>by
  obtain⟨r,e1,e2⟩:=bind_some h2;exact⟨F,ρ,r,h1,e1,λv F1 H1 o=>⟨b,c3K (o.rep.rd o.x.fh) e2,k F1 H1 o.x⟩⟩
theorem a7w{K:AE}{F H:Hp}{r:d7}{v:V}{b:Bool}(h:X4 K F H v r)(e:b6U r=ξ b):v= .bl b:=by
 unfold b6U at e;split at e
 ·cases e;exact h
 ·cases e
theorem c4x{a b:AG}{ma mb:M}{pos:Pos}{op:CmpOp}{g:d7->d7->Option d7}(ho:OpM X (compareOp op) g)(ha:EE X a ma)(hb:EE X b mb)(hm:behindInMarks op b=false):ET X (.Compare a [op] [b] pos) (u6 (m2 g ma mb)):=
 a79 (c3l ho ha hb hm) λσ H Q h0=>B7 h0 λF ρ k h1 h2 q=>by
  obtain⟨r,e1,e2⟩:=bind_some h2;exact b4g ⟨F,ρ,r,h1,e1,λv F1 H1 o=>⟨k,a7w o.rep e2,q F1 H1 o.x⟩⟩
def b2t(c:MT):MT:=λρ=>(c ρ).map not
theorem c0e{a:AG}{c:MT}{pos:Pos}(ha:ET X a c):ET X (.UnaryOp .Not a pos) (b2t c):=
 a79 (c5m ha) λσ H Q h0=>B7 h0 λF ρ k h1 h2 q=>by
  unfold b2t at h2;cases e:c ρ with
  |none=>rw [e] at h2;cases h2
  |some b=>rw [e] at h2;cases h2;exact⟨F,ρ,b,h1,e,q⟩
def R1(c d:MT):MT:=λρ=>(c ρ).bind λb=>if b=true then d ρ else ξ false
def Z1(c d:MT):MT:=λρ=>(c ρ).bind λb=>if b=true then ξ true else d ρ
theorem a49{a:AG}{c:MT}{pos:Pos}(ha:ET X a c):EW X (.BoolOp .And [a] pos) c:=c3m ha
theorem Y2{a:AG}{c:MT}{pos:Pos}(ha:ET X a c):EW X (.BoolOp .Or [a] pos) c:=c5p ha
theorem a7T{a b:AG}{rest:List AG}{c d:MT}{pos:Pos}(ha:ET X a c)(hb:EW X (.BoolOp .And (b::rest) pos) d):EW X (.BoolOp .And (a::b::rest) pos) (R1 c d):=
 c1A (c5o ha hb) λσ H Q h0=>B7 h0 λF ρ k h1 h2 q=>by
  obtain⟨b,e1,e2⟩:=bind_some h2;refine⟨F,ρ,b,h1,e1,λF1 H1 x=> ?_⟩;cases b with
  |true=>exact b6v ⟨F1,ρ,k,h1.ext x,e2,λF2 H2 y=>q F2 H2 (x.trans y)⟩
  |false=>cases e2;exact b6u (q F1 H1 x)
theorem a2x{a b:AG}{rest:List AG}{c d:MT}{pos:Pos}(ha:ET X a c)(hb:EW X (.BoolOp .Or (b::rest) pos) d):EW X (.BoolOp .Or (a::b::rest) pos) (Z1 c d):=
 c1A (c6c ha hb) λσ H Q h0=>B7 h0 λF ρ k h1 h2 q=>by
  obtain⟨b,e1,e2⟩:=bind_some h2;refine⟨F,ρ,b,h1,e1,λF1 H1 x=> ?_⟩;cases b with
  |false=>exact b6u ⟨F1,ρ,k,h1.ext x,e2,λF2 H2 y=>q F2 H2 (x.trans y)⟩
  |true=>cases e2;exact b6v (q F1 H1 x)
def b6C(m n:M):M:=λρ=>(m ρ).bind λr=>(b6U r).bind λb=>if b=true then n ρ else ξ (.v (.bool false))
def c0Y(m:M):M:=λρ=>(m ρ).bind λr=>(b6U r).bind λb=>ξ (.v (.bool (!b)))
theorem c0a{op:BoolOp}{a:AG}{m:M}{pos:Pos}(h:EE X a m):EE X (.BoolOp op [a] pos) m:=c5h h
theorem b96{a b:AG}{rest:List AG}{m n:M}{pos:Pos}(ha:EE X a m)(hb:EE X (.BoolOp .And (b::rest) pos) n):EE X (.BoolOp .And (a::b::rest) pos) (b6C m n):=
 C6 (c5b ha hb) λσ H Q h0=>B7 h0 λF ρ r h1 h2 q=>by
  obtain⟨r1,e1,h2⟩:=bind_some h2;obtain⟨b,e2,h2⟩:=bind_some h2;refine⟨F,ρ,r1,h1,e1,λv F1 H1 o=>⟨b,a7w o.rep e2, ?_⟩⟩;cases b with
  |true=>exact b6v ⟨F1,ρ,r,h1.ext o.x,h2,λw F2 H2 y=>q w F2 H2 (B2.trans o.x y)⟩
  |false=>cases h2;exact b6u (q _ F1 H1 (B2.val o.x rfl))
theorem c4u{a:AG}{m:M}{pos:Pos}(ha:EE X a m):EE X (.UnaryOp .Not a pos) (c0Y m):=
 C6 (c5g ha) λσ H Q h0=>B7 h0 λF ρ r h1 h2 q=>by
  obtain⟨r1,e1,h2⟩:=bind_some h2;obtain⟨b,e2,h2⟩:=bind_some h2;cases h2;exact⟨F,ρ,r1,h1,e1,λv F1 H1 o=>⟨b,a7w o.rep e2,q _ F1 H1 (B2.val o.x rfl)⟩⟩
def mIf(c:MT)(m n:M):M:=λρ=>(c ρ).bind λb=>if b=true then m ρ else n ρ
theorem b99{c a b:AG}{mc:MT}{m n:M}{pos:Pos}(hc:ET X c mc)(ha:EE X a m)(hb:EE X b n):EE X (.IfExp c a b pos) (mIf mc m n):=
 C6 (c1m hc ha hb) λσ H Q h0=>B7 h0 λF ρ r h1 h2 q=>by
  obtain⟨b,e1,h2⟩:=bind_some h2;refine⟨F,ρ,b,h1,e1,λF1 H1 x=> ?_⟩;cases b with
  |true=>exact b6v ⟨F1,ρ,r,h1.ext x,h2,λw F2 H2 y=>q w F2 H2 (B2.trans x y)⟩
  |false=>exact b6u ⟨F1,ρ,r,h1.ext x,h2,λw F2 H2 y=>q w F2 H2 (B2.trans x y)⟩
end
inductive Fl where
 |nx (ρ:c5)|rt (r:d7)|bk (ρ:c5)|ct (ρ:c5)
abbrev MS:=c5->Option Fl
structure SOk(K:AE)(F0 H0 F H:Hp)(σ:L2.St)(ρ:c5):Prop where
 x:Ext F0 H0 F H
 e:J4 K F H σ ρ
 nw:∀(i:Nat) (c:a06) (a:AB),ρ[i]?=ξ (ξ (.ow c))->σ[i]?=ξ (ξ (.ref a))->H0 a=ζ
def Fin(K:AE)(F0 H0 F:Hp)(D:a3J):Fl->Prop
 | .nx ρ=>∀σ' F' H',u4 F F'->SOk K F0 H0 F' H' σ' ρ->D.nx σ' H'
 | .rt r=>∀v F' H',B2 K F0 H0 F' H' v r->D.rt v H'
 | .bk ρ=>∀σ' F' H',u4 F F'->SOk K F0 H0 F' H' σ' ρ->D.bk σ' H'
 | .ct ρ=>∀σ' F' H',u4 F F'->SOk K F0 H0 F' H' σ' ρ->D.ct σ' H'
theorem Fin.later{K:AE}{F0 H0 F F1:Hp}{D:a3J}(s:u4 F F1):∀{fl:Fl},Fin K F0 H0 F D fl->Fin K F0 H0 F1 D fl
 | .nx _,h=>λσ' F' H' s' so=>h σ' F' H' (s.trans s') so
 | .rt _,h=>h
 | .bk _,h=>λσ' F' H' s' so=>h σ' F' H' (s.trans s') so
 | .ct _,h=>λσ' F' H' s' so=>h σ' F' H' (s.trans s') so
def tMS(K:AE)(m:MS):TS:=λD σ H=>∃F0 H0 F ρ fl,SOk K F0 H0 F H σ ρ/\m ρ=ξ fl/\Fin K F0 H0 F D fl
theorem R6{K:AE}{m:MS}{D:a3J}{σ:L2.St}{H:Hp}{C:Prop}(h:tMS K m D σ H)(k:∀F0 H0 F ρ fl,SOk K F0 H0 F H σ ρ->m ρ=ξ fl->Fin K F0 H0 F D fl->C):C:=
 h.elim λa h=>h.elim λb h=>B7 h (k a b)
abbrev ES(X:Cx)(st:Stmt)(m:MS):Prop:=PS X st (tMS X.K m)
abbrev ESs(X:Cx)(st:List Stmt)(m:MS):Prop:=PSs X st (tMS X.K m)
theorem SOk.ext{K:AE}{F0 H0 F H F' H':Hp}{σ:L2.St}{ρ:c5}(s:SOk K F0 H0 F H σ ρ)(x:Ext F H F' H'):SOk K F0 H0 F' H' σ ρ:=⟨s.x.trans x,s.e.ext x,s.nw⟩
def d7.nb:d7->Bool
 | .bo _=>false
 |_=>true
theorem SOk.set{K:AE}{F0 H0 F H F' H':Hp}{σ:L2.St}{ρ:c5}{v:V}{r:d7}(s:SOk K F0 H0 F H σ ρ)(o:B2 K F H F' H' v r)(hb:r.nb=true)(i:Nat):SOk K F0 H0 F' H' (σ.set i (ξ v)) (ρ.set i (ξ r)):=by
 have s1:=s.ext o.x;have le:=s.e.len;refine⟨s1.x,⟨s1.e.fh,by simp [le],λj q e=> ?_,λj ps e=> ?_,λj k ps qs a hjk e1 e2 e3 e4=> ?_⟩,λj ps a e1 e2=> ?_⟩
 ·rw [List.getElem?_set] at e ⊢
  by_cases hij:i=j
  ·subst hij;rw [if_pos rfl] at e ⊢;rw [le];split at e
   ·rename_i c;cases e;rw [if_pos c];exact⟨v,rfl,o.rep⟩
   ·cases e
  ·rw [if_neg hij] at e ⊢;exact s1.e.at_ j q e
 ·rw [List.getElem?_set] at e
  by_cases hij:i=j
  ·subst hij;rw [if_pos rfl] at e;split at e
   ·cases e;cases hb
   ·cases e
  ·rw [if_neg hij] at e;exact s1.e.nb j ps e
 ·rw [List.getElem?_set] at e1 e2 e3 e4
  by_cases hij:i=j
  ·subst hij;rw [if_pos rfl] at e1 e3;rw [if_neg hjk] at e2 e4;split at e1
   ·cases e1;split at e3
    ·cases e3;have fr:=o.fr ps a rfl rfl;obtain⟨w,h1,rr⟩:=s.e.at_ k _ e2;obtain⟨a',xs,h2,_,h3⟩:=a1C.at_ rr;rw [e4] at h1;cases h1;cases h2;rw [fr] at h3;cases h3
    ·cases e3
   ·cases e1
  ·rw [if_neg hij] at e1 e3
   by_cases hik:i=k
   ·subst hik;rw [if_pos rfl] at e2 e4;split at e2
    ·cases e2;split at e4
     ·cases e4;have fr:=o.fr qs a rfl rfl;obtain⟨w,h1,rr⟩:=s.e.at_ j _ e1;obtain⟨a',xs,h2,_,h3⟩:=a1C.at_ rr;rw [e3] at h1;cases h1;cases h2;rw [fr] at h3;cases h3
     ·cases e4
    ·cases e2
   ·rw [if_neg hik] at e2 e4;exact s1.e.ap j k ps qs a hjk e1 e2 e3 e4
 ·rw [List.getElem?_set] at e1 e2
  by_cases hij:i=j
  ·subst hij;rw [if_pos rfl] at e1 e2;split at e1
   ·cases e1;split at e2
    ·cases e2;exact s.x.h.free (o.fr ps a rfl rfl)
    ·cases e2
   ·cases e1
  ·rw [if_neg hij] at e1 e2;exact s.nw j ps a e1 e2
section
variable {X:Cx}
def l9:MS:=λρ=>ξ (.nx ρ)
def j0(m n:MS):MS:=λρ=>(m ρ).bind λfl=>match fl with
 | .nx ρ'=>n ρ'
 |f=>ξ f
theorem j8:ESs X [] l9:=b7Q a0Z λD σ H h0=>R6 h0 λF0 H0 F ρ fl so e fin=>by
 cases e;exact fin σ F H (PU.u4.refl F) so
theorem b9{st:Stmt}{rest:List Stmt}{m n:MS}(h1:ES X st m)(h2:ESs X rest n):ESs X (st::rest) (j0 m n):=
 b7Q (G8 h1 h2) λD σ H h0=>R6 h0 λF0 H0 F ρ fl so e fin=>by
  obtain⟨f1,e1,e⟩:=bind_some e;cases f1 with
  |nx ρ'=>exact⟨F0,H0,F,ρ,.nx ρ',so,e1,λσ' F' H' s so'=>⟨F0,H0,F',ρ',fl,so',e,fin.later s⟩⟩
  |rt r=>cases e;exact⟨F0,H0,F,ρ,_,so,e1,fin⟩
  |bk r=>cases e;exact⟨F0,H0,F,ρ,_,so,e1,fin⟩
  |ct r=>cases e;exact⟨F0,H0,F,ρ,_,so,e1,fin⟩
theorem c8{st:Stmt}{m:MS}(h1:ES X st m):ESs X [st] m:=c3k h1
def p0(i:Nat)(m:M):MS:=λρ=>(m ρ).bind λr=>if r.nb=true then ξ (.nx (ρ.set i (ξ r))) else ζ
theorem k7{i:Nat}{x:Str}{e:AG}{m:M}{pos pos':Pos}(hN:X.N.Nodup)(he:EE X e m)(hi:X.N[i]?=ξ x:=by rfl)(hx:Loc X.env.scope x:=by exact Or.inl rfl)(hs:swapsWith e (ξ (.Name x pos')) pos.line X.env=pure false:=by rfl)(hf:X.fn x=true\/X.env.scope.names.lookup x=ξ .local:=by first|exact .inl rfl|exact .inr rfl|assumption):
 ES X (.Assign [.Name x pos'] e pos) (p0 i m):=
 W5 (c1x hN hi hx he hs hf) λD σ H h0=>R6 h0 λF0 H0 F ρ fl so e fin=>by
  obtain⟨r,e1,e⟩:=bind_some e;split at e
  ·rename_i c;cases e;exact⟨F,ρ,r,so.e,e1,λv F' H' o=>fin _ F' H' o.x.f (so.set o c i)⟩
  ·cases e
def l0(m:M):MS:=λρ=>(m ρ).bind λr=>if r.nb=true then ξ (.rt r) else ζ
theorem i0{e:AG}{m:M}{pos:Pos}(he:EE X e m):ES X (.Return (ξ e) pos) (l0 m):=
 W5 (c1w he) λD σ H h0=>R6 h0 λF0 H0 F ρ fl so e fin=>by
  obtain⟨r,e1,e⟩:=bind_some e;split at e
  ·rename_i c;cases e;exact⟨F,ρ,r,so.e,e1,λv F' H' o=>fin v F' H' (B2.trans so.x o)⟩
  ·cases e
def N7(i:Nat):MS:=λρ=>match ρ[i]? with
 |some (ξ r)=>ξ (.rt r)
 |_=>ζ
theorem J9(i:Nat){x:Str}{p pos:Pos}(h:PE X (.Name x p) (a3G i)):ES X (.Return (ξ (.Name x p)) pos) (N7 i):=
 W5 (c1w h) λD σ H h0=>R6 h0 λF0 H0 F ρ fl so e fin=>by
  unfold N7 at e;split at e
  ·rename_i r er;cases e;obtain⟨v,e1,rr⟩:=so.e.at_ i _ er;exact⟨v,e1,fin v F H ⟨so.x,rr,λps a z1 z2=>by subst z1;subst z2;exact so.nw i ps a er e1⟩⟩
  ·cases e
def b45(m:M):MS:=λρ=>(m ρ).bind λ_=>ξ (.nx ρ)
theorem a6Y{e:AG}{m:M}{pos:Pos}(he:EE X e m)(hs:swapsWith e ζ pos.line X.env=pure false:=by rfl):ES X (.Expr e pos) (b45 m):=
 W5 (b7P he hs) λD σ H h0=>R6 h0 λF0 H0 F ρ fl so e fin=>by
  obtain⟨r,e1,e⟩:=bind_some e;cases e;exact⟨F,ρ,r,so.e,e1,λv F' H' o=>fin σ F' H' o.x.f (so.ext o.x)⟩
def o9(c:MT)(m n:MS):MS:=λρ=>(c ρ).bind λb=>if b=true then m ρ else n ρ
theorem m6{c:AG}{a b:List Stmt}{mc:MT}{m n:MS}{pos:Pos}(hc:ET X c mc)(ha:ESs X a m)(hb:ESs X b n):ES X (.If c a b pos) (o9 mc m n):=
 W5 (c6b hc ha hb) λD σ H h0=>R6 h0 λF0 H0 F ρ fl so e fin=>by
  obtain⟨b,e1,e⟩:=bind_some e;refine⟨F,ρ,b,so.e,e1,λF1 H1 x=> ?_⟩;cases b with
  |true=>exact b6v ⟨F0,H0,F1,ρ,fl,so.ext x,e,fin.later x.f⟩
  |false=>exact b6u ⟨F0,H0,F1,ρ,fl,so.ext x,e,fin.later x.f⟩
def setAll{α:Type}:List (Option α)->List Nat->List α->List (Option α)
 |σ,i::is,x::xs=>setAll (σ.set i (ξ x)) is xs
 |σ,_,_=>σ
def b3p:List Nat->TGs
 |[]=>c5V
 |i::is=>c3X (b4V i) (b3p is)
theorem a70:∀{is:List Nat} {xs:List V} {σ:L2.St} {H:Hp} {Q:L2.St->Hp->Prop},xs.length=is.length->Q (setAll σ is xs) H->b3p is xs σ H Q
 |[],[],_,_,_,_,q=>⟨rfl,q⟩
 |[],_::_,_,_,_,h,_=>by cases h
 |_::_,[],_,_,_,h,_=>by cases h
 |i::is,x::xs,σ,H,Q,h,q=>⟨x,xs,rfl,a70 (is:=is) (xs:=xs) (by simpa using h) q⟩
theorem SOk.setAll{K:AE}{F0 H0 F H:Hp}:∀{is:List Nat} {xs:List V} {ps:List PV} {σ:L2.St} {ρ:c5},SOk K F0 H0 F H σ ρ->n8 K F ps xs->SOk K F0 H0 F H (PU.setAll σ is xs) (PU.setAll ρ is (ps.map .v))
 |[],xs,ps,σ,ρ,s,r=>by
  have e1:PU.setAll σ [] xs=σ:=by cases xs<;>rfl
  have e2:PU.setAll ρ [] (ps.map d7.v)=ρ:=by cases ps<;>rfl
  rw [e1,e2];exact s
 |i::is,xs,[],σ,ρ,s,r=>by cases r;exact s
 |i::is,xs,p::ps,σ,ρ,s,⟨v,t,e,rp,rl⟩=>by
  subst e;exact SOk.setAll (is:=is) (s.set (B2.here s.e.fh rp) rfl i) rl
def z9(body:MS)(tg:PV->c5->Option c5):List PV->c5->Option Fl
 |[],ρ=>ξ (.nx ρ)
 |p::ps,ρ=>(tg p ρ).bind λρ1=>(body ρ1).bind λfl=>match fl with
  | .nx ρ'=>z9 body tg ps ρ'
  | .ct ρ'=>z9 body tg ps ρ'
  | .bk ρ'=>ξ (.nx ρ')
  | .rt r=>ξ (.rt r)
def j6(i:Nat):PV->c5->Option c5:=λp ρ=>ξ (ρ.set i (ξ (.v p)))
def a7K(is:List Nat):PV->c5->Option c5:=λp ρ=>match p with
 | .tuple ps=>if ps.length=is.length then ξ (setAll ρ is (ps.map .v)) else ζ
 |_=>ζ
def b23(K:AE)(g:TG)(tg:PV->c5->Option c5):Prop:=
 ∀F0 H0 F H σ ρ ρ1 p x (Q:L2.St->Hp->Prop),SOk K F0 H0 F H σ ρ->L3 K F p x->tg p ρ=ξ ρ1->(∀σ',SOk K F0 H0 F H σ' ρ1->Q σ' H)->g x σ H Q
theorem B3{K:AE}(i:Nat):b23 K (b4V i) (j6 i):=λF0 H0 F H σ ρ ρ1 p x Q so r e k=>by
 cases e;exact k _ (so.set (B2.here so.e.fh r) rfl i)
theorem c1X{K:AE}(is:List Nat):b23 K (c4G K is.length (b3p is)) (a7K is):=λF0 H0 F H σ ρ ρ1 p x Q so r e k=>by
 unfold a7K at e;split at e
 ·split at e
  ·rename_i c;cases e;obtain⟨a,xs,rfl,hq,rl⟩:=r;have hl:xs.length=is.length:=by rw [rl.length];exact c
   exact⟨a,xs,rfl,w4 so.e.fh hq.sq,hl,a70 hl (k _ (so.setAll rl))⟩
  ·cases e
 ·cases e
theorem b2g{body:MS}{tg:PV->c5->Option c5}{ps:List PV}{p:PV}{ρ:c5}{fl:Fl}(h:z9 body tg (p::ps) ρ=ξ fl):∃ρ1 f1,tg p ρ=ξ ρ1/\body ρ1=ξ f1/\(match f1 with
 | .nx ρ'=>z9 body tg ps ρ'
 | .ct ρ'=>z9 body tg ps ρ'
 | .bk ρ'=>ξ (.nx ρ')
 | .rt r=>ξ (.rt r))=ξ fl:=by
 unfold z9 at h
 obtain⟨ρ1,e1,h⟩:=bind_some h
 obtain⟨f1,e2,h⟩:=bind_some h
 exact⟨ρ1,f1,e1,e2,h⟩
def PvL(K:AE)(F0 H0 F1:Hp)(body:MS)(tg:PV->c5->Option c5)(ps:List PV)(fl:Fl)(k:Nat)(σ:L2.St)(H:Hp):Prop:=
 ∃F ρ,u4 F1 F/\SOk K F0 H0 F H σ ρ/\z9 body tg (ps.drop k) ρ=ξ fl
theorem a5b{K:AE}{F0 H0 F1:Hp}{body:MS}{tg:PV->c5->Option c5}{g:TG}{ps:List PV}{fl:Fl}{D:a3J}{k:Nat}{p:PV}{x:V}{σ:L2.St}{H:Hp}(T:b23 K g tg)(fin:Fin K F0 H0 F1 D fl)(ep:ps[k]?=ξ p)
 (hp:PvL K F0 H0 F1 body tg ps fl k σ H) (rx:∀F,u4 F1 F->L3 K F p x):
 g x σ H λσ2 H2=>tMS K body {D with nx:=PvL K F0 H0 F1 body tg ps fl (k+1),ct:=PvL K F0 H0 F1 body tg ps fl (k+1),bk:=D.nx} σ2 H2:=by
 obtain⟨F,ρ,s,so,e⟩:=hp
 have hk:k<ps.length:=(Aj.mp ep).1
 have hd:ps.drop k=p::ps.drop (k+1):=by
  rw [List.drop_eq_getElem_cons hk]
  congr 1
  exact(Aj.mp ep).2
 rw [hd] at e
 obtain⟨ρ1,f1,e1,e2,e3⟩:=b2g e
 refine T F0 H0 F H σ ρ ρ1 p x _ so (rx F s) e1 λσ' so'=>⟨F0,H0,F,ρ1,f1,so',e2, ?_⟩
 cases f1 with
 |nx ρ'=>exact λσ2 F2 H2 s2 so2=>⟨F2,ρ',s.trans s2,so2,e3⟩
 |ct ρ'=>exact λσ2 F2 H2 s2 so2=>⟨F2,ρ',s.trans s2,so2,e3⟩
 |bk ρ'=>cases e3;exact λσ2 F2 H2 s2 so2=>fin σ2 F2 H2 (s.trans s2) so2
 |rt r=>cases e3;exact fin
theorem a4v{K:AE}{F0 H0 F1:Hp}{body:MS}{tg:PV->c5->Option c5}{ps:List PV}{fl:Fl}{D:a3J}{σ:L2.St}{H:Hp}(fin:Fin K F0 H0 F1 D fl)
 (hp:PvL K F0 H0 F1 body tg ps fl ps.length σ H):D.nx σ H:=by
 obtain⟨F,ρ,s,so,e⟩:=hp
 rw [List.drop_length] at e
 cases e
 exact fin σ F H s so
abbrev MI:=c5->Option (List PV)
def Y9(m:M):MI:=λρ=>((m ρ).bind d7.toVal).bind PyData.items?
def c6F(K:AE)(tl:TE):TI:=λσ H R=>tl σ H λx H1=>∃a,x= .ref a/\(((∃xs,SqL K H1 a xs)/\R (Itl K a) H1)\/((∃xs,SqT K H1 a xs)/\R (Itt K a) H1))
theorem c1p{tg l:AG}{tl:TE}(hl:PE X l tl):PI X tg l (c6F X.K tl):=by
 intro pins s σ H R I h;refine M8 (hl pins s σ H _ I h) λv s1 h0=>v9 h0 λx H1 I1 r1 q1=> ?_;obtain⟨a,e,q⟩:=q1;subst e;cases r1;rcases q with⟨⟨xs,hq⟩,q⟩|⟨⟨xs,hq⟩,q⟩
 ·obtain⟨its,rv,p,hz⟩:=I1.list hq;refine wpAny_pyIter_list p.isList ?_;refine⟨s1.heap.objs.size,[s1.heap.objs.size],_,_,H1,rfl,I1.kept (t':=s1.toks) λb o e=>AV _ e,b9y a _,⟨_,Ae _ rfl,rfl,rfl⟩,λb hb=> ?_,q⟩;have e:b=s1.heap.objs.size:=by simpa using hb
  subst e;exact I1.fpOk (AS _) (I1.hok.fresh (AS _))
 ·obtain⟨its,rv,p,hz⟩:=I1.tuple hq;refine wpAny_pyIter_tuple (show s1.heap.IsTuple a its.toArray from p) ?_;refine⟨s1.heap.objs.size,[s1.heap.objs.size],_,_,H1,rfl,I1.kept (t':=s1.toks) λb o e=>AV _ e,b63 a _,⟨_,Ae _ rfl,rfl,rfl⟩,λb hb=> ?_,q⟩;have e:b=s1.heap.objs.size:=by simpa using hb
  subst e;exact I1.fpOk (AS _) (I1.hok.fresh (AS _))
def S4(it:MI)(tg:PV->c5->Option c5)(body:MS):MS:=λρ=>(it ρ).bind λps=>z9 body tg ps ρ
theorem a36{tg iter:AG}{body:List Stmt}{m:M}{g:TG}{t:PV->c5->Option c5}{b:MS}{pos:Pos}(hp:PassesOwn (model X.prog X.w) X.A X.env X.xe)(hc:X.calm=true)(hi:EE X iter m)(hg:PG X tg g)(T:b23 X.K g t)(hb:ESs X body b)
 (hs:∀x,foldedSetIterable iter X.env x=pure x:=by intro _;rfl):ES X (.For tg iter body [] pos) (S4 (Y9 m) t b):=
 W5 (b34 hp hc (c1p hi) hg hb hs) λD σ H h0=>R6 h0 λF0 H0 F ρ fl so e fin=>by
  obtain⟨ps,e1,e⟩:=bind_some e;obtain⟨q,e1,e2⟩:=bind_some e1;obtain⟨r,e1,e3⟩:=bind_some e1;refine⟨F,ρ,r,so.e,e1,λv F' H' o=> ?_⟩;obtain⟨F1,o1⟩:=o.toVal e3;have fin1:=fin.later o1.x.f;have so1:=so.ext o1.x;obtain⟨a,xs,rfl,hq,rl⟩:=a04 (F:=F1) (H:=F1) (PU.u4.refl F1) (show X4 X.K F1 F1 v (.v q) from o1.rep) e2;have hlen:=rl.length;have get:∀k x,xs[k]?=ξ x->∃p,ps[k]?=ξ p/\∀F,u4 F1 F->L3 X.K F p x:=λk x ex=>by
   obtain⟨p,ep,rp⟩:=rl.getV ex;exact⟨p,ep,λF s=>L3.mono s _ rp⟩
  rcases hq with hq|hq
  ·refine⟨a,rfl,.inl ⟨⟨xs,L1 o1.x.fh hq⟩,c0l (K:=X.K) (a:=a) (xs:=xs) (PvL X.K F0 H0 F1 b t ps fl) ⟨F1,ρ,PU.u4.refl F1,so1,e⟩ (λk σ H _ ⟨F,_,s,so2,_⟩=>L1 (s.trans so2.e.fh) hq) (λk x σ H ex hp=> ?_) (λσ H hp=> ?_)⟩⟩
   ·obtain⟨p,ep,rp⟩:=get k x ex;exact a5b T fin1 ep hp rp
   ·rw [hlen] at hp;exact a4v fin1 hp
  ·refine⟨a,rfl,.inr ⟨⟨xs,w4 o1.x.fh hq⟩,c2x (K:=X.K) (a:=a) (xs:=xs) (PvL X.K F0 H0 F1 b t ps fl) ⟨F1,ρ,PU.u4.refl F1,so1,e⟩ (λk σ H _ ⟨F,_,s,so2,_⟩=>w4 (s.trans so2.e.fh) hq) (λk x σ H ex hp=> ?_) (λσ H hp=> ?_)⟩⟩
   ·obtain⟨p,ep,rp⟩:=get k x ex;exact a5b T fin1 ep hp rp
   ·rw [hlen] at hp;exact a4v fin1 hp
def a1E(lo hi:Int):List PV:=(AT (hi - lo).toNat).map λk=> .int (lo+(k:Nat))
theorem c0H:∃f:Int->Bool,∀j,f j=decide (-(2 ^ 62)<=j/\j<2 ^ 62):=⟨_,λ_=>rfl⟩
def inR:Int->Bool:=c0H.choose
theorem c4H(j:Int):inR j=decide (-(2 ^ 62)<=j/\j<2 ^ 62):=c0H.choose_spec j
theorem a29{j:Int}:inR j=true↔(-(2 ^ 62)<=j/\j<2 ^ 62):=by rw [c4H,decide_eq_true_iff]
def M1(m:MA):MI:=λρ=>(m ρ).bind λps=>match ps with
 |[.int j]=>if inR j=true then ξ (a1E 0 j) else ζ
 |_=>ζ
def b7D(m:MA):MI:=λρ=>(m ρ).bind λps=>match ps with
 |[.int i,.int j]=>if inR i=true/\inR j=true then ξ (a1E i j) else ζ
 |_=>ζ
theorem a7x{lo hi:Int}{k:Nat}(h:k<(hi - lo).toNat):(a1E lo hi)[k]?=ξ (.int (lo+k)):=by
 simp [a1E,h]
theorem a4F(lo hi:Int):(a1E lo hi).length=(hi - lo).toNat:=by simp [a1E]
theorem a1m{tg a:AG}{body:List Stmt}{m:MA}{g:TG}{t:PV->c5->Option c5}{b:MS}{p rp pos:Pos}(hp:PassesOwn (model X.prog X.w) X.A X.env X.xe)(hc:X.calm=true)(hgl:Gl X "range")(hm:X.mg "range"=ζ)(ha:EA X [a] m)(hg:PG X tg g)(T:b23 X.K g t)(hb:ESs X body b)
 (hst:AL [a] X.env=[(false,eval a X.env)]:=by rfl) (hs:∀x,foldedSetIterable (.Call (.Name "range" p) [a] [] rp) X.env x=pure x:=by intro _;rfl):ES X (.For tg (.Call (.Name "range" p) [a] [] rp) body [] pos) (S4 (M1 m) t b):=
 W5 (b34 hp hc (b2x hgl hm ha hst) hg hb hs) λD σ H h0=>R6 h0 λF0 H0 F ρ fl so e fin=>by
  obtain⟨ps,e1,e⟩:=bind_some e;obtain⟨qs,e1,e2⟩:=bind_some e1;refine⟨F,ρ,qs,so.e,e1,λvs F1 H1 x rl=> ?_⟩;split at e2
  ·rename_i j;split at e2
   ·rename_i c;have c:=a29.mp c;cases e2;obtain⟨v,r,rfl,rv,rr⟩:=rl;cases rv;cases rr;have fin1:=fin.later x.f;have hz:(j - 0).toNat=j.toNat:=by lia
    refine⟨j,rfl,c.1,c.2,b2h (lo:=0) (n:=j.toNat) (PvL X.K F0 H0 F1 b t (a1E 0 j) fl) ⟨F1,ρ,PU.u4.refl F1,so.ext x,e⟩ (λk σ H hk hp=> ?_) (λσ H hp=> ?_)⟩
    ·exact a5b T fin1 (a7x (by lia)) hp λ_ _=>rfl
    ·have:j.toNat=(a1E 0 j).length:=by rw [a4F,hz]
     rw [this] at hp;exact a4v fin1 hp
   ·cases e2
  ·cases e2
theorem c0d{tg a a2:AG}{body:List Stmt}{m:MA}{g:TG}{t:PV->c5->Option c5}{b:MS}{p rp pos:Pos}(hp:PassesOwn (model X.prog X.w) X.A X.env X.xe)(hc:X.calm=true)(hgl:Gl X "range")(hm:X.mg "range"=ζ)(ha:EA X [a,a2] m)(hg:PG X tg g)(T:b23 X.K g t)(hb:ESs X body b)
 (hst:AL [a,a2] X.env=[(false,eval a X.env),(false,eval a2 X.env)]:=by rfl) (hst2:AL [a2] X.env=[(false,eval a2 X.env)]:=by rfl) (hs:∀x,foldedSetIterable (.Call (.Name "range" p) [a,a2] [] rp) X.env x=pure x:=by intro _;rfl):
 ES X (.For tg (.Call (.Name "range" p) [a,a2] [] rp) body [] pos) (S4 (b7D m) t b):=
 W5 (b34 hp hc (b9f hgl hm ha hst hst2) hg hb hs) λD σ H h0=>R6 h0 λF0 H0 F ρ fl so e fin=>by
  obtain⟨ps,e1,e⟩:=bind_some e;obtain⟨qs,e1,e2⟩:=bind_some e1;refine⟨F,ρ,qs,so.e,e1,λvs F1 H1 x rl=> ?_⟩;split at e2
  ·rename_i i j;split at e2
   ·rename_i c;have c:(-(2 ^ 62)<=i/\i<2 ^ 62)/\ -(2 ^ 62)<=j/\j<2 ^ 62:=⟨a29.mp c.1,a29.mp c.2⟩;cases e2;obtain⟨v,r,rfl,rv,v2,r2,rfl,rv2,rr⟩:=rl;cases rv;cases rv2;cases rr;have fin1:=fin.later x.f;refine⟨i,j,rfl,⟨c.1.1,c.1.2,c.2.1,c.2.2⟩,b2h (lo:=i) (n:=(j - i).toNat) (PvL X.K F0 H0 F1 b t (a1E i j) fl) ⟨F1,ρ,PU.u4.refl F1,so.ext x,e⟩ (λk σ H hk hp=> ?_) (λσ H hp=> ?_)⟩
    ·exact a5b T fin1 (a7x hk) hp λ_ _=>rfl
    ·rw [<-a4F i j] at hp;exact a4v fin1 hp
   ·cases e2
  ·cases e2
def m4(n:Nat)(body:MS)(ps:List PV):Option d7:=(body (ps.map (λp=>ξ (d7.v p))++AQ n ζ)).bind λfl=>match fl with
 | .rt r=>ξ r
 | .nx _=>ξ (.v .none)
 |_=>ζ
end
theorem c1U{K:AE}{F H:Hp}{ps:List PV}{vs:List V}(n:Nat)(s:u4 F H)(r:n8 K F ps vs):SOk K F H F H (vs.map ξ++AQ n ζ) (ps.map (λp=>ξ (d7.v p))++AQ n ζ):=by
 have hl:=r.length;have key:∀(i:Nat) (q:d7),(ps.map (λp=>ξ (d7.v p))++AQ n ζ)[i]?=ξ (ξ q)->∃p v,q= .v p/\(vs.map ξ++AQ n ζ)[i]?=ξ (ξ v)/\L3 K F p v:=by
  intro i q e
  by_cases h:i<ps.length
  ·rw [Aw (by simpa using h),Ao] at e
   rw [Aw (by rw [AW,hl];exact h),Ao]
   cases q':ps[i]? with
   |none=>rw [q'] at e;cases e
   |some p=>
    rw [q'] at e;cases e;obtain⟨v,h1,h2⟩:=r.get q';exact⟨p,v,rfl,by rw [h1];rfl,h2⟩
  ·rw [List.getElem?_append_right (by simpa using h),List.getElem?_replicate] at e
   split at e<;>cases e
 refine⟨Ext.refl s,⟨s,by simp [hl],λi q e=> ?_,λi qs e=> ?_,λi j qs _ a _ e=> ?_⟩,λi qs a e=> ?_⟩
 ·obtain⟨p,v,rfl,h1,h2⟩:=key i q e;exact⟨v,h1,h2⟩
 ·obtain⟨p,v,z,_⟩:=key i _ e;cases z
 ·obtain⟨p,v,z,_⟩:=key i _ e;cases z
 ·obtain⟨p,v,z,_⟩:=key i _ e;cases z
theorem c0i{P:AJ}{w:AI}{K:AE}{mg:Str->Option AA}{base:Heap}{x qual:Str}{st:Stmt}{f:AB}{fd:FuncData}{N ps:List Str}{k:Nat}{m:MS}(F:Fun K x qual st f fd)(S:i8 N ps (c9 st))
 (hb:∀(cdv:AA) (A:AK) (outer:List Env) (s:AD) (H:Hp) (E:XK),O1 k (A.deeper (envOfC qual (c9 st) s.heap.objs.size f cdv))->ESs (a9H CX0 P w K mg base N qual (c9 st) f cdv A outer s H E).nox (B8 st) m):
 U7 P w K mg base CX0 (k+1) f fd ps (spP K ps.length (m4 (N.length - ps.length) m)):=by
 refine F.ok S (λvs H Q E h=> ?_) (λcdv A outer s H vs Q E hr h=> ?_)
 ·obtain⟨_,qs,_,_,r,h2,_⟩:=h
  rw [r.length,h2]
 ·obtain⟨F1,qs,r,s1,rl,hl,e,k⟩:=h
  refine⟨_,hb cdv A outer s H E hr, ?_⟩
  unfold m4 at e
  obtain⟨fl,e1,e2⟩:=bind_some e
  have hv:vs.length=ps.length:=by rw [rl.length,hl]
  refine⟨F1,H,F1,_,fl, ?_,e1, ?_⟩
  ·have:=c1U (N.length - ps.length) s1 rl
   unfold L2.a4Y
   rw [hv]
   exact this
  ·cases fl with
   |rt q=>cases e2;exact λv F' H' o=>k v F' H' o
   |nx ρ=>cases e2;exact λσ' F' H' _ so=>k .non F' H' (B2.val so.x rfl)
   |bk ρ=>cases e2
   |ct ρ=>cases e2
section
variable {X:Cx}
def rC1(K:AE)(g:d7->Option d7):List V->Hp->VK->Prop:=λxs H Q=>∃F x rx rz,xs=[x]/\u4 F H/\X4 K F H x rx/\g rx=ξ rz/\∀v F' H',B2 K F H F' H' v rz->Q v H'
def rC2(K:AE)(g:d7->d7->Option d7):List V->Hp->VK->Prop:=λxs H Q=>∃F x y rx ry rz,xs=[x,y]/\u4 F H/\X4 K F H x rx/\X4 K F H y ry/\g rx ry=ξ rz/\∀v F' H',B2 K F H F' H' v rz->Q v H'
def m1(g:d7->Option d7)(m:M):M:=λρ=>(m ρ).bind g
theorem c1e{m:M}{g:d7->Option d7}{σ:L2.St}{H:Hp}{Q:VK}(h:tM X.K (m1 g m) σ H Q):tCB (rC1 X.K g) (b71 (tM X.K m) c3I) σ H Q:=by
 obtain⟨F,ρ,r,he,hm,k⟩:=h;obtain⟨rx,e1,hm⟩:=bind_some hm;exact⟨F,ρ,rx,he,e1,λv F1 H1 o1=>⟨F1,v,rx,r,rfl,o1.x.fh,o1.rep,hm,λz F2 H2 o2=>k z F2 H2 (B2.trans o1.x o2)⟩⟩
theorem c3L{m n:M}{g:d7->d7->Option d7}{σ:L2.St}{H:Hp}{Q:VK}(h:tM X.K (m2 g m n) σ H Q):tCB (rC2 X.K g) (b71 (tM X.K m) (b71 (tM X.K n) c3I)) σ H Q:=by
 obtain⟨F,ρ,r,he,hm,k⟩:=h;obtain⟨rx,e1,hm⟩:=bind_some hm;obtain⟨ry,e2,hm⟩:=bind_some hm;exact⟨F,ρ,rx,he,e1,λv F1 H1 o1=>⟨F1,ρ,ry,he.ext o1.x,e2,λu F2 H2 o2=>⟨F2,v,u,rx,ry,r,rfl,o2.x.fh,o1.rep.ext o2.x,o2.rep,hm,λz F3 H3 o3=>k z F3 H3 (B2.trans (o1.x.trans o2.x) o3)⟩⟩⟩
theorem C7{id:String}{x:Str}{p pos:Pos}{e:AG}{g:d7->Option d7}{m:M}(hc:T5 X (.builtin id) (rC1 X.K g))(hg:Gl X x)(hm:X.mg x=ζ)(hv:bootBuiltins x=ξ (.builtin id))(ha:EE X e m)(hn:x≠"__name__":=by decide)(hdb:(x==("__debug__":Str))=false:=by decide)
 (he:AL [e] X.env=(false,eval e X.env)::AL [] X.env:=by rfl) (hpl:(backTo pos (AL [] X.env)).any (·.1)=false:=by rfl):EE X (.Call (.Name x p) [e] [] pos) (m1 g m):=
 C6 (b0u hc hg hm hv (Q5 ha a2d he) hn hdb he hpl) λ_ _ _ h=>c1e h
theorem c5T{id:String}{x:Str}{p pos:Pos}{e e2:AG}{g:d7->d7->Option d7}{m n:M}(hc:T5 X (.builtin id) (rC2 X.K g))(hg:Gl X x)(hm:X.mg x=ζ)(hv:bootBuiltins x=ξ (.builtin id))(ha:EE X e m)(hb:EE X e2 n)(hn:x≠"__name__":=by decide)(hdb:(x==("__debug__":Str))=false:=by decide)
 (he:AL [e,e2] X.env=(false,eval e X.env)::AL [e2] X.env:=by rfl) (he2:AL [e2] X.env=(false,eval e2 X.env)::AL [] X.env:=by rfl) (hpl:(backTo pos (AL [e2] X.env)).any (·.1)=false:=by rfl):EE X (.Call (.Name x p) [e,e2] [] pos) (m2 g m n):=
 C6 (b0u hc hg hm hv (Q5 ha (Q5 hb a2d he2) he) hn hdb he hpl) λ_ _ _ h=>c3L h
theorem a1L{T:String}{x:Str}{p pos:Pos}{e:AG}{g:d7->Option d7}{m:M}(hc:T5 X (.type T) (rC1 X.K g))(hg:Gl X x)(hm:X.mg x=ζ)(hv:bootBuiltins x=ξ (.type T))(ha:EE X e m)(hn:x≠"__name__":=by decide)(hdb:(x==("__debug__":Str))=false:=by decide)
 (he:AL [e] X.env=(false,eval e X.env)::AL [] X.env:=by rfl) (hpl:(backTo pos (AL [] X.env)).any (·.1)=false:=by rfl):EE X (.Call (.Name x p) [e] [] pos) (m1 g m):=
 C6 (b9e hc hg hm hv (Q5 ha a2d he) hn hdb he hpl) λ_ _ _ h=>c1e h
def B4(x:d7):Option d7:=match x.rd with
 | .str z=>if z.length<=AM then ξ (.v (.int z.length)) else ζ
 |p=>match PyData.items? p with
  |some ps=>ξ (.v (.int ps.length))
  |none=>ζ
theorem B6:T5 X (.builtin "len") (rC1 X.K B4):=by
 ext f
 unfold B4 at h2;split at h2
 ·rename_i z ez;split at h2
  ·rename_i c;cases h2;have rr:=h1.rd s0;rw [ez] at rr;cases rr;exact b3d pins s σ H _ us Q I rv ⟨z,rfl,c,k _ F H (B2.here s0 rfl)⟩
  ·cases h2
 ·split at h2
  ·rename_i ps e;cases h2;obtain⟨a,xs,rfl,hq,r⟩:=a04 s0 h1 e;refine b3c pins s σ H _ us Q I rv ⟨a,xs,rfl,hq, ?_⟩;rw [r.length];exact k _ F H (B2.here s0 rfl)
  ·cases h2
theorem c4n(hc:X.calm=true):T5 X (.builtin "min") (rC2 X.K (gI λi j=> .int (if j<i then j else i))):=by
 intro pins s σ H xs us Q I rv h;obtain⟨F,x,y,rx,ry,rz,rfl,s0,h1,h2,h3,k⟩:=h;obtain⟨i,j,rfl,rfl,rfl⟩:=b7r h3;cases h1;cases h2;exact b8k hc pins s σ H _ us Q I rv ⟨i,j,rfl,k _ F H (B2.here s0 rfl)⟩
def T0(x:d7):Option d7:=match PyData.items? x.rd with
 |some ps=>ξ (.v (.tuple ps))
 |none=>ζ
theorem b8M{F H:Hp}{v:V}{r:d7}{ps:List PV}(s0:u4 F H)(h:X4 X.K F H v r)(e:PyData.items? r.rd=ξ ps):∃a xs,v= .ref a/\(SqL X.K H a xs\/(SqT X.K H a xs/\L3 X.K F (.tuple ps) v))/\n8 X.K F ps xs:=by
 cases r with
 |v p=>
  cases p with
  |list qs=>cases e;obtain⟨a,xs,rfl,hq,r⟩:=h;exact⟨a,xs,rfl,.inl (L1 s0 hq),r⟩
  |tuple qs=>cases e;obtain⟨a,xs,rfl,hq,r⟩:=h;exact⟨a,xs,rfl,.inr ⟨w4 s0 hq.sq,⟨a,xs,rfl,hq,r⟩⟩,r⟩
  |_=>cases e
 |ow c=>cases c<;>cases e;obtain⟨a,xs,rfl,_,hq,r⟩:=h;exact⟨a,xs,rfl,.inl (SqL.of hq),r⟩
 |bo c=>cases c<;>cases e;obtain⟨a,xs,rfl,_,hq,r⟩:=h;exact⟨a,xs,rfl,.inl (SqL.of hq),r⟩
theorem V0:T5 X (.type "tuple") (rC1 X.K T0):=by
 ext f
 unfold T0 at h2;split at h2
 ·rename_i ps e;cases h2;obtain⟨a,xs,rfl,hq,r⟩:=b8M s0 h1 e;refine b07 pins s σ H _ us Q I rv ⟨a,xs,rfl, ?_⟩;rcases hq with hq|⟨hq,rp⟩
  ·exact .inl ⟨hq,λl hl=>k _ _ _ (B2.tup s0 hl r)⟩
  ·exact .inr ⟨hq,k _ F H (B2.here s0 rp)⟩
 ·cases h2
def kindOf:PV->String
 | .none=>"NoneType"
 | .bool _=>"bool"
 | .int _=>"int"
 | .str _=>"str"
 | .list _=>"list"
 | .tuple _=>"tuple"
 | .dict _=>"dict"
def b3u(T:String)(p:PV):Bool:=kindOf p==T||(kindOf p=="bool" && T=="int")
def isFn:PV->Bool
 | .dict ((.str _,_)::_)=>true
 |_=>false
def a4a(T:String)(x:d7):Option d7:=bif isFn x.rd then ζ else ξ (.v (.bool (b3u T x.rd)))
def b9J(T:String):Prop:=T="int"\/T="bool"\/T="str"\/T="list"\/T="tuple"\/T="dict"
theorem b8U{K:AE}{T:String}(h:b9J T):∀p:PV,PySem.W.kitOne K (.type (kindOf p)) (.type T)=ξ (b3u T p):=by
 intro p;rcases h with rfl|rfl|rfl|rfl|rfl|rfl<;>cases p<;>kernel_rfl
theorem a59{T:String}{e:AG}{m:M}{p p2 pos:Pos}(kt:b9J T)(hg:Gl X "isinstance")(hm:X.mg "isinstance"=ζ)(ha:EE X e m)(hT:PE X (.Name (AC T) p2) (tC (.ty T)))
 (he:AL [e,.Name (AC T) p2] X.env=(false,eval e X.env)::AL [.Name (AC T) p2] X.env:=by rfl) (he2:AL [.Name (AC T) p2] X.env=(false,eval (.Name (AC T) p2) X.env)::AL [] X.env:=by rfl) (hpl:(backTo pos (AL [.Name (AC T) p2] X.env)).any (·.1)=false:=by rfl)
 (hv:bootBuiltins "isinstance"=ξ (.builtin "isinstance"):=by rfl):
 EE X (.Call (.Name "isinstance" p) [e,.Name (AC T) p2] [] pos) (m1 (a4a T) m):=by
 have hc:T5 X (.builtin "isinstance") (λxs H Q=>∃F x rx,xs=[x,.ty T]/\u4 F H/\X4 X.K F H x rx/\isFn rx.rd=false/\Q (.bl (b3u T rx.rd)) H):=by
  intro pins s σ H xs us Q I rv h;obtain⟨F,x,rx,rfl,s0,h1,nf,q⟩:=h;obtain⟨u,u2,rfl,ru,ru2⟩:∃u1 u2,us=[u1,u2]/\w6 x u1/\w6 (.ty T) u2:=by
   cases rv with
   |cons p q=>
    cases q with
    |cons p' q'=>
     cases q';exact⟨_,_,rfl,p,p'⟩
  cases ru2;have rr:=h1.rd s0;have kk:=b8U (K:=X.K) kt rx.rd;have fin:∀tk,EP X pins σ Q (.bool (b3u T rx.rd)) {s with toks:=tk}:=λtk=>⟨.bl _,H,I.tok tk,rfl,q⟩
  cases hp:rx.rd with
  |none=>rw [hp] at rr kk fin;cases rr;cases ru;exact PySem.W.kia_one PySem.W.kitx_none I.kIn True.intro kk (λz=>nomatch z) fin
  |bool b=>rw [hp] at rr kk fin;cases rr;cases ru;exact PySem.W.kia_one PySem.W.kitx_bool I.kIn True.intro kk (λz=>nomatch z) fin
  |int b=>rw [hp] at rr kk fin;cases rr;obtain⟨t,rfl⟩:=ru;exact PySem.W.kia_one PySem.W.kitx_int I.kIn True.intro kk (λz=>nomatch z) fin
  |str b=>rw [hp] at rr kk fin;cases rr;obtain⟨t,rfl⟩:=ru;exact PySem.W.kia_one PySem.W.kitx_str I.kIn True.intro kk (λz=>nomatch z) fin
  |list ps=>
   rw [hp] at rr kk fin;obtain⟨a,ys,rfl,hq,_⟩:=rr;cases ru;obtain⟨its,_,⟨o,n,e1,e2,_⟩,_⟩:=I.list hq;exact PySem.W.kia_one PySem.W.kitx_list I.kIn ⟨o,e1,e2⟩ kk (λz=>nomatch z) fin
  |tuple ps=>
   rw [hp] at rr kk fin;obtain⟨a,ys,rfl,hq,_⟩:=rr;cases ru;obtain⟨its,_,⟨o,e1,e2,_⟩,_⟩:=I.tuple hq.sq;exact PySem.W.kia_one PySem.W.kitx_tuple I.kIn ⟨o,e1,e2⟩ kk (λz=>nomatch z) fin
  |dict ps=>
   rw [hp] at rr kk fin nf;rcases rr with⟨a,_,rfl,hq,_⟩|⟨a,_,rfl,hq,_⟩|⟨x,_,rfl,_⟩|⟨x,m,fs,_,hf⟩
   ·cases ru;obtain⟨_,_,_,_,o,_,_,e1,e2,_⟩:=I.hok a _ hq;exact PySem.W.kia_one PySem.W.kitx_dict I.kIn ⟨o,e1,e2.1⟩ kk (λz=>nomatch z) fin
   ·cases ru;obtain⟨_,_,_,_,o,_,_,e1,e2,_⟩:=I.hok a _ hq;exact PySem.W.kia_one PySem.W.kitx_dict I.kIn ⟨o,e1,e2.1⟩ kk (λz=>nomatch z) fin
   ·cases nf
   ·cases ps with
    |nil=>cases hf
    |cons f ps=>obtain⟨k,p⟩:=f;obtain⟨_,_,_,_,z,_⟩:=hf;subst z;cases nf
 exact C6 (b0u hc hg hm hv (Q5 ha (Q5 hT a2d he2) he) (by decide) (by decide) he hpl) λσ H Q h0=>B7 h0 λF ρ r h1 h2 k=>by
  obtain⟨rx,e1,h2⟩:=bind_some h2;unfold a4a at h2;cases nf:isFn rx.rd with
  |true=>rw [nf] at h2;cases h2
  |false=>
   rw [nf] at h2;cases h2;exact⟨F,ρ,rx,h1,e1,λv F1 H1 o=>⟨F1,v,rx,rfl,o.x.fh,o.rep,nf,k _ F1 H1 (B2.val o.x rfl)⟩⟩
theorem SOk.putC{K:AE}{F0 H0 F H:Hp}{σ:L2.St}{ρ:c5}{i:Nat}{c d:a06}{a:AB}{o:HO}(s:SOk K F0 H0 F H σ ρ)(e:ρ[i]?=ξ (ξ (.ow c)))(ea:σ[i]?=ξ (ξ (.ref a)))(r:F a=ζ->a1C K F (B9 H a o) (.ref a) d):
 SOk K F0 H0 F (B9 H a o) σ (ρ.set i (ξ (.ow d))):=by
 obtain⟨v,h1,rr0⟩:=s.e.at_ i _ e
 obtain⟨a',xs,rfl,fa,ha⟩:=a1C.at_ rr0
 rw [ea] at h1;cases h1
 have na:H0 a=ζ:=s.nw i c a e ea
 have hi:i<ρ.length:=(Aj.mp e).1
 refine⟨⟨s.x.f,λb o z=>by rw [l8 (m5 z na)];exact s.x.h _ _ z,λb o z=>by rw [l8 (m5 z fa)];exact s.x.fh _ _ z,s.x.nw,s.x.nf⟩,⟨λb o z=>by rw [l8 (m5 z fa)];exact s.e.fh _ _ z,by simp [s.e.len],λj q ej=> ?_,λj z ej=> ?_,λj k z1 z2 c' hjk e1 e2 e3 e4=> ?_⟩,λj z c' e1 e2=> ?_⟩
 ·rw [List.getElem?_set] at ej
  by_cases hij:i=j
  ·subst hij
   rw [if_pos rfl,if_pos hi] at ej
   cases ej
   exact⟨.ref a,ea,r fa⟩
  ·rw [if_neg hij] at ej
   obtain⟨v,h1,rr⟩:=s.e.at_ j q ej
   refine⟨v,h1, ?_⟩
   cases q with
   |v p=>exact rr
   |bo z=>exact absurd ej (s.e.nb j z)
   |ow z=>
    have key:∀b,v= .ref b->b≠a:=λb hb hab=>by subst hab;subst hb;exact s.e.ap i j c z b hij e ej ea h1
    cases z with
    |lst z=>
     obtain⟨b,zs,rfl,fb,hb,rz⟩:=rr
     exact⟨b,zs,rfl,fb,by rw [l8 (key b rfl)];exact hb,rz⟩
    |dct z=>
     obtain⟨b,zs,rfl,fb,hb,rz⟩:=rr
     exact⟨b,zs,rfl,fb,by rw [l8 (key b rfl)];exact hb,rz⟩
    |txt z=>
     obtain⟨b,zs,rfl,fb,hb,rz⟩:=rr
     exact⟨b,zs,rfl,fb,by rw [l8 (key b rfl)];exact hb,rz⟩
 ·rw [List.getElem?_set] at ej
  by_cases hij:i=j
  ·subst hij;rw [if_pos rfl,if_pos hi] at ej;cases ej
  ·rw [if_neg hij] at ej;exact s.e.nb j z ej
 ·have own_at:∀(j:Nat) (z:a06),(ρ.set i (ξ (d7.ow d)))[j]?=ξ (ξ (d7.ow z))->∃z':a06,ρ[j]?=ξ (ξ (d7.ow z')):=λj z h=>by
   rw [List.getElem?_set] at h
   by_cases hij:i=j
   ·subst hij;exact⟨c,e⟩
   ·rw [if_neg hij] at h;exact⟨z,h⟩
  obtain⟨y1,h1⟩:=own_at j z1 e1;obtain⟨y2,h2⟩:=own_at k z2 e2;exact s.e.ap j k y1 y2 c' hjk h1 h2 e3 e4
 ·rw [List.getElem?_set] at e1
  by_cases hij:i=j
  ·subst hij;rw [ea] at e2;cases e2;exact na
  ·rw [if_neg hij] at e1;exact s.nw j z c' e1 e2
theorem SOk.put{K:AE}{F0 H0 F H:Hp}{σ:L2.St}{ρ:c5}{i:Nat}{ps qs:List PV}{a:AB}{ys:List V}(s:SOk K F0 H0 F H σ ρ)(e:ρ[i]?=ξ (ξ (.own ps)))(ea:σ[i]?=ξ (ξ (.ref a)))(r:n8 K F qs ys):
 SOk K F0 H0 F (B9 H a (.lst ys)) σ (ρ.set i (ξ (.own qs))):=s.putC e ea λfa=>⟨a,ys,rfl,fa,r9,r⟩
theorem SOk.putT{K:AE}{F0 H0 F H:Hp}{σ:L2.St}{ρ:c5}{i:Nat}{ps qs:List (List u8×PV)}{a:AB}{ys:List (u8×V)}(s:SOk K F0 H0 F H σ ρ)(e:ρ[i]?=ξ (ξ (.ow (.txt ps))))(ea:σ[i]?=ξ (ξ (.ref a)))(r:E9 K F qs (ys.map s1)):
 SOk K F0 H0 F (B9 H a (.dK ys)) σ (ρ.set i (ξ (.ow (.txt qs)))):=s.putC e ea λfa=>⟨a,ys,rfl,fa,r9,r⟩
def Q4(i:Nat)(m:M):MS:=λρ=>(m ρ).bind λr=>r.toVal.bind λp=>match ρ[i]? with
 |some (ξ (.ow (.lst ps)))=>if ps.length<AM then ξ (.nx (ρ.set i (ξ (.own (ps++[p]))))) else ζ
 |_=>ζ
theorem Y1(i:Nat){x:Str}{p apos cpos pos:Pos}{e:AG}{m:M}(hx:PE X (.Name x p) (a3G i))(ha:EE X e m)
 (hbase:attributeBase (.Name x p) "append" X.env (eval (.Name x p) X.env)=eval (.Name x p) X.env:=by rfl)
 (hfew:((backTo cpos (AL [e] X.env)).all (λx=> !x.1)&&(backToKw cpos (keywordEach [] X.env)).all (λx=>x.1.isSome)
  && decide ([e].length+([]:List Keyword).length+(if([]:List Keyword).isEmpty then 0 else 1)<30))=true:=by rfl)
 (hline:(apos.endLine==cpos.line)=true:=by rfl) (hs:AL [e] X.env=(false,eval e X.env)::AL [] X.env:=by rfl) (hplain:(backTo cpos (AL [] X.env)).any (·.1)=false:=by rfl)
 (hsw:swapsWith (.Call (.Attribute (.Name x p) "append" apos) [e] [] cpos) ζ pos.line X.env=pure false:=by rfl):
 ES X (.Expr (.Call (.Attribute (.Name x p) "append" apos) [e] [] cpos) pos) (Q4 i m):=
 W5 (b7P (c39 PySem.F.plainAttrs_list PySem.F.slot_list_append PySem.F.type_list_append b2u hx (Q5 ha a2d hs) hbase hfew hline hs hplain) hsw) λD σ H h0=>R6 h0 λF0 H0 F ρ fl so e fin=>by
  obtain⟨r,e1,e⟩:=bind_some e;obtain⟨q,e2,e⟩:=bind_some e;split at e
  ·rename_i ps eo;split at e
   ·rename_i c;cases e;obtain⟨v,h1,a,xs,rfl,fa,ha',rl⟩:=so.e.at_ i _ eo;refine⟨.ref a,h1,.inl ⟨rfl,xs,SqL.of ha'⟩,F,ρ,r,so.e,e1,λw F1 H1 o=> ?_⟩;obtain⟨F2,o2⟩:=o.toVal e2;have so2:=so.ext o2.x;refine⟨a,xs,w,rfl,rfl,o.x.h _ _ ha',by rw [rl.length];exact c, ?_⟩
    exact fin σ F2 _ o2.x.f (so2.put eo h1 ((n8.mono o2.x.f _ rl).append ⟨w,[],rfl,o2.rep,rfl⟩))
   ·cases e
  ·cases e
def b1n(i:Nat)(n:MS):MS:=λρ=>match ρ[i]? with
 |some (ξ (.ow (.lst ps)))=>n (ρ.set i (ξ (.v (.list ps))))
 |_=>n ρ
theorem SOk.frz{K:AE}{F0 H0 F H:Hp}{σ:L2.St}{ρ:c5}{i:Nat}{ps:List PV}(s:SOk K F0 H0 F H σ ρ)(e:ρ[i]?=ξ (ξ (.own ps))):∃F',u4 F F'/\SOk K F0 H0 F' H σ (ρ.set i (ξ (.v (.list ps)))):=by
 obtain⟨v,h1,a,xs,rfl,fa,ha,rl⟩:=s.e.at_ i _ e;have na:H0 a=ζ:=s.nw i _ a e h1;have hi:i<ρ.length:=(Aj.mp e).1;have up:u4 F (B9 F a (.lst xs)):=X1 fa;have fh:u4 (B9 F a (.lst xs)) H:=λb o z=>by
  by_cases hb:b=a
  ·subst hb;rw [r9] at z;cases z;exact ha
  ·rw [l8 hb] at z;exact s.e.fh _ _ z
 refine⟨B9 F a (.lst xs),up,⟨⟨s.x.f.trans up,s.x.h,fh,λb o z y t=>by rw [l8 (m5 y na)];exact s.x.nw b o z y t,c06 s.x.nf⟩,⟨fh,by simp [s.e.len],λj q ej=> ?_,λj z ej=> ?_,λj k z1 z2 c hjk e1 e2 e3 e4=> ?_⟩,λj z c e1 e2=> ?_⟩⟩
 ·rw [List.getElem?_set] at ej
  by_cases hij:i=j
  ·subst hij;rw [if_pos rfl,if_pos hi] at ej;cases ej;exact⟨.ref a,h1,a,xs,rfl,SqL.of r9,n8.mono up _ rl⟩
  ·rw [if_neg hij] at ej;obtain⟨v,h2,rr⟩:=s.e.at_ j q ej;refine⟨v,h2, ?_⟩;cases q with
   |v p=>exact L3.mono up p rr
   |bo z=>exact absurd ej (s.e.nb j z)
   |ow z=>
    have key:∀b,v= .ref b->b≠a:=λb hb hab=>by subst hab;subst hb;exact s.e.ap i j _ z b hij e ej h1 h2
    cases z with
    |lst z=>
     obtain⟨b,zs,rfl,fb,hb,rz⟩:=rr;exact⟨b,zs,rfl,by rw [l8 (key b rfl)];exact fb,hb,n8.mono up _ rz⟩
    |dct z=>
     obtain⟨b,zs,rfl,fb,hb,rz⟩:=rr;exact⟨b,zs,rfl,by rw [l8 (key b rfl)];exact fb,hb,E9.mono up _ rz⟩
    |txt z=>
     obtain⟨b,zs,rfl,fb,hb,rz⟩:=rr;exact⟨b,zs,rfl,by rw [l8 (key b rfl)];exact fb,hb,E9.mono up _ rz⟩
 ·rw [List.getElem?_set] at ej
  by_cases hij:i=j
  ·subst hij;rw [if_pos rfl,if_pos hi] at ej;cases ej
  ·rw [if_neg hij] at ej;exact s.e.nb j z ej
 ·have own_at:∀(j:Nat) (z:a06),(ρ.set i (ξ (d7.v (.list ps))))[j]?=ξ (ξ (d7.ow z))->ρ[j]?=ξ (ξ (d7.ow z)):=λj z h=>by
   rw [List.getElem?_set] at h
   by_cases hij:i=j
   ·subst hij;rw [if_pos rfl,if_pos hi] at h;cases h
   ·rw [if_neg hij] at h;exact h
  exact s.e.ap j k z1 z2 c hjk (own_at j z1 e1) (own_at k z2 e2) e3 e4
 ·rw [List.getElem?_set] at e1
  by_cases hij:i=j
  ·subst hij;rw [if_pos rfl,if_pos hi] at e1;cases e1
  ·rw [if_neg hij] at e1;exact s.nw j z c e1 e2
theorem a6b(i:Nat){st:Stmt}{n:MS}(h:ES X st n):ES X st (b1n i n):=W5 h λD σ H h0=>R6 h0 λF0 H0 F ρ fl so e fin=>by
 unfold b1n at e;split at e
 ·rename_i ps eo;obtain⟨F',s,so'⟩:=so.frz eo;exact⟨F0,H0,F',_,fl,so',e,fin.later s⟩
 ·exact⟨F0,H0,F,ρ,fl,so,e,fin⟩
end
def c5E(K:AE)(n:Nat)(a:AB):Option (List (u8×PV)):=match K.lookup a with
 |some ⟨.type "dict",ζ,.dict es _,⟨[]⟩⟩=>(a8u es.toList).bind (a2O K n)
 |_=>ζ
def b3r(K:AE)(a:AB):List Int:=match K.lookup a with
 |some ⟨_,_,.dict es _,_⟩=>es.toList.map (·.hash)
 |_=>[]
theorem a6H{κ:Type}{K:AE}{n:Nat}:∀{kvs:List (κ×AA)} {tbl:List (κ×PV)},a2O K n kvs=ξ tbl->tbl.map (·.1)=kvs.map (·.1)
 |[],_,h=>by cases h;rfl
 |(k,u)::r,tbl,h=>by
  simp only [a2O] at h;obtain⟨q,e1,h⟩:=bind_some h;obtain⟨t,e2,h⟩:=bind_some h;cases h;rw [AN,AN,a6H e2]
theorem c02{κ α β:Type}{γ:Type}(f:κ->γ):∀{l:List (κ×α)} {m:List (κ×β)},l.map (·.1)=m.map (·.1)->l.map (λx=>f x.1)=m.map (λx=>f x.1):=λ {l m} h=>by
 have h1:l.map (λx=>f x.1)=(l.map (·.1)).map f:=by simp [Ah,Function.comp_def]
 have h2:m.map (λx=>f x.1)=(m.map (·.1)).map f:=by simp [Ah,Function.comp_def]
 rw [h1,h2,h]
theorem c5G{P:AJ}{w:AI}{K:AE}{a:AB}{tbl:List (u8×PV)}(n:Nat)(t:c5E K n a=ξ tbl)(h:b3r K a=tbl.map (λkv=>b8P w kv.1))(nd:(tbl.map (·.1)).Nodup):Tab P w K a tbl:=by
 unfold c5E at t;split at t
 ·rename_i es ep e;obtain⟨kvs,e1,e2⟩:=bind_some t;have hk:=a6H e2;refine⟨es,ep,kvs,n,e,e1, ?_,e2,by rw [<-hk];exact nd⟩
  unfold b3r at h;rw [e] at h;rw [<-c02 (b8P w) hk];exact h
 ·cases t
def n5(P:AJ)(w:AI)(K:AE)(mg:Str->Option AA)(base:Heap)(x:Str)(ps:List Str)(k:Nat)(g:List PV->Option d7):Prop:=
 ∃f fd,U7 P w K mg base CX0 k f fd ps (spP K ps.length g)/\mg x=ξ (.ref f)/\PySem.W.keepIn K (.ref f)=true/\a05 K fd ps []
section
variable {X:Cx}
theorem j7{k k':Nat}{ps:List Str}{g:List PV->Option d7}{x:Str}{p pos:Pos}{e:AG}{es:List AG}{m:MA}
 (d:n5 X.prog X.w X.K X.mg X.base x ps k g) (hr:O1 k' X.A) (hk:k<=k') (hg:Gl X x) (hn:∀ρ qs,m ρ=ξ qs->qs.length=ps.length) (ha:EA X (e::es) m)
 (hdb:(x==("__debug__":Str))=false:=by decide) (he:AL (e::es) X.env=(false,eval e X.env)::AL es X.env:=by rfl) (hpl:(backTo pos (AL es X.env)).any (·.1)=false:=by rfl):
 EE X (.Call (.Name x p) (e::es) [] pos) (j5 g m):=by
 obtain⟨f,fd,G,h1,h2,h3⟩:=d
 exact c2q G (hr.mono hk) hg h1 h2 h3 hn ha hdb he hpl
theorem c2r{k k':Nat}{g:List PV->Option d7}{x:Str}{p pos:Pos}
 (d:n5 X.prog X.w X.K X.mg X.base x [] k g) (hr:O1 k' X.A) (hk:k<=k') (hg:Gl X x) (hdb:(x==("__debug__":Str))=false:=by decide):
 EE X (.Call (.Name x p) [] [] pos) (λ_=>g []):=by
 obtain⟨f,fd,G,h1,h2,h3⟩:=d
 exact b97 G (hr.mono hk) hg h1 h2 h3 hdb
end
def b5K(K:AE):Sp:=λvs H Q _=>∃(a:AB) (ns:List Int),vs=[.ref a]/\SqL K H a (ns.map V.int)/\ns.length<=63/\∀H',Q (.bl true) H'
theorem b2A{K:AE}{H:Hp}:∀ns:List Int,n8 K H (ns.map PyData.int) (ns.map V.int)
 |[]=>rfl
 |n::ns=>⟨.int n,_,rfl,rfl,b2A ns⟩
theorem c2P{K:AE}{g:List PV->Option d7}(h:∀ns:List Int,ns.length<=63->g [.list (ns.map .int)]=ξ (.v (.bool true))):∀vs H Q E,b5K K vs H Q E->spP K 1 g vs H Q E:=
 λvs H Q E ⟨a,ns,e,hs,hl,k⟩=>by
  subst e;exact⟨H,[.list (ns.map .int)],_,PU.u4.refl H,⟨.ref a,[],rfl,⟨a,_,rfl,hs,b2A ns⟩,rfl⟩,rfl,h ns hl,λv F' H' o=>by
   have:v= .bl true:=o.rep;subst this;exact k H'⟩
def c2E(x y:d7):Option d7:=J2 b5Q (λi j=> .int (i*j)) x y
theorem c1f{X:Cx}:OpM X (binaryOp .Mult) c2E:=c28
theorem c0o(i j:Int):y8 (.v (.int i)) (.v (.int j))=ξ (.v (.int (i+j))):=Eq.trans rfl rfl
theorem c0p{i j:Str}(h:i.length+j.length<=AM):y8 (.v (.str i)) (.v (.str j))=ξ (.v (.str (i++j))):=by simp [y8,h]
theorem c2z{ps qs:List PV}(h:ps.length+qs.length<=AM):y8 (.bor ps) (.own qs)=ξ (.own (ps++qs)):=by simp [y8,d7.mine,h]
theorem a9e{C:Int->Int->Prop}[∀i j,Decidable (C i j)](f:Int->Int->PV){i j:Int}(h:C i j):J2 C f (.v (.int i)) (.v (.int j))=ξ (.v (f i j)):=by
 show(if okC C i j=true then ξ (d7.v (f i j)) else ζ)=_
 rw [if_pos (a0j.mpr h)]
theorem c4D{i j:Int}(h: -18446744073709551616<i/\i<18446744073709551616):c2E (.v (.int i)) (.v (.int j))=ξ (.v (.int (i*j))):=a9e _ (.inl (by lia))
theorem c4E{i j:Int}(h: -18446744073709551616<j/\j<18446744073709551616):c2E (.v (.int i)) (.v (.int j))=ξ (.v (.int (i*j))):=a9e _ (.inr (by lia))
theorem c0w{f:Int->Int->PV}{i j:Int}(h:0<j):J2 (λ_ j=>0<j) f (.v (.int i)) (.v (.int j))=ξ (.v (f i j)):=a9e _ h
theorem c0y{f:Int->Int->PV}{i j:Int}(h:(0<=j/\j<=1000000)/\i.natAbs<18446744073709551616):J2 b78 f (.v (.int i)) (.v (.int j))=ξ (.v (f i j)):=a9e _ ⟨h.1.1,h.1.2,h.2⟩
theorem b6m{x y:d7}(h:x4 x.rd 50=true/\x4 y.rd 50=true):D0 x y=ξ (.v (.bool (PyData.eqv x.rd y.rd))):=by simp [D0,h]
theorem c4F{x y:d7}(h:x4 x.rd 50=true/\x4 y.rd 50=true):gNe x y=ξ (.v (.bool (!PyData.eqv x.rd y.rd))):=by simp [gNe,h]
theorem a7Z(ps:List PV):B4 (.v (.list ps))=ξ (.v (.int ps.length)):=Eq.trans rfl rfl
theorem c0u(ps:List PV):B4 (.v (.tuple ps))=ξ (.v (.int ps.length)):=Eq.trans rfl rfl
theorem b4U{ps:List PV}{i:Int}{p:PV}(h:L2.atI ps i=ξ p):k6 (.v (.list ps)) (.v (.int i))=ξ (.v p):=by simp [k6,d7.rd,a06.rd,PyData.items?,h]
theorem c2C{ps:List PV}{i:Int}{p:PV}(h:L2.atI ps i=ξ p):k6 (.v (.tuple ps)) (.v (.int i))=ξ (.v p):=by simp [k6,d7.rd,a06.rd,PyData.items?,h]
theorem W1(g:d7->d7->Option d7)(ma mb:M)(ρ:c5):m2 g ma mb ρ=(ma ρ).bind λx=>(mb ρ).bind λy=>g x y:=Eq.trans rfl rfl
theorem b0d(g:d7->Option d7)(ma:M)(ρ:c5):m1 g ma ρ=(ma ρ).bind g:=Eq.trans rfl rfl
theorem a4y(p:PV)(ρ:c5):mC p ρ=ξ (.v p):=Eq.trans rfl rfl
theorem E8(p:PV)(ρ:c5):b0 0 (ξ (.v p)::ρ)=ξ (.v p):=Eq.trans rfl rfl
theorem R4(n:Nat)(r:Option d7)(ρ:c5):b0 (n+1) (r::ρ)=b0 n ρ:=Eq.trans rfl rfl
theorem Z0(ρ:c5):b8 ρ=ξ []:=Eq.trans rfl rfl
theorem P6(m:M)(r:MA)(ρ:c5):a8 m r ρ=((m ρ).bind d7.toVal).bind λp=>(r ρ).bind λps=>ξ (p::ps):=Eq.trans rfl rfl
theorem G2(p:PV):(d7.v p).toVal=ξ p:=Eq.trans rfl rfl
theorem Y8(g:List PV->Option d7)(m:MA)(ρ:c5):j5 g m ρ=(m ρ).bind g:=Eq.trans rfl rfl
def c5P(i:Nat)(ρ:c5)(r:d7):Option Fl:=if r.nb=true then ξ (.nx (ρ.set i (ξ r))) else ζ
theorem b43(i:Nat)(m:M)(ρ:c5):p0 i m ρ=(m ρ).bind (c5P i ρ):=Eq.trans rfl rfl
theorem b9Q(i:Nat)(ρ:c5)(p:PV):c5P i ρ (.v p)=ξ (.nx (ρ.set i (ξ (.v p)))):=Eq.trans rfl rfl
def c6e(r:d7):Option Fl:=if r.nb=true then ξ (.rt r) else ζ
theorem S5(m:M)(ρ:c5):l0 m ρ=(m ρ).bind c6e:=Eq.trans rfl rfl
theorem a2e(p:PV):c6e (.v p)=ξ (.rt (.v p)):=Eq.trans rfl rfl
def c5t(n:MS):Fl->Option Fl
 | .nx ρ=>n ρ
 |f=>ξ f
theorem a1u(m n:MS)(ρ:c5):j0 m n ρ=(m ρ).bind (c5t n):=Eq.trans rfl rfl
theorem a7I(n:MS)(ρ:c5):c5t n (.nx ρ)=n ρ:=Eq.trans rfl rfl
theorem a9k(n:MS)(r:d7):c5t n (.rt r)=ξ (.rt r):=Eq.trans rfl rfl
def ifK(m n:MS)(ρ:c5)(b:Bool):Option Fl:=if b=true then m ρ else n ρ
theorem a2B(c:MT)(m n:MS)(ρ:c5):o9 c m n ρ=(c ρ).bind (ifK m n ρ):=Eq.trans rfl rfl
theorem b7x(m n:MS)(ρ:c5):ifK m n ρ true=m ρ:=Eq.trans rfl rfl
theorem b7w(m n:MS)(ρ:c5):ifK m n ρ false=n ρ:=Eq.trans rfl rfl
theorem a5c(ρ:c5):l9 ρ=ξ (.nx ρ):=Eq.trans rfl rfl
def c6f:Fl->Option d7
 | .rt r=>ξ r
 | .nx _=>ξ (.v .none)
 |_=>ζ
theorem G9(n:Nat)(b:MS)(ps:List PV):m4 n b ps=(b (ps.map (λp=>ξ (d7.v p))++AQ n ζ)).bind c6f:=Eq.trans rfl rfl
theorem N9(r:d7):c6f (.rt r)=ξ r:=Eq.trans rfl rfl
theorem a5d(m:M)(ρ:c5):u6 m ρ=(m ρ).bind b6U:=Eq.trans rfl rfl
theorem a8d(b:Bool):b6U (.v (.bool b))=ξ b:=Eq.trans rfl rfl
theorem a8b(p:PV):(d7.v p).rd=p:=Eq.trans rfl rfl
def c6s(tbl:List (u8×PV))(r:d7):Option d7:=(b7y r.rd).bind λk=>(a8E tbl k).map .v
theorem c00(tbl:List (u8×PV))(m:M)(ρ:c5):c4U tbl m ρ=(m ρ).bind (c6s tbl):=Eq.trans rfl rfl
theorem c5F(tbl:List (u8×PV))(x:Str):c6s tbl (.v (.str x))=(a8E tbl (.inr x)).map .v:=Eq.trans rfl rfl
theorem c0W(it:MI)(tg:PV->c5->Option c5)(body:MS)(ρ:c5):S4 it tg body ρ=(it ρ).bind λps=>z9 body tg ps ρ:=Eq.trans rfl rfl
def c4b:List PV->Option (List PV)
 |[.int j]=>if inR j=true then ξ (a1E 0 j) else ζ
 |_=>ζ
theorem b80(m:MA)(ρ:c5):M1 m ρ=(m ρ).bind c4b:=Eq.trans rfl rfl
theorem c3q{j:Int}(h: -4611686018427387904<=j/\j<4611686018427387904):c4b [.int j]=ξ (a1E 0 j):=by
 show(if inR j=true then ξ (a1E 0 j) else ζ)=_
 rw [if_pos (a29.mpr (by lia))]
def c4c:List PV->Option (List PV)
 |[.int i,.int j]=>if inR i=true/\inR j=true then ξ (a1E i j) else ζ
 |_=>ζ
theorem b81(m:MA)(ρ:c5):b7D m ρ=(m ρ).bind c4c:=Eq.trans rfl rfl
theorem c3r{i j:Int}(h:(-4611686018427387904<=i/\i<4611686018427387904)/\ -4611686018427387904<=j/\j<4611686018427387904):c4c [.int i,.int j]=ξ (a1E i j):=by
 show(if inR i=true/\inR j=true then ξ (a1E i j) else ζ)=_
 rw [if_pos ⟨a29.mpr (by lia),a29.mpr (by lia)⟩]
theorem b7q(i j:Int):D0 (.v (.int i)) (.v (.int j))=ξ (.v (.bool (i==j))):=Eq.trans rfl rfl
theorem c0q{p:PV}(h:x4 p 50=true):D0 (.v p) (.v p)=ξ (.v (.bool true)):=by
 rw [b6m (x:= .v p) (y:= .v p) ⟨h,h⟩,a8b,a9U p 50 h]
theorem c0x{p:PV}(h:x4 p 50=true):gNe (.v p) (.v p)=ξ (.v (.bool false)):=by
 rw [c4F (x:= .v p) (y:= .v p) ⟨h,h⟩,a8b,a9U p 50 h]
 rfl
end PU
namespace L2
open PySem PySem.Spec PyProof.Rows
theorem M4:∀(names:List (Str×NameKind)) (n:Nat) (acc:List (Str×AB)),cellsFrom n names acc=cellsFrom n names []++acc
 |[],_,_=>rfl
 |(x,k)::r,n,acc=>by
  unfold cellsFrom;split
  ·rw [M4 r (n+1) ((x,n)::acc),M4 r (n+1) [(x,n)],List.append_assoc];rfl
  ·exact M4 r n acc
theorem U9:∀{names:List (Str×NameKind)} {n:Nat} {x:Str} {c:AB},(x,c)∈cellsFrom n names []->n<=c/\(x,NameKind.cell)∈names
 |[],_,_,_,h=>nomatch h
 |(y,k)::r,n,x,c,h=>by
  unfold cellsFrom at h;split at h
  ·rename_i hk;rw [M4] at h;rcases Ax.mp h with h|h
   ·obtain⟨a,b⟩:=U9 h;exact⟨by lia,Aa _ b⟩
   ·have e:(x,c)=(y,n):=by simpa using h
    cases e;have:k= .cell:=by simpa using hk
    subst this;exact⟨AS _,AZ⟩
  ·obtain⟨a,b⟩:=U9 h;exact⟨a,Aa _ b⟩
theorem b0b{α:Type}:∀{l:List (Str×α)} {x:Str},(∀c,(x,c)∉l)->l.lookup x=ζ:=λ {l x} h=>by
 cases e:l.lookup x with
 |none=>rfl
 |some c=>exact absurd (PySem.mem_of_lookup e) (h c)
theorem a5K{α:Type}:∀{l r:List (Str×α)} {x:Str},l.lookup x=ζ->(l++r).lookup x=r.lookup x
 |[],_,_,_=>rfl
 |(y,v)::l,r,x,h=>by
  rw [Ar,List.lookup_cons];rw [List.lookup_cons] at h;cases e:x==y with
  |true=>rw [e] at h;cases h
  |false=>rw [e] at h;exact a5K h
def a0J(cells:List (Str×AB)):List (Str×NameKind)->List (Str×AB)->List (Str×AB)
 |[],acc=>acc
 |(x,k)::r,acc=>if k== .free then a0J cells r ((x,(cells.lookup x).getD 0)::acc) else a0J cells r acc
theorem a7P{cells:List (Str×AB)}:∀{names:List (Str×NameKind)} {acc:List (Str×AB)} {x:Str} {c:AB},(x,c)∈a0J cells names acc->(x,c)∈acc\/((x,NameKind.free)∈names/\c=(cells.lookup x).getD 0)
 |[],_,_,_,h=> .inl h
 |(y,k)::r,acc,x,c,h=>by
  unfold a0J at h;split at h
  ·rename_i hk;rcases a7P h with h|⟨h1,h2⟩
   ·rcases Ab.mp h with e|h
    ·cases e;have:k= .free:=by simpa using hk
     subst this;exact .inr ⟨AZ,rfl⟩
    ·exact .inl h
   ·exact .inr ⟨Aa _ h1,h2⟩
  ·rcases a7P h with h|⟨h1,h2⟩
   ·exact .inl h
   ·exact .inr ⟨Aa _ h1,h2⟩
theorem a3X{cells:List (Str×AB)}:∀{names:List (Str×NameKind)} {acc:List (Str×AB)} {x:Str},x∉names.map (·.1)->(a0J cells names acc).lookup x=acc.lookup x
 |[],_,_,_=>rfl
 |(y,k)::r,acc,x,h=>by
  have h':¬(x=y)/\x∉r.map (·.1):=by simpa using h
  unfold a0J;split
  ·rw [a3X h'.2,List.lookup_cons];have e:(x==y)=false:=by simpa using h'.1
   rw [e]
  ·exact a3X h'.2
theorem a2S{cells:List (Str×AB)}:∀{names:List (Str×NameKind)} {acc:List (Str×AB)} {x:Str},(names.map (·.1)).Nodup->names.lookup x=ξ .free->(a0J cells names acc).lookup x=ξ ((cells.lookup x).getD 0)
 |[],_,_,_,h=>by cases h
 |(y,k)::r,acc,x,nd,h=>by
  have nd':y∉r.map (·.1)/\(r.map (·.1)).Nodup:=List.nodup_cons.mp nd;rw [List.lookup_cons] at h;unfold a0J;cases e:x==y with
  |true=>
   rw [e] at h;have hk:k= .free:=by simpa using h
   subst hk;have exy:x=y:=by simpa using e
   subst exy;rw [if_pos (show(NameKind.free==NameKind.free)=true from rfl),a3X nd'.1,List.lookup_cons,e]
  |false=>
   rw [e] at h;split
   ·exact a2S nd'.2 h
   ·exact a2S nd'.2 h
theorem a11{env:Env}(f:Str×NameKind->List (Str×AB)->Sem (ForInStep (List (Str×AB))))(hf:∀x k cs,f (x,k) cs=if k== .free then(do let c<-cellOf env x;pure (.yield ((x,c)::cs))) else pure (.yield cs)):
 ∀(names:List (Str×NameKind)) (acc:List (Str×AB)),(∀x∈names,x.2= .free->(env.cells.lookup x.1).isSome=true)->forIn names acc f=pure (a0J env.cells names acc)
 |[],acc,_=>rfl
 |(x,k)::r,acc,h=>by
  rw [List.forIn_cons,hf];unfold a0J;have hr:=λy hy=>h y (Aa _ hy);split
  ·rename_i hk;have:=h (x,k) AZ (by simpa using hk)
   obtain⟨c,hc⟩:=Option.isSome_iff_exists.mp this;unfold cellOf;rw [hc];show forIn r ((x,c)::acc) f=_;exact a11 f hf r _ hr
  ·exact a11 f hf r acc hr
theorem b08{scope:Scope}{env:Env}(h:∀x∈scope.names,x.2= .free->(env.cells.lookup x.1).isSome=true):closureFor scope env=pure (a0J env.cells scope.names []):=by
 unfold closureFor;have e:=a11 (env:=env) (λ(x:Str×NameKind) (cs:List (Str×AB))=>if x.2== .free then(do let c<-cellOf env x.1;pure (.yield ((x.1,c)::cs))) else pure (.yield cs)) (λ_ _ _=>rfl) scope.names [] h
 show(forIn scope.names [] _>>=λr=>pure r)=_;refine Eq.trans (congrArg (· >>=λr=>pure r) (Eq.trans (congrArg (forIn scope.names []) ?_) e)) rfl
 funext x cs
 cases x with
 |mk n k=>cases k<;>rfl
theorem a4E{env:Env}{x:Str}:∀{names:List (Str×NameKind)},(names.map λ(p:Str×NameKind)=>if(p.2==NameKind.free && env.scope.kind== .function && env.kindOf p.1==ξ .cell) then(p.1,NameKind.cell) else(p.1,p.2)).lookup x
 =(names.lookup x).map λk=>if(k==NameKind.free && env.scope.kind== .function && env.kindOf x==ξ .cell) then NameKind.cell else k
 |[]=>rfl
 |(n,k)::r=>by
  rw [AN];have ih:= @a4E env x r;show List.lookup x ((if(k==NameKind.free && env.scope.kind== .function && env.kindOf n==ξ .cell)=true then(n,NameKind.cell) else(n,k))::_)=_
  cases hx:x==n with
  |true=>
   have e:x=n:=by simpa using hx
   subst e
   by_cases c:(k==NameKind.free && env.scope.kind== .function && env.kindOf x==ξ .cell)=true
   ·rw [if_pos c,List.lookup_cons,hx,List.lookup_cons,hx];exact congrArg ξ (if_pos c).symm
   ·rw [if_neg c,List.lookup_cons,hx,List.lookup_cons,hx];exact congrArg ξ (if_neg c).symm
  |false=>
   by_cases c:(k==NameKind.free && env.scope.kind== .function && env.kindOf n==ξ .cell)=true
   ·rw [if_pos c,List.lookup_cons,hx,List.lookup_cons,hx];exact ih
   ·rw [if_neg c,List.lookup_cons,hx,List.lookup_cons,hx];exact ih
def T7(scope:Scope)(C:AB)(env:Env):Env:=
 {scope:=relabel scope env,locals:=C,globals:=env.globals,cells:=cellsFrom (C+1) scope.names (a0J env.cells scope.names []),qual:=env.qual,func:=ζ,code:=env.code,frame:=env.frame,builtins:=env.builtins}
def hid(ys:List Str)(x:Str):Str:=if ys.contains x=true then AC "0"++x else x
def K4(X:Cx)(N0:List Str)(scope:Scope)(ys:List Str)(C:AB)(fp:List AB)(pins:List (AB×Obj))(s₃:AD)(H₃:Hp):Cx:=
 {X with N:=N0++ys,s₀:=s₃,H₀:=H₃,env:=T7 scope C X.env,outer:=X.stack,ex:=fp,fn:=λx=>scope.names.lookup x==ξ .cell,pn:=X.pn++pins}
theorem a1g{scope:Scope}{C:AB}{env:Env}{x:Str}:(T7 scope C env).kindOf x=(scope.names.lookup x).map λk=>if(k==NameKind.free && env.scope.kind== .function && env.kindOf x==ξ .cell) then NameKind.cell else k:=
 a4E
structure T6(N N0 ys:List Str)(env:Env)(scope:Scope):Prop where
 eq:N0=N.map (hid ys)
 kind:scope.kind= .function
 nd:(scope.names.map (·.1)).Nodup
 fr:∀x∈scope.names,x.2= .free->env.kindOf x.1=ξ .cell\/env.kindOf x.1=ξ .free
 ou:∀x∈N,(ys.contains x=true->scope.names.lookup (hid ys x)=ζ)/\(ys.contains x=false->scope.names.lookup x=ζ\/scope.names.lookup x=ξ .free\/scope.names.lookup x=ξ .globalImplicit)
theorem K9{α:Type}:∀{l:List (Str×α)} {x:Str} {v:α},(l.map (·.1)).Nodup->(x,v)∈l->l.lookup x=ξ v
 |[],_,_,_,h=>nomatch h
 |(y,w)::r,x,v,nd,h=>by
  have nd':y∉r.map (·.1)/\(r.map (·.1)).Nodup:=List.nodup_cons.mp nd;rw [List.lookup_cons];rcases Ab.mp h with e|h
  ·cases e;simp
  ·have:x≠y:=λe=>nd'.1 (by rw [<-e];exact BC.mpr ⟨_,h,rfl⟩)
   have e:(x==y)=false:=by simpa using this
   rw [e];exact K9 nd'.2 h
section
variable {M:Model}{A:AK}{E:AA->AD->Prop}{s:AD}
theorem a5r{scope:Scope}{globals:AB}{cl:List (Str×AB)}{qual:Str}{env:Env}{builtins:AB}{Q:Env->AD->Prop}
 (h:Q (newEnv scope s.heap.objs.size globals (cellsFrom (s.heap.objs.size+1) scope.names cl) qual ζ .none (ξ env) builtins) {s with heap:=pushCells (s.heap.push {cls:= .type "dict",data:= .dict #[]}) scope.names}):
 AH M A (newFunctionEnv scope globals cl [] qual ζ .none (ξ env) builtins) Q E s:=by
 simp only [newFunctionEnv,Option.isSome_some,if_true]
 refine AF (wpAny_alloc ?_)
 refine AF (wpAny_layCells _ (λname kind cells=>by cases hkc:kind==NameKind.cell<;>simp [hkc]) _ _ _ _ ?_)
 rw [show({s with heap:=s.heap.push {cls:= .type "dict",data:= .dict #[]}}:AD).heap.objs.size=s.heap.objs.size+1 from Heap.size_push ..]
 exact AF (AR (AR h))
end
section
variable {prog:AJ}{w:AI}{A:AK}{R:Result->AD->Prop}{s:AD}
theorem a5n{elt target iter:AG}{ifs:List AG}{scope:Scope}{pos:Pos}{it acc:AA}{env:Env}(I:Nat->AD->Prop)
 (turn:∀n s,I n s->AH (model prog w) A (pyNext it) (λr s₁=>match r with
  |none=>R (.ok .next) s₁
  |some v=>AH (model prog w) A (letOwnedTupleGo target it v) (λ_ s₁'=>AH (model prog w) A (assign target env v) (λ_ s₂=>
   AH (model prog w) A (forIn ifs true λc r=>if r=true then do let ok<-isTrue c env (eval c env);pure (ForInStep.yield ok) else pure (ForInStep.yield r)) (λok s₃=>
    if ok=true then AH (model prog w) A (eval elt env) (λx s₄=>
     AH (model prog w) A (call (.builtin "list.append") [acc,x]) (λ_ s₅=>∃m,m<n/\I m s₅) (λ_ _=>False) s₄) (λ_ _=>False) s₃
    else ∃m,m<n/\I m s₃) (λ_ _=>False) s₂) (λ_ _=>False) s₁') (λ_ _=>False) s₁) (λ_ _=>False) s)
 (n:Nat) (h:I n s):
 codeAny (model prog w) A (.compLoop (.ListComp elt [⟨target,iter,ifs,0⟩] scope pos) 0 it acc env) R s:=by
 refine codeAny_loop rfl I (λn s hI=> ?_) n h
 show AH _ A ((compTurn (.ListComp elt [⟨target,iter,ifs,0⟩] scope pos) 0 it acc env).onRaise (λx=>do noteFrame x env;theTreesLotGoes x)) _ _ s
 refine wpAny_noted ?_
 rw [compTurn_list]
 refine AF (wpAny_standAt (AF (wpAny_mono (turn n s hI) (λr s₁ h₁=> ?_) λ_ _ h'=>h'.elim)))
 cases r with
 |none=>exact AR h₁
 |some v=>
  refine AF (wpAny_mono h₁ (λ_ s₁' h₁'=> ?_) λ_ _ h'=>h'.elim)
  refine AF (wpAny_mono h₁' (λ_ s₂ h₂=>AF (wpAny_mono h₂ (λok s₃ h₃=> ?_) λ_ _ h'=>h'.elim)) λ_ _ h'=>h'.elim)
  cases ok with
  |false=>exact AR ⟨rfl,h₃⟩
  |true=>
   exact AF (AF (wpAny_mono h₃ (λx s₄ h₄=>AF (wpAny_mono h₄ (λ_ s₅ h₅=>AR (AR ⟨rfl,h₅⟩)) λ_ _ h'=>h'.elim)) λ_ _ h'=>h'.elim))
end
def PCs(X:Cx)(ifs:List AG)(t:TT):Prop:=
 ∀(pins:List (AB×Obj)) (s:AD) (σ:St) (H:Hp) (Q:Bool->Hp->Prop),n3 X pins σ H s->t σ H Q->
  AH (model X.prog X.w) X.A (forIn ifs true λc r=>if r=true then do let ok<-isTrue c X.env (eval c X.env);pure (ForInStep.yield ok) else pure (ForInStep.yield r)) (TP X pins σ Q) X.xe s
def c6r:TT:=λ_ H Q=>Q true H
theorem c3a{X:Cx}:PCs X [] c6r:=λpins s σ H Q I h=>wpAny_tests_nil ⟨H,I,h⟩
theorem c3b{X:Cx}{c:AG}{t:TT}(h:PT X c t):PCs X [c] t:=λpins s σ H Q I hq=>wpAny_tests_one (h pins s σ H Q I hq)
def b70(wi:TI)(g:TG)(tc:TT)(te:TE)(k:Nat):TE:=λσ H Q=>wi σ H λJ H1=>∀D,H1 D=ζ->∃W:Nat->Nat->List V->Hp->Prop,(∃m,W 0 m [] (B9 H1 D (.lst [])))/\∀i m xs H2,W i m xs H2->H2 D=ξ (.lst xs)->
 (J.stop i H2/\Q (.ref D) H2)\/(J.go i H2/\∀x H3,J.yld i H2 x H3->g x (σ++AQ k ζ) H3 λσ4 H4=>(∀(j:Nat) v,(σ++AQ k ζ)[j]?=ξ (ξ v)->σ4[j]?=ξ (ξ v))/\tc σ4 H4 λb H5=>if b=true then te σ4 H5 λv H6=>H6 D=ξ (.lst xs)/\xs.length<AM/\∃m',m'<m/\W (i+1) m' (xs++[v]) (B9 H6 D (.lst (xs++[v])))
  else H5 D=ξ (.lst xs)/\∃m',m'<m/\W (i+1) m' xs H5)
section
variable {X:Cx}{elt iter tg:AG}{ifs:List AG}{scope:Scope}{N0 ys:List Str}{wi:TI}{g:TG}{tc:TT}{te:TE}{pos:Pos}
theorem a28{pins:List (AB×Obj)}{σ:St}{H:Hp}{s:AD}(I:n3 X pins σ H s)(S:T6 X.N N0 ys X.env scope){x:Str}(h:(x,NameKind.free)∈scope.names):∃c,X.env.cells.lookup x=ξ c:=I.ok.has x (S.fr _ h rfl)
theorem b6c{pins:List (AB×Obj)}{σ:St}{H:Hp}{s:AD}{fp:List AB}(S:T6 X.N N0 ys X.env scope)(I:n3 X pins σ H s)(hf:∀b∈fp,a5W X pins H b)(ho:∀b∈fp,∃o,s.heap.get? b=ξ o/\∀v,o.data≠.cell v):
 n3 (K4 X N0 scope ys s.heap.objs.size fp pins s H) [] (σ++AQ ys.length ζ) H {s with heap:=pushCells (s.heap.push {cls:= .type "dict",data:= .dict #[]}) scope.names}:=by
 have up:∀b o,s.heap.get? b=ξ o->(pushCells (s.heap.push {cls:= .type "dict",data:= .dict #[]}) scope.names).get? b=ξ o:=λb o e=>pushCells_keeps _ _ b o (AV _ e)
 have okc:=cellsFrom_ok scope.names (s.heap.push {cls:= .type "dict",data:= .dict #[]}) (s.heap.objs.size+1) [] ⟨λ_ _ hm=>(nomatch hm),List.Pairwise.nil⟩ (by rw [Heap.size_push];exact AS _)
 rw [Heap.size_push] at okc
 have cel:∀x c,(T7 scope s.heap.objs.size X.env).cells.lookup x=ξ c->((x,c)∈cellsFrom (s.heap.objs.size+1) scope.names []/\(x,NameKind.cell)∈scope.names/\s.heap.objs.size<c)\/(X.env.cells.lookup x=ξ c/\(x,NameKind.free)∈scope.names):=λx c e=>by
  have m:=PySem.mem_of_lookup e;have m:(x,c)∈cellsFrom (s.heap.objs.size+1) scope.names (a0J X.env.cells scope.names []):=m;rw [M4] at m;rcases Ax.mp m with m|m
  ·obtain⟨h1,h2⟩:=U9 m;exact .inl ⟨m,h2,h1⟩
  ·rcases a7P m with m|⟨m,e⟩
   ·exact nomatch m
   ·obtain⟨c',hc'⟩:=a28 I S m;rw [hc'] at e;exact .inr ⟨by rw [hc',e];rfl,m⟩
 have celLt:∀x c,X.env.cells.lookup x=ξ c->c<s.heap.objs.size:=λx c e=>let ⟨_,h⟩:=I.cell x c e;h.lt
 have fpLt:∀b∈fp,b<s.heap.objs.size:=λb hb=>let ⟨_,e,_⟩:=ho b hb;AU e
 have cellNo:∀x,(x,NameKind.cell)∉scope.names->(cellsFrom (s.heap.objs.size+1) scope.names []).lookup x=ζ:=λx hx=>b0b λc m=>hx (U9 m).2
 have look:∀x,(x,NameKind.free)∈scope.names->(T7 scope s.heap.objs.size X.env).cells.lookup x=X.env.cells.lookup x:=λx m=>by
  have hl:=K9 S.nd m;have hn:(x,NameKind.cell)∉scope.names:=λz=>by
   have:=K9 S.nd z;rw [hl] at this;cases this
  show(cellsFrom (s.heap.objs.size+1) scope.names (a0J X.env.cells scope.names [])).lookup x=_;rw [M4,a5K (cellNo x hn),a2S S.nd hl];obtain⟨c,hc⟩:=a28 I S m;rw [hc];rfl
 have kindF:∀x,scope.names.lookup x=ξ .free->X.env.kindOf x=ξ .cell\/X.env.kindOf x=ξ .free:=λx h=>S.fr _ (PySem.mem_of_lookup h) rfl
 refine⟨⟨I.mod,S.kind,I.ok.glob,I.ok.blt,AS _,λx y c h1 h2=> ?_,λx h=> ?_,λx c h1 h2=> ?_,I.ok.hd,I.ok.frames,.inl rfl,λb hb=> ?_,I.bs,Nat.le_trans I.ok.bsz I.sz,λb o e hb=> ?_,λb hb hz=> ?_,I.stack,I.stkFree⟩,
  rfl,I.bare,Un.kept up,⟨λ_=>ζ, ?_,λi x v h1 h2 h3=> ?_⟩,λx c e=> ?_,I.hok.fresh (AS _),λx c e=> ?_,λp hp=> ?_,I.hok.kept up, ?_⟩
 ·rcases cel x c h1 with⟨a1,b1,c1⟩|⟨a1,b1⟩
  ·rcases cel y c h2 with⟨a2,b2,c2⟩|⟨a2,b2⟩
   ·exact name_of_addr okc.apart a1 a2
   ·exact absurd (Nat.lt_trans c1 (celLt y c a2)) (Nat.lt_irrefl _)
  ·rcases cel y c h2 with⟨a2,b2,c2⟩|⟨a2,b2⟩
   ·exact absurd (Nat.lt_trans c2 (celLt x c a1)) (Nat.lt_irrefl _)
   ·exact I.ok.inj x y c a1 a2
 ·have hk:(T7 scope s.heap.objs.size X.env).kindOf x=ξ .cell\/(T7 scope s.heap.objs.size X.env).kindOf x=ξ .free:=h
  rw [a1g] at hk
  cases e:scope.names.lookup x with
  |none=>rw [e] at hk;rcases hk with z|z<;>cases z
  |some k=>
   rw [e] at hk
   have hk':k= .cell\/k= .free:=by
    by_cases c:(k==NameKind.free && X.env.scope.kind== .function && X.env.kindOf x==ξ .cell)=true
    ·have:(k==NameKind.free)=true:=by
      rw [Bool.and_eq_true,Bool.and_eq_true] at c;exact c.1.1
     exact .inr (by simpa using this)
    ·simp only [BA] at hk;rw [if_neg c] at hk;rcases hk with z|z
     ·cases z;exact .inl rfl
     ·cases z;exact .inr rfl
   rcases hk' with rfl|rfl
   ·have q:=PySem.W.cellsFrom_some (x:=x) scope.names (s.heap.objs.size+1) (a0J X.env.cells scope.names []) (.inl e)
    exact Option.isSome_iff_exists.mp q
   ·obtain⟨c,hc⟩:=a28 I S (PySem.mem_of_lookup e)
    exact⟨c,by show(T7 scope s.heap.objs.size X.env).cells.lookup x=_;rw [look x (PySem.mem_of_lookup e)];exact hc⟩
 ·rcases cel x c h2 with⟨_,_,c1⟩|⟨_,b1⟩
  ·exact BD c1
  ·have h1':(scope.names.lookup x==ξ .cell)=true:=h1
   rw [K9 S.nd b1] at h1'
   cases h1'
 ·refine⟨Af (fpLt b hb),λx c e z=> ?_⟩
  rcases cel x c e with⟨_,_,c1⟩|⟨a1,_⟩
  ·rw [z] at c1;exact absurd (Nat.lt_trans c1 (fpLt b hb)) (Nat.lt_irrefl _)
  ·exact(hf b hb).2.2.2.2.1 x c a1 z
 ·have hb:b∈fp:=hb
  rcases(hf b hb).2.2.2.1 with z|z
  ·exact I.ok.noex b o e z
  ·have h1:=(I.ok.bs b o e).1
   have:=AU h1
   exact absurd (Aq this z) (Nat.lt_irrefl _)
 ·have hb:b∈fp:=hb
  have hz:b∈frs X.stack:=hz
  rcases Ab.mp (I.stkSub b hz) with z|z
  ·exact(hf b hb).2.1 z
  ·exact(hf b hb).2.2.1 z
 ·exact(Heap.Ns.new s.heap (.type "dict")).keeps (pushCells_keeps _ _)
 ·have h1:(N0++ys)[i]?=ξ x:=h1
  rw [S.eq] at h1
  have hi:i<σ.length:=by
   by_cases hi:i<σ.length
   ·exact hi
   ·rw [List.getElem?_append_right (by lia),List.getElem?_replicate] at h2
    split at h2<;>cases h2
  rw [Aw hi] at h2
  rw [Aw (by rw [AW,<-I.len];exact hi),Ao] at h1
  have hvis:Vis (T7 scope s.heap.objs.size X.env).scope x:=h3
  have hkn:scope.names.lookup x=ζ->False:=λz=>by
   have hk:∀k,(T7 scope s.heap.objs.size X.env).kindOf x=ξ k->scope.names.lookup x≠ζ:=λk z e=>by
    rw [a1g,e] at z;cases z
   rcases hvis with e|e|e<;>exact absurd z (hk _ e)
  have h1:X.N[i]?=ξ x/\ys.contains x=false:=by
   cases e0:X.N[i]? with
   |none=>rw [e0] at h1;cases h1
   |some x0=>
    rw [e0] at h1;have h1:hid ys x0=x:=Option.some.inj h1;have ho:=S.ou x0 (BE e0);cases hc:ys.contains x0 with
    |true=>exact(hkn (by rw [<-h1];exact ho.1 hc)).elim
    |false=>
     have hx:x0=x:=by rw [<-h1];unfold hid;rw [if_neg (by rw [hc];exact Ac)]
     subst hx;exact⟨rfl,hc⟩
  obtain⟨h1,hys⟩:=h1
  have hfree:scope.names.lookup x=ξ .free:=by
   have hk:∀k,(T7 scope s.heap.objs.size X.env).kindOf x=ξ k->scope.names.lookup x≠ζ:=λk z e=>by
    rw [a1g,e] at z;cases z
   rcases(S.ou x (BE h1)).2 hys with z|z|z
   ·rcases hvis with e|e|e<;>exact absurd z (hk _ e)
   ·exact z
   ·have hg:(T7 scope s.heap.objs.size X.env).kindOf x=ξ .globalImplicit:=by
     rw [a1g,z];rfl
    rcases hvis with e|e|e
    ·have e:(T7 scope s.heap.objs.size X.env).kindOf x=ξ .local:=e;rw [hg] at e;cases e
    ·have e:(T7 scope s.heap.objs.size X.env).kindOf x=ξ .cell:=e;rw [hg] at e;cases e
    ·have e:(T7 scope s.heap.objs.size X.env).kindOf x=ξ .free:=e;rw [hg] at e;cases e
  obtain⟨m,hn,hl⟩:=I.loc
  have hv:Vis X.env.scope x:=by
   rcases kindF x hfree with z|z
   ·exact .inr (.inl z)
   ·exact .inr (.inr z)
  obtain⟨u,r,l⟩:=hl i x v h1 h2 hv
  refine⟨u,r, ?_⟩
  rcases l with⟨k,_⟩|⟨k,c,e,z⟩
  ·rcases kindF x hfree with q|q<;>rw [q] at k<;>cases k
  ·refine .inr ⟨?_,c,by show(T7 scope s.heap.objs.size X.env).cells.lookup x=_;rw [look x (PySem.mem_of_lookup hfree)];exact e,z.keeps up⟩
   show(T7 scope s.heap.objs.size X.env).kindOf x=ξ .cell\/(T7 scope s.heap.objs.size X.env).kindOf x=ξ .free
   rw [a1g,hfree]
   by_cases cc:((NameKind.free==NameKind.free)&& X.env.scope.kind== .function && X.env.kindOf x==ξ .cell)=true
   ·exact .inl (congrArg ξ (if_pos cc))
   ·exact .inr (congrArg ξ (if_neg cc))
 ·rcases cel x c e with⟨a1,_,_⟩|⟨a1,_⟩
  ·exact⟨ζ,(okc.empty x c a1).1⟩
  ·obtain⟨v,z⟩:=I.cell x c a1
   exact⟨v,z.keeps up⟩
 ·rcases cel x c e with⟨_,_,c1⟩|⟨a1,_⟩
  ·exact I.hok.fresh (BD c1)
  ·exact I.freeC x c a1
 ·have hp:p∈(X.pn++pins)++[]:=hp
  rw [Ag] at hp
  obtain⟨e,n,ne,nf,d⟩:=I.pin p hp
  refine⟨up _ _ e,n,Af (AU e),λhz=> ?_,d⟩
  have hz:p.1∈frs X.stack:=hz
  rcases Ab.mp (I.stkSub p.1 hz) with z|z
  ·exact ne z
  ·exact nf z
 ·show(σ++AQ ys.length ζ).length=(N0++ys).length
  rw [AY,List.length_replicate,AY,S.eq,AW,I.len]
def b9I(X:Cx)(pins:List (AB×Obj))(C:AB):Prop:=C≠X.env.locals/\X.s₀.heap.objs.size<=C/\(∀x c,X.env.cells.lookup x=ξ c->c≠C)/\∀p∈X.pn++pins,p.1≠C
theorem b2b{pos':Pos}{use:Option (AA->Sem Unit)}{QQ:AA->AD->Prop}(hx:∀e s,X.xe e s->False)(hc:X.calm=true)(S:T6 X.N N0 ys X.env scope)(hi:PI X tg iter wi)
 (hg:∀C fp pins s H,PG (K4 X N0 scope ys C fp pins s H) tg g) (ht:∀C fp pins s H,PCs (K4 X N0 scope ys C fp pins s H) ifs tc) (he:∀C fp pins s H,PE (K4 X N0 scope ys C fp pins s H) elt te)
 (hs:∀x,foldedSetIterable iter X.env x=pure x) {pins:List (AB×Obj)} {s:AD} {σ:St} {H:Hp} {Q:VK} (I:n3 X pins σ H s) (h:b70 wi g tc te ys.length σ H Q)
 (fin:∀D C s' H' m,n3 X pins σ H' s'->s'.heap.Ns C m->H' C=ζ->b9I X pins C->Q (.ref D) H'->compPost (model X.prog X.w) X.A X.xe use QQ (.ref D) C (.ok .next) s'):
 AH (model X.prog X.w) X.A (comprehension (.ListComp elt [⟨tg,iter,ifs,0⟩] scope pos) scope X.env pos' (newList []) false (eval iter X.env) use) QQ X.xe s:=by
 have hcl:closureFor scope X.env=pure (a0J X.env.cells scope.names []):=b08 λx hx' hk=>by
  obtain⟨c,e⟩:=a28 (ys:=ys) I S (x:=x.1) (by rw [<-hk];exact hx')
  rw [e];rfl
 refine wpAny_comprehension_free (use:=use) rfl hs hcl S.kind (λx hx' hk=>K9 S.nd (by rw [<-hk];exact hx')) (M8 (hi pins s σ H _ I h) λv s1 h1=>M8 h1 λitv s2 h2=> ?_)
 obtain⟨it,fp,tn,J,H2,e,I2,T,st2,f2,hW⟩:=h2
 subst e
 have hfr:=I2.hok.fresh (AS _)
 obtain⟨W,⟨m0,w0⟩,turn⟩:=hW s2.heap.objs.size hfr
 have fpLt:∀b∈fp,b<s2.heap.objs.size:=λb hb=>let ⟨_,e,_⟩:=T.obj _ _ st2 b hb;AU e
 refine wpAny_newObj_type ?_
 have I3:n3 X pins σ (B9 H2 s2.heap.objs.size (.lst [])) {s2 with heap:=s2.heap.push {cls:= .type "list",data:= .seq ([]:List AA).toArray}}:=
  I2.laid (t':=s2.toks) (λb o e=>AV _ e) (AS _) ⟨by decide,[],0,.nil,Ae _ rfl⟩
 have up3:∀b o,s2.heap.get? b=ξ o->(s2.heap.push {cls:= .type "list",data:= .seq ([]:List AA).toArray}).get? b=ξ o:=λb o e=>AV _ e
 have st3:tn 0 (s2.heap.push {cls:= .type "list",data:= .seq ([]:List AA).toArray}):=T.keep _ _ _ st2 λb _ o e=>up3 b o e
 have f3:∀b∈fp,a5W X pins (B9 H2 s2.heap.objs.size (.lst [])) b:=λb hb=>⟨by rw [l8 (Af (fpLt b hb))];exact(f2 b hb).1,(f2 b hb).2⟩
 generalize hs3:({s2 with heap:=s2.heap.push {cls:= .type "list",data:= .seq ([]:List AA).toArray}}:AD)=s3 at I3
 have hs3h:s3.heap=s2.heap.push {cls:= .type "list",data:= .seq ([]:List AA).toArray}:=by rw [<-hs3]
 rw [<-hs3h] at st3 up3
 refine a5r ?_
 have I4:=b6c S I3 f3 (T.obj _ _ st3)
 generalize hs4:({s3 with heap:=pushCells (s3.heap.push {cls:= .type "dict",data:= .dict #[]}) scope.names}:AD)=s4 at I4 ⊢
 have hs4h:s4.heap=pushCells (s3.heap.push {cls:= .type "dict",data:= .dict #[]}) scope.names:=by rw [<-hs4]
 have st4:tn 0 s4.heap:=T.keep _ _ _ st3 λb _ o e=>by rw [hs4h];exact pushCells_keeps _ _ b o (AV _ e)
 generalize hX:K4 X N0 scope ys s3.heap.objs.size fp pins s3 (B9 H2 s2.heap.objs.size (.lst []))=Y at I4
 have Yp:Y.prog=X.prog:=by rw [<-hX];rfl
 have Yw:Y.w=X.w:=by rw [<-hX];rfl
 have YK:Y.K=X.K:=by rw [<-hX];rfl
 have YA:Y.A=X.A:=by rw [<-hX];rfl
 have Yc:Y.calm=true:=by rw [<-hX];exact hc
 have Yx:Y.xe=X.xe:=by rw [<-hX];rfl
 have YL:Y.env.locals=s3.heap.objs.size:=by rw [<-hX];rfl
 have Yf:Y.fs=frs X.stack:=by rw [<-hX];rfl
 have Ye:Y.ex=fp:=by rw [<-hX];rfl
 have Yn:Y.pn=X.pn++pins:=by rw [<-hX];rfl
 have Ys:Y.s₀=s3:=by rw [<-hX];rfl
 have YH:Y.H₀=B9 H2 s2.heap.objs.size (.lst []):=by rw [<-hX];rfl
 have YE:Y.env=T7 scope s3.heap.objs.size X.env:=by rw [<-hX];rfl
 have hgY:PG Y tg g:=by rw [<-hX];exact hg _ _ _ _ _
 have htY:PCs Y ifs tc:=by rw [<-hX];exact ht _ _ _ _ _
 have heY:PE Y elt te:=by rw [<-hX];exact he _ _ _ _ _
 have nlen:(σ++AQ ys.length ζ).length=Y.N.length:=I4.len
 have exf:=I4.ok.exf
 have exfs:=I4.ok.exfs
 have stat:∀{H':Hp},(∀b∈fp,H' b=ζ)->∀b∈fp,a5W Y [] H' b:=λ {H'} hn b hb=>by
  have hb':b∈Y.ex:=by rw [Ye];exact hb
  refine⟨hn b hb,(exf b hb').1,exfs b hb',.inl hb',(exf b hb').2,λp hp=> ?_⟩;rw [Ag,Yn] at hp;exact(f2 b hb).2.2.2.2.2 p hp
 have TY:b4r Y.prog Y.w Y.K tg J fp it tn:=by rw [Yp,Yw,YK];exact T
 have noX:∀e s,Y.xe e s->False:=λe s h=>hx e s (by rw [<-Yx];exact h)
 have loop:∀R:Result->AD->Prop,(∀s' H' m,n3 X pins σ H' s'->s'.heap.Ns s3.heap.objs.size m->H' s3.heap.objs.size=ζ->b9I X pins s3.heap.objs.size->Q (.ref s2.heap.objs.size) H'->R (.ok .next) s')->
  codeAny (model X.prog X.w) X.A (.compLoop (.ListComp elt [⟨tg,iter,ifs,0⟩] scope pos) 0 (.ref it) (.ref s2.heap.objs.size) (T7 scope s3.heap.objs.size X.env)) R s4:=by
  intro R hR
  refine a5n (λn s'=>∃i xs H' σ',n3 Y [] σ' H' s'/\(∀(j:Nat) v,(σ++AQ ys.length ζ)[j]?=ξ (ξ v)->σ'[j]?=ξ (ξ v))/\tn i s'.heap/\(∀b∈fp,H' b=ζ)/\H' s2.heap.objs.size=ξ (.lst xs)/\W i n xs H') ?_ m0
   ⟨0,[],_,_,I4,λ_ _ e=>e,st4,λb hb=>(f3 b hb).1,r9,w0⟩
  rintro n s5 ⟨i,xs,H5,σ5,I5,k5,st5,fr5,hD5,w5⟩
  have I5:n3 Y [] (σ++AQ ys.length ζ) H5 s5:=I5.weak (by rw [nlen,I5.len]) k5
  rw [<-Yp,<-Yw,<-YA]
  rcases turn i n xs H5 w5 hD5 with⟨stop,q⟩|⟨go,step⟩
  ·refine wpAny_mono (TY.done Y rfl rfl rfl Yc i [] s5 _ H5 (λ_ _=>False) I5 (stat fr5) st5 stop) (λr s6 ⟨hr,I6⟩=> ?_) λ_ _ z=>z
   subst hr
   obtain⟨m,hn,_⟩:=I6.loc
   have un:=I6.base
   rw [Yf,Ye,Ys,YH] at un
   rw [YL] at hn
   have hfC:=I6.free
   rw [YL] at hfC
   refine hR s6 H5 m (I3.call' (ch:=fp) (by rw [I6.os,Ys]) un (by have z:=I6.hok;rw [Yp,Yw] at z;exact z) I6.bare λb hb=>⟨(f3 b hb).2.2.2.1,(f3 b hb).2.1,(f3 b hb).2.2.2.2.1,(f3 b hb).2.2.2.2.2⟩) hn hfC ⟨Nat.ne_of_gt I3.lt,I3.sz,λx c e=> ?_,λp hp=> ?_⟩ q
   ·obtain⟨v,z⟩:=I3.cell x c e
    exact Af z.lt
   ·exact Af (AU (I3.pin p hp).1)
  ·refine wpAny_mono (TY.item Y rfl rfl rfl Yc i [] s5 _ H5 (λ_ _=>False) I5 (stat fr5) st5 go) (λr s6 ⟨u,hr,h6⟩=> ?_) λ_ _ z=>z
   subst hr
   dsimp only
   refine wpAny_mono h6 (λ_ s7 ⟨x,H7,I7,r7,y7,st7,fr7⟩=> ?_) λ_ _ z=>z
   have I7':=I7.pinned (stat fr7) (T.obj _ _ st7)
   rw [<-YE]
   have keepT:∀{σ8:St} {H8:Hp} {s8:AD},n3 Y ([]++b0v fp s7.heap) σ8 H8 s8->tn (i+1) s8.heap/\∀b∈fp,H8 b=ζ:=λ {σ8 H8 s8} I8=>by
    refine⟨T.keep _ _ _ st7 λb hb o e=>(I8.pin (b,o) (At _ (At _ (a3c hb e)))).1,λb hb=> ?_⟩;obtain⟨o,e,d⟩:=T.obj _ _ st7 b hb;exact(I8.pin (b,o) (At _ (At _ (a3c hb e)))).2.1
   refine wpAny_mono (hgY _ s7 _ H7 x u _ I7' r7 (step x H7 y7)) (λ_ s8 h0=>v9 h0 λσ8 H8 I8 k8 q8=> ?_) λe s z=>noX e s z
   refine wpAny_mono (htY _ s8 σ8 H8 _ I8 q8) (λb s9 ⟨H9,I9,q9⟩=> ?_) λe s z=>noX e s z
   cases b with
   |false=>
    rw [if_neg Ac] at q9 ⊢
    obtain⟨hD9,m',lt,w9⟩:=q9
    obtain⟨t9,n9⟩:=keepT I9
    exact⟨m',lt,i+1,xs,H9,σ8,I9.pins_of (λp hp=>nomatch hp),k8,t9,n9,hD9,w9⟩
   |true=>
    rw [if_pos rfl] at q9 ⊢
    refine wpAny_mono (heY _ s9 σ8 H9 _ I9 q9) (λy s10 ⟨v,H10,I10,r10,hD10,hz,m',lt,w10⟩=> ?_) λe s z=>noX e s z
    refine wpAny_mono (b2u _ s10 σ8 H10 (.ref s2.heap.objs.size) [v] (.ref s2.heap.objs.size) [y] (λ_ H'=>H'=B9 H10 s2.heap.objs.size (.lst (xs++[v]))) I10 rfl (.cons r10 .nil) ⟨_,xs,v,rfl,rfl,hD10,hz,rfl⟩) (λ_ s11 h0=>v9 h0 λ_ H11 I11 _ e11=> ?_) λe s z=>noX e s z
    subst e11
    obtain⟨t11,n11⟩:=keepT I11
    exact⟨m',lt,i+1,xs++[v],_,σ8,I11.pins_of (λp hp=>nomatch hp),k8,t11,n11,r9,w10⟩
 show codeAny _ _ (.compStart _ 0 _ _ (T7 scope s3.heap.objs.size X.env)) _ _
 refine codeAny_compStart_list (loop _ λs' H' m a b c d e=>fin _ _ s' H' m a b c d e) (T.self _ 0 _ _ _ st4 (loop _ λs' H' m a b c d e=>fin _ _ s' H' m a b c d e))
theorem b7L(hx:∀e s,X.xe e s->False)(hc:X.calm=true)(S:T6 X.N N0 ys X.env scope)(hi:PI X tg iter wi)
 (hg:∀C fp pins s H,PG (K4 X N0 scope ys C fp pins s H) tg g) (ht:∀C fp pins s H,PCs (K4 X N0 scope ys C fp pins s H) ifs tc) (he:∀C fp pins s H,PE (K4 X N0 scope ys C fp pins s H) elt te)
 (hs:∀x,foldedSetIterable iter X.env x=pure x:=by intro _;rfl):PE X (.ListComp elt [⟨tg,iter,ifs,0⟩] scope pos) (b70 wi g tc te ys.length):=by
 intro pins s σ H Q I h
 rw [eval_ListComp]
 refine b2b hx hc S hi hg ht he hs I h λD C s' H' m I' hn hC gone q=>⟨m,hn,λh' hs'=>⟨.ref D,H', ?_,rfl,q⟩⟩
 obtain⟨g1,g2,g3,g4⟩:=gone
 exact I'.turned (t':=s'.toks) (λb o hb e=>hs'.extBut b o hb e) hC g1 (.inr g2) g3 g4
theorem c3j{i:Nat}{y:Str}{py spos:Pos}(hx:∀e s,X.xe e s->False)(hc:X.calm=true)(S:T6 X.N N0 ys X.env scope)(hi:PI X tg iter wi)
 (hg:∀C fp pins s H,PG (K4 X N0 scope ys C fp pins s H) tg g) (ht:∀C fp pins s H,PCs (K4 X N0 scope ys C fp pins s H) ifs tc) (he:∀C fp pins s H,PE (K4 X N0 scope ys C fp pins s H) elt te)
 (hN:X.N.Nodup) (hiy:X.N[i]?=ξ y) (hy:X.env.scope.names.lookup y=ξ .local)
 (hsw:swapsWith (.ListComp elt [⟨tg,iter,ifs,0⟩] scope pos) (ξ (.Name y py)) spos.line X.env=pure true)
 (hs:∀x,foldedSetIterable iter X.env x=pure x:=by intro _;rfl):PS X (.Assign [.Name y py] (.ListComp elt [⟨tg,iter,ifs,0⟩] scope pos) spos) (λD σ H=>b70 wi g tc te ys.length σ H λv H'=>D.nx (σ.set i (ξ v)) H'):=by
 intro pins s σ H D I h
 rw [exec_Assign_Name_used _ _ _ _ hsw]
 refine AF (wpAny_standAt (AF ?_))
 show AH _ X.A (do let _<-comprehension (.ListComp elt [⟨tg,iter,ifs,0⟩] scope pos) scope X.env _ (newList []) false (eval iter X.env) (ξ (assign (.Name y py) X.env))) _ _ s
 refine AF (wpAny_mono (b2b (QQ:=λ_ s'=>SP X pins D .next s') hx hc S hi hg ht he hs I h λL C s' H' m I' hn hC gone q=> ?_) (λ_ s' hq=>AR (AR hq)) λ_ _ e=>e)
 obtain⟨g1,g2,g3,g4⟩:=gone
 show AH _ X.A (assign (.Name y py) X.env (.ref L)) _ _ _
 refine wpAny_assign_Name (b2N (v:= .ref L) I' hN hiy (.inl hy) rfl (λs2 I2 ⟨a,sb,ha⟩=> ?_) (.inr hy))
 have hCa:C≠a:=by
  rcases ha with z|z
  ·rw [z];exact g1
  ·exact λe=>g3 y a z e.symm
 refine⟨m,hn.sameBut sb hCa,λh' hs'=>⟨_,H',I2.turned (t':=s2.toks) (λb o hb e=>hs'.extBut b o hb e) hC g1 (.inr g2) g3 g4,q⟩⟩
end
end L2
namespace PU
open PySem PySem.Spec PyProof.Rows L2
def a3x(c:MT)(elt:M)(tg:PV->c5->Option c5)(ρ:c5):List PV->Option (List PV)
 |[]=>ξ []
 |p::ps=>(tg p ρ).bind λρ1=>(c ρ1).bind λb=>if b=true then((elt ρ1).bind d7.toVal).bind λq=>(a3x c elt tg ρ ps).bind λr=>ξ (q::r) else a3x c elt tg ρ ps
def N8:MT:=λ_=>ξ true
def F9(k:Nat)(it:MI)(tg:PV->c5->Option c5)(c:MT)(elt:M):M:=λρ=>(it ρ).bind λps=>if ps.length<=AM then(a3x c elt tg (ρ++AQ k ζ) ps).bind λr=>ξ (.own r) else ζ
def a5y(K:AE)(n:Nat)(g:TG)(tg:PV->c5->Option c5):Prop:=
 ∀F H σ ρ ρ1 p x (Q:L2.St->Hp->Prop),J4 K F H σ ρ->L3 K F p x->tg p ρ=ξ ρ1->(∀σ',J4 K F H σ' ρ1->(∀(j:Nat),j<n->σ'[j]?=σ[j]?)->Q σ' H)->g x σ H Q
theorem J4.set{K:AE}{F H:Hp}{σ:L2.St}{ρ:c5}{p:PV}{x:V}(e:J4 K F H σ ρ)(r:L3 K F p x)(i:Nat):J4 K F H (σ.set i (ξ x)) (ρ.set i (ξ (.v p))):=by
 refine⟨e.fh,by simp [e.len],λj q h=> ?_,λj ps h=> ?_,λj k ps qs a hjk h1 h2 h3 h4=> ?_⟩
 ·rw [List.getElem?_set] at h ⊢
  by_cases hij:i=j
  ·subst hij;rw [if_pos rfl] at h ⊢;rw [e.len];split at h
   ·rename_i c;cases h;rw [if_pos c];exact⟨x,rfl,r⟩
   ·cases h
  ·rw [if_neg hij] at h ⊢;exact e.at_ j q h
 ·rw [List.getElem?_set] at h
  by_cases hij:i=j
  ·subst hij;rw [if_pos rfl] at h;split at h<;>cases h
  ·rw [if_neg hij] at h;exact e.nb j ps h
 ·have get:∀(j:Nat) (ps:a06),(ρ.set i (ξ (d7.v p)))[j]?=ξ (ξ (d7.ow ps))->i≠j/\ρ[j]?=ξ (ξ (d7.ow ps)):=λj ps h=>by
   rw [List.getElem?_set] at h
   by_cases hij:i=j
   ·subst hij;rw [if_pos rfl] at h;split at h<;>cases h
   ·rw [if_neg hij] at h;exact⟨hij,h⟩
  obtain⟨n1,h1⟩:=get j ps h1;obtain⟨n2,h2⟩:=get k qs h2;rw [List.getElem?_set_ne n1] at h3;rw [List.getElem?_set_ne n2] at h4;exact e.ap j k ps qs a hjk h1 h2 h3 h4
theorem z7{K:AE}{n i:Nat}(h:n<=i):a5y K n (b4V i) (j6 i):=λF H σ ρ ρ1 p x Q e r q k=>by
 cases q;exact k _ (e.set r i) λj hj=>by rw [List.getElem?_set_ne (by lia)]
theorem J4.setAll{K:AE}{F H:Hp}{n:Nat}:∀{is:List Nat} {xs:List V} {ps:List PV} {σ:L2.St} {ρ:c5},(∀i∈is,n<=i)->J4 K F H σ ρ->n8 K F ps xs->J4 K F H (PU.setAll σ is xs) (PU.setAll ρ is (ps.map .v))/\∀(j:Nat),j<n->(PU.setAll σ is xs)[j]?=σ[j]?
 |[],xs,ps,σ,ρ,_,s,r=>by
  have e1:PU.setAll σ [] xs=σ:=by cases xs<;>rfl
  have e2:PU.setAll ρ [] (ps.map d7.v)=ρ:=by cases ps<;>rfl
  rw [e1,e2];exact⟨s,λ_ _=>rfl⟩
 |i::is,xs,[],σ,ρ,_,s,r=>by cases r;exact⟨s,λ_ _=>rfl⟩
 |i::is,xs,p::ps,σ,ρ,h,s,⟨v,t,e,rp,rl⟩=>by
  subst e;obtain⟨h1,h2⟩:=J4.setAll (is:=is) (n:=n) (λj hj=>h j (Aa _ hj)) (s.set rp i) rl;refine⟨h1,λj hj=> ?_⟩;have hi:=h i AZ;show(PU.setAll (σ.set i (ξ v)) is t)[j]?=_;rw [h2 j hj,List.getElem?_set_ne (by lia)]
theorem b9w{K:AE}{n:Nat}(is:List Nat)(h:∀i∈is,n<=i):a5y K n (c4G K is.length (b3p is)) (a7K is):=λF H σ ρ ρ1 p x Q e r q k=>by
 unfold a7K at q;split at q
 ·split at q
  ·rename_i c;cases q;obtain⟨a,xs,rfl,hq,rl⟩:=r;have hl:xs.length=is.length:=by rw [rl.length];exact c
   obtain⟨h1,h2⟩:=e.setAll h rl;exact⟨a,xs,rfl,w4 e.fh hq.sq,hl,a70 hl (k _ h1 h2)⟩
  ·cases q
 ·cases q
theorem J4.more{K:AE}{F H:Hp}{σ:L2.St}{ρ:c5}(e:J4 K F H σ ρ)(k:Nat):J4 K F H (σ++AQ k ζ) (ρ++AQ k ζ):=by
 have key:∀(j:Nat) (q:d7),(ρ++AQ k ζ)[j]?=ξ (ξ q)->ρ[j]?=ξ (ξ q)/\(σ++AQ k ζ)[j]?=σ[j]?:=λj q h=>by
  by_cases hj:j<ρ.length
  ·rw [Aw hj] at h;rw [Aw (by rw [e.len];exact hj)]
   exact⟨h,rfl⟩
  ·rw [List.getElem?_append_right (by lia),List.getElem?_replicate] at h
   split at h<;>cases h
 refine⟨e.fh,by simp [e.len],λj q h=> ?_,λj ps h=>e.nb j ps (key j _ h).1,λj k' ps qs a hjk h1 h2 h3 h4=> ?_⟩
 ·obtain⟨h1,h2⟩:=key j q h;rw [h2];exact e.at_ j q h1
 ·obtain⟨a1,b1⟩:=key j _ h1;obtain⟨a2,b2⟩:=key k' _ h2;rw [b1] at h3;rw [b2] at h4;exact e.ap j k' ps qs a hjk a1 a2 h3 h4
def WC(K:AE)(F H:Hp)(D:AB)(c:MT)(elt:M)(tg:PV->c5->Option c5)(ρ:c5)(ps r:List PV)(i m:Nat)(xs:List V)(H':Hp):Prop:=
 ∃F' done rest,i<=ps.length/\m=ps.length - i/\Ext F H F' H'/\F' D=ζ/\n8 K F' done xs/\done.length<=i/\a3x c elt tg ρ (ps.drop i)=ξ rest/\done++rest=r
theorem b8n{K:AE}{F H:Hp}{D:AB}{c:MT}{elt:M}{tg:PV->c5->Option c5}{g:TG}{σ:L2.St}{ρ:c5}{k:Nat}{ps r:List PV}{i m:Nat}{xs:List V}{H':Hp}{p:PV}{x:V}
 (T:a5y K ρ.length g tg) (en:J4 K F H σ ρ) (hD:H D=ζ) (hsz:ps.length<=AM) (W:WC K F H D c elt tg (ρ++AQ k ζ) ps r i m xs H') (hx:H' D=ξ (.lst xs)) (ep:ps[i]?=ξ p) (rx:L3 K F p x):
 g x (σ++AQ k ζ) H' λσ4 H4=>(∀(j:Nat) v,(σ++AQ k ζ)[j]?=ξ (ξ v)->σ4[j]?=ξ (ξ v))/\tMT K c σ4 H4 λb H5=>if b=true then tM K elt σ4 H5 λv H6=>H6 D=ξ (.lst xs)/\xs.length<AM/\∃m',m'<m/\WC K F H D c elt tg (ρ++AQ k ζ) ps r (i+1) m' (xs++[v]) (B9 H6 D (.lst (xs++[v])))
  else H5 D=ξ (.lst xs)/\∃m',m'<m/\WC K F H D c elt tg (ρ++AQ k ζ) ps r (i+1) m' xs H5:=by
 obtain⟨F',done,rest,hi,hm,ex,fD,rl,dl,hc,hr⟩:=W
 have hk:i<ps.length:=(Aj.mp ep).1
 have hd:ps.drop i=p::ps.drop (i+1):=by
  rw [List.drop_eq_getElem_cons hk]
  congr 1
  exact(Aj.mp ep).2
 rw [hd] at hc
 unfold a3x at hc
 obtain⟨ρ1,e1,hc⟩:=bind_some hc
 obtain⟨b,e2,hc⟩:=bind_some hc
 have en':=(en.ext ex).more k
 refine T F' H' _ _ ρ1 p x _ en' (L3.mono ex.f _ rx) e1 λσ4 en4 keep=>⟨λj v e=> ?_, ?_⟩
 ·by_cases hj:j<ρ.length
  ·rw [keep j hj];exact e
  ·rw [List.getElem?_append_right (by rw [en.len];lia),List.getElem?_replicate] at e
   split at e<;>cases e
 refine⟨F',ρ1,b,en4,e2,λF5 H5 x5=> ?_⟩
 have ex5:=ex.trans x5
 have fD5:F5 D=ζ:=x5.nw D _ fD hx (λ_ h=>nomatch h)
 cases b with
 |false=>
  rw [if_neg Ac] at hc
  refine b6u ⟨x5.h _ _ hx,ps.length - (i+1),by lia,F5,done,rest,by lia,rfl,ex5,fD5,n8.mono x5.f _ rl,by lia,hc,hr⟩
 |true=>
  rw [if_pos rfl] at hc
  obtain⟨q,e3,hc⟩:=bind_some hc
  obtain⟨rt,e4,hc⟩:=bind_some hc
  cases hc
  obtain⟨re,e5,e6⟩:=bind_some e3
  refine b6v ⟨F5,ρ1,re,en4.ext x5,e5,λv F6 H6 o6=> ?_⟩
  obtain⟨F7,o7⟩:=o6.toVal e6
  have hx6:H6 D=ξ (.lst xs):=o6.x.h _ _ (x5.h _ _ hx)
  have fD7:F7 D=ζ:=o7.x.nw D _ fD5 (x5.h _ _ hx) (λ_ h=>nomatch h)
  have ex7:=ex5.trans o7.x
  have hlen:=rl.length
  refine⟨hx6,by lia,ps.length - (i+1),by lia,F7,done++[q],rt,by lia,rfl,⟨ex7.f,λa o z=> ?_,λa o z=> ?_,ex7.nw,ex7.nf⟩,fD7,n8.append (n8.mono (x5.f.trans o7.x.f) _ rl) ⟨v,[],rfl,o7.rep,rfl⟩,by simp;lia,e4,by rw [List.append_assoc];exact hr⟩
  ·rw [l8 (m5 z hD)];exact ex7.h _ _ z
  ·rw [l8 (m5 z fD7)];exact ex7.fh _ _ z
theorem b4F{K:AE}{F H:Hp}{D:AB}{c:MT}{elt:M}{tg:PV->c5->Option c5}{ρ:c5}{ps r:List PV}{m:Nat}{xs:List V}{H':Hp}(hD:H D=ζ)(W:WC K F H D c elt tg ρ ps r ps.length m xs H')(hx:H' D=ξ (.lst xs)):∃F',B2 K F H F' H' (.ref D) (.own r):=by
 obtain⟨F',done,rest,hi,hm,ex,fD,rl,dl,hc,hr⟩:=W;rw [List.drop_length] at hc;cases hc;rw [Ag] at hr;subst hr;exact⟨F',ex,⟨D,xs,rfl,fD,hx,rl⟩,λ_ _ _ e=>by cases e;exact hD⟩
structure Src(K:AE)(F0 F H:Hp)(J:It)(ps:List PV):Prop where
 st:∀i H',u4 H H'->ps.length<=i->J.stop i H'
 go:∀i p H',u4 H H'->ps[i]?=ξ p->J.go i H'
 yd:∀i p x H' H'',u4 H H'->ps[i]?=ξ p->J.yld i H' x H''->H''=H'/\L3 K F p x
def SI(K:AE)(mi:MI)(wi:TI):Prop:=∀F H σ ρ ps (R:It->Hp->Prop),J4 K F H σ ρ->mi ρ=ξ ps->(∀F1 H1 J,Ext F H F1 H1->Src K F F1 H1 J ps->R J H1)->wi σ H R
abbrev EI(X:Cx)(tg iter:AG)(mi:MI):Prop:=∃wi,PI X tg iter wi/\SI X.K mi wi
section
variable {X:Cx}{tg:AG}
def v0(m:M):MI:=λρ=>(m ρ).bind λr=>PyData.items? r.rd
theorem X9{l:AG}{m:M}(h:EE X l m):EI X tg l (v0 m):=⟨_,c1p h,λF H σ ρ ps R en e k=>by
 obtain⟨r,e1,e2⟩:=bind_some e;refine⟨F,ρ,r,en,e1,λv F1 H1 o1=> ?_⟩;obtain⟨a,xs,rfl,hq,rl⟩:=a04 o1.x.fh o1.rep e2;have hlen:=rl.length;rcases hq with hq|hq
 ·refine⟨a,rfl,.inl ⟨⟨xs,hq⟩,k F1 H1 _ o1.x ⟨λi H2 s h=>⟨xs,L1 s hq,by lia⟩,λi p H2 s h=> ?_,λi p x H2 H3 s h y=> ?_⟩⟩⟩
  ·obtain⟨v,ev,_⟩:=rl.get h;exact⟨xs,v,L1 s hq,ev⟩
  ·obtain⟨v,ev,rv⟩:=rl.get h;obtain⟨e,y⟩:=y;have:=y xs (L1 s hq);rw [ev] at this;cases this;exact⟨e,rv⟩
 ·refine⟨a,rfl,.inr ⟨⟨xs,hq⟩,k F1 H1 _ o1.x ⟨λi H2 s h=>⟨xs,w4 s hq,by lia⟩,λi p H2 s h=> ?_,λi p x H2 H3 s h y=> ?_⟩⟩⟩
  ·obtain⟨v,ev,_⟩:=rl.get h;exact⟨xs,v,w4 s hq,ev⟩
  ·obtain⟨v,ev,rv⟩:=rl.get h;obtain⟨e,y⟩:=y;have:=y xs (w4 s hq);rw [ev] at this;cases this;exact⟨e,rv⟩⟩
theorem c3u{K:AE}{F0 F H:Hp}{lo hi:Int}:Src K F0 F H (Itr lo (hi - lo).toNat) (a1E lo hi):=by
 have hl:=a4F lo hi;refine⟨λi H2 s h=> ?_,λi p H2 s h=> ?_,λi p x H2 H3 s h y=> ?_⟩
 ·show(hi - lo).toNat<=i;lia
 ·have:=(Aj.mp h).1;show i<(hi - lo).toNat;lia
 ·have hi':=(Aj.mp h).1;rw [a7x (by lia)] at h
  cases h;obtain⟨e,y⟩:=y;exact⟨e,y⟩
theorem b7k{a:AG}{m:MA}{p rp:Pos}(hgl:Gl X "range")(hm:X.mg "range"=ζ)(ha:EA X [a] m)(hst:AL [a] X.env=[(false,eval a X.env)]:=by rfl):EI X tg (.Call (.Name "range" p) [a] [] rp) (M1 m):=⟨_,b2x hgl hm ha hst,λF H σ ρ ps R en e k=>by
 obtain⟨qs,e1,e2⟩:=bind_some e;refine⟨F,ρ,qs,en,e1,λvs F1 H1 x rl=> ?_⟩;split at e2
 ·rename_i j;split at e2
  ·rename_i c;have c:=a29.mp c;cases e2;obtain⟨v,r,rfl,rv,rr⟩:=rl;cases rv;cases rr;have hz:(j - 0).toNat=j.toNat:=by lia
   refine⟨j,rfl,c.1,c.2,k F1 H1 _ x ?_⟩;have z:=c3u (K:=X.K) (F0:=F) (F:=F1) (H:=H1) (lo:=0) (hi:=j);rw [hz] at z;exact z
  ·cases e2
 ·cases e2⟩
abbrev EC(X:Cx)(ifs:List AG)(c:MT):Prop:=PCs X ifs (tMT X.K c)
theorem R3:EC X [] N8:=λpins s σ H Q I ⟨F,ρ,b,en,e,k⟩=>by
 cases e;exact c3a pins s σ H Q I (k F H (Ext.refl en.fh))
theorem c4s{c:AG}{mc:MT}(h:ET X c mc):EC X [c] mc:=c3b h
theorem b2c{mi:MI}{wi:TI}{g:TG}{c:MT}{elt:M}{t:PV->c5->Option c5}{N:List Str}{k:Nat}(hi:SI X.K mi wi)(T:∀n,n=N.length->a5y X.K n g t){σ:L2.St}{H:Hp}{Q:VK}(hl:σ.length=N.length)(h:tM X.K (F9 k mi t c elt) σ H Q):b70 wi g (tMT X.K c) (tM X.K elt) k σ H Q:=by
 obtain⟨F,ρ,r,en,e,kk⟩:=h;obtain⟨ps,e1,e⟩:=bind_some e;split at e
 ·rename_i hsz;obtain⟨rs,e2,e⟩:=bind_some e;cases e;refine hi F H σ ρ ps _ en e1 λF1 H1 J x1 S D hD=> ?_;have en1:=en.ext x1;have T':a5y X.K ρ.length g t:=T _ (by rw [<-en.len,hl])
  refine⟨WC X.K F1 H1 D c elt t (ρ++AQ k ζ) ps rs,⟨ps.length,F1,[],rs,Nat.zero_le _,rfl,Ext.layH x1.fh hD,x1.fh.free hD,rfl,AS _,e2,rfl⟩,λi m xs H2 W hx=> ?_⟩;have W':=W;obtain⟨F',done,rest,hi',hm,ex,fD,rl,dl,hc,hr⟩:=W';have sF:u4 H1 H2:=ex.h
  by_cases hlt:i<ps.length
  ·refine .inr ⟨S.go i ps[i] H2 sF (by simp [hlt]),λx H3 y=> ?_⟩
   obtain⟨e3,rx⟩:=S.yd i ps[i] x H2 H3 sF (by simp [hlt]) y
   subst e3;exact b8n T' en1 hD hsz W hx (by simp [hlt]) rx
  ·have e3:i=ps.length:=by lia
   subst e3;refine .inl ⟨S.st _ H2 sF (AS _), ?_⟩;obtain⟨F2,o⟩:=b4F hD W hx;exact kk _ F2 H2 (B2.trans x1 o)
 ·cases e
theorem S6{elt iter:AG}{ifs:List AG}{scope:Scope}{N0 ys:List Str}{mi:MI}{g:TG}{c:MT}{m:M}{t:PV->c5->Option c5}{pos:Pos}(hx:∀e s,X.xe e s->False)(hc:X.calm=true)(S:T6 X.N N0 ys X.env scope)(hi:EI X tg iter mi)
 (hg:∀C fp pins s H,PG (K4 X N0 scope ys C fp pins s H) tg g) (T:∀n,n=X.N.length->a5y X.K n g t) (ht:∀C fp pins s H,EC (K4 X N0 scope ys C fp pins s H) ifs c) (he:∀C fp pins s H,EE (K4 X N0 scope ys C fp pins s H) elt m)
 (hs:∀x,foldedSetIterable iter X.env x=pure x:=by intro _;rfl):EE X (.ListComp elt [⟨tg,iter,ifs,0⟩] scope pos) (F9 ys.length mi t c m):=by
 obtain⟨wi,h1,h2⟩:=hi
 intro pins s σ H Q I h
 exact b7L hx hc S h1 hg ht he hs pins s σ H Q I (b2c (N:=X.N) h2 T I.len h)
theorem a9b{i:Nat}{y:Str}{elt iter:AG}{ifs:List AG}{scope:Scope}{N0 ys:List Str}{mi:MI}{g:TG}{c:MT}{m:M}{t:PV->c5->Option c5}{pos py spos:Pos}(hN:X.N.Nodup)(hx:∀e s,X.xe e s->False)(hc:X.calm=true)(S:T6 X.N N0 ys X.env scope)(hi:EI X tg iter mi)
 (hg:∀C fp pins s H,PG (K4 X N0 scope ys C fp pins s H) tg g) (T:∀n,n=X.N.length->a5y X.K n g t) (ht:∀C fp pins s H,EC (K4 X N0 scope ys C fp pins s H) ifs c) (he:∀C fp pins s H,EE (K4 X N0 scope ys C fp pins s H) elt m)
 (hiy:X.N[i]?=ξ y:=by rfl) (hy:X.env.scope.names.lookup y=ξ .local:=by rfl) (hsw:swapsWith (.ListComp elt [⟨tg,iter,ifs,0⟩] scope pos) (ξ (.Name y py)) spos.line X.env=pure true:=by rfl)
 (hs:∀x,foldedSetIterable iter X.env x=pure x:=by intro _;rfl):ES X (.Assign [.Name y py] (.ListComp elt [⟨tg,iter,ifs,0⟩] scope pos) spos) (p0 i (F9 ys.length mi t c m)):=by
 obtain⟨wi,h1,h2⟩:=hi
 intro pins s σ H D I ⟨F0,H0,F,ρ,fl,so,e,fin⟩
 obtain⟨r,e1,e⟩:=bind_some e
 split at e
 ·rename_i c
  cases e
  exact c3j hx hc S h1 hg ht he hN hiy hy hsw hs pins s σ H D I (b2c (N:=X.N) h2 T I.len ⟨F,ρ,r,so.e,e1,λv F' H' o=>fin _ F' H' o.x.f (so.set o c i)⟩)
 ·cases e
end
def a3w:List PV->Option (List Str)
 |[]=>ξ []
 | .str x::r=>(a3w r).map (x::·)
 |_=>ζ
theorem b0M:∀xs:List Str,a3w (xs.map .str)=ξ xs
 |[]=>rfl
 |x::xs=>by rw [AN];simp only [a3w,b0M xs,BA]
theorem a6u{K:AE}{H:Hp}:∀{ps:List PV} {ys:List Str} {xs:List V} {us:List AA},a3w ps=ξ ys->n8 K H ps xs->u9 xs us->StrsAre us ys
 |[],_,_,_,h,r,v=>by cases h;cases r;cases v;exact .nil
 |p::ps,ys,_,_,h,⟨x,r,e,hp,t⟩,v=>by
  subst e;cases p with
  |str z=>
   simp only [a3w] at h;cases q:a3w ps with
   |none=>rw [q] at h;cases h
   |some zs=>
    rw [q] at h;cases h;cases hp;cases v with
    |cons a b=>
     obtain⟨tk,rfl⟩:=a;exact .cons z tk (a6u q t b)
  |_=>simp [a3w] at h
def a0t(x y:d7):Option d7:=match x with
 | .v (.str z)=>(match PyData.items? y.rd with
   |some ps=>(a3w ps).bind λys=>if(ys.map (·.length)).sum+ys.length*z.length<=16777216 then ξ (.v (.str (Txt.join z ys))) else ζ
   |none=>ζ)
 |_=>ζ
section
variable {X:Cx}
theorem c2X:MtR X "str.join" (λx xs H Q=>∃F y rx ry rz,xs=[y]/\u4 F H/\X4 X.K F H x rx/\X4 X.K F H y ry/\a0t rx ry=ξ rz/\∀v F' H',B2 X.K F H F' H' v rz->Q v H'):=by
 intro pins s σ H x xs v us Q I rx rv h;obtain⟨F,y,ra,rb,rz,rfl,s0,h1,h2,h3,k⟩:=h;obtain⟨u,rfl,ru⟩:=a2I rv;unfold a0t at h3;split at h3
 ·rename_i z;split at h3
  ·rename_i ps e;obtain⟨ys,e2,h3⟩:=bind_some h3;split at h3
   ·rename_i c;cases h3;cases h1;obtain⟨t,rfl⟩:=rx;obtain⟨a,xs,rfl,hq,r⟩:=a04 s0 h2 e;cases ru;rcases hq with hq|hq
    ·obtain⟨its,rv,pl,hz⟩:=I.list hq;exact join_list pl.isList (by simpa using a6u e2 r rv) c λt' k'=>⟨.str _,H,I.tok _,⟨_,rfl⟩,k _ F H (B2.here s0 rfl)⟩
    ·obtain⟨its,rv,pl,hz⟩:=I.tuple hq;exact join_tuple pl (by simpa using a6u e2 r rv) c λt' k'=>⟨.str _,H,I.tok _,⟨_,rfl⟩,k _ F H (B2.here s0 rfl)⟩
   ·cases h3
  ·cases h3
 ·cases h3
theorem a6W{o e:AG}{m n:M}{apos cpos:Pos}(ho:EE X o m)(ha:EE X e n)
 (hbase:attributeBase o "join" X.env (eval o X.env)=eval o X.env:=by rfl)
 (hfew:((backTo cpos (AL [e] X.env)).all (λx=> !x.1)&&(backToKw cpos (keywordEach [] X.env)).all (λx=>x.1.isSome)
  && decide ([e].length+([]:List Keyword).length+(if([]:List Keyword).isEmpty then 0 else 1)<30))=true:=by rfl)
 (hline:(apos.endLine==cpos.line)=true:=by rfl) (hs:AL [e] X.env=(false,eval e X.env)::AL [] X.env:=by rfl) (hplain:(backTo cpos (AL [] X.env)).any (·.1)=false:=by rfl):
 EE X (.Call (.Attribute o "join" apos) [e] [] cpos) (m2 a0t m n):=
 C6 (c39 PySem.F.plainAttrs_str PySem.F.slot_str_join PySem.F.type_str_join c2X ho (Q5 ha a2d hs) hbase hfew hline hs hplain) λσ H Q h0=>B7 h0 λF ρ r he hm k=>by
  obtain⟨rx,e1,hm⟩:=bind_some hm;obtain⟨ry,e2,hm⟩:=bind_some hm;refine⟨F,ρ,rx,he,e1,λv F1 H1 o1=>⟨?_,⟨F1,ρ,ry,he.ext o1.x,e2,λu F2 H2 o2=>⟨F2,u,rx,ry,r,rfl,o2.x.fh,o1.rep.ext o2.x,o2.rep,hm,λz F3 H3 o3=>k z F3 H3 (B2.trans (o1.x.trans o2.x) o3)⟩⟩⟩⟩;unfold a0t at hm;split at hm
  ·cases o1.rep;rfl
  ·cases hm
end
def cut{α:Type}(xs:List α)(lo hi:Option Int):List α:=(xs.drop (HT.sIx xs.length 0 lo)).take (HT.sIx xs.length xs.length hi - HT.sIx xs.length 0 lo)
theorem a6R(n d:Nat)(hd:d<=n)(o:Option Int):(match o with|none=>(d:Int)|some i=>max 0 (min (if i<0 then i+n else i) n))=((HT.sIx n d o:Nat):Int):=by
 cases o with
 |none=>rfl
 |some i=>unfold HT.sIx;dsimp only;split<;>lia
theorem c2m(n:Nat)(lo hi:Option Int):Builtin.Str.strSliceIndices lo hi 1 n=(AT (HT.sIx n n hi - HT.sIx n 0 lo)).map (HT.sIx n 0 lo+·):=by
 have h1:=a6R n 0 (Nat.zero_le _) lo;have h2:=a6R n n (AS _) hi;have key:∀a b:Int,a=((HT.sIx n 0 lo:Nat):Int)->b=((HT.sIx n n hi:Nat):Int)->sliceRange a b 1=(AT (HT.sIx n n hi - HT.sIx n 0 lo)).map (HT.sIx n 0 lo+·):=λa b ha hb=>by rw [ha,hb,sliceRange_one]
 refine key _ _ ?_ ?_
 ·cases lo with
  |none=>rfl
  |some i=>exact h1
 ·cases hi with
  |none=>rfl
  |some i=>exact h2
theorem c3F(z:Str)(lo hi:Option Int):Txt.slice z lo hi=⟨(cut z.cps.toList lo hi).toArray⟩:=by
 have hz:z.cps.toList.length=z.length:=by simp [Str.length]
 unfold Txt.slice;rw [c2m,pick_run z.cps];split
 ·rename_i c;have c':HT.sIx z.length z.length hi - HT.sIx z.length 0 lo=z.length:=by
   simpa using c
  have hle:=HT.sIx_le z.length z.length (AS _) hi;unfold cut;rw [hz,c'];have:HT.sIx z.length 0 lo=0\/z.length=0:=by lia
  cases z with
  |mk a=>
   congr 1
   rcases this with h|h
   ·rw [h,List.drop_zero];have:a.toList.length=(⟨a⟩:Str).length:=hz;rw [<-this,List.take_length]
   ·have h0:a.toList=[]:=List.length_eq_zero_iff.mp (by rw [<-h];exact hz)
    have:a= #[]:=by
     apply Array.ext';rw [h0]
    subst this;simp
 ·unfold cut;rw [hz]
theorem b1X(items:Array AA)(lo hi:Option Int):slicePick items lo hi ζ=(cut items.toList lo hi).toArray:=by
 have hz:items.toList.length=items.size:=by simp
 unfold slicePick cut;rw [hz];have key:∀a b:Int,a=((HT.sIx items.size 0 lo:Nat):Int)->b=((HT.sIx items.size items.size hi:Nat):Int)->(List.filterMap (items[·]?) (sliceRange a b 1)).toArray=((items.toList.drop (HT.sIx items.size 0 lo)).take (HT.sIx items.size items.size hi - HT.sIx items.size 0 lo)).toArray:=λa b ha hb=>by rw [ha,hb,sliceRange_one,pick_run]
 refine key _ _ ?_ ?_
 ·cases lo with
  |none=>rfl
  |some i=>exact a6R items.size 0 (Nat.zero_le _) (ξ i)
 ·cases hi with
  |none=>rfl
  |some i=>exact a6R items.size items.size (AS _) (ξ i)
theorem n8.cut{K:AE}{H:Hp}{ps:List PV}{xs:List V}(r:n8 K H ps xs)(lo hi:Option Int):n8 K H (PU.cut ps lo hi) (PU.cut xs lo hi):=by
 unfold PU.cut;rw [r.length];exact(r.drop _).take _
theorem c2n{α:Type}(xs:List α)(lo hi:Option Int):(cut xs lo hi).length<=xs.length:=by
 unfold cut;rw [List.length_take,List.length_drop];lia
theorem a5o{prog:AJ}{w:AI}{A:AK}{E:AA->AD->Prop}{s:AD}{t sl:AB}{items:Array AA}{vl vu:AA}{lo hi:Option Int}{Q:AA->AD->Prop}(ht:IsTup s.heap t items)(hs:s.heap.IsSliceOf sl vl vu .none)(pl:IsPart vl lo)(pu:IsPart vu hi)
 (hw:HT.sIx items.size 0 lo=0/\HT.sIx items.size items.size hi=items.size)
 (h:Q (.ref t) s):AH (model prog w) A (getItem (.ref t) (.ref sl)) Q E s:=by
 obtain⟨os,hos,hcs,hds⟩:=id hs
 have hTs:s.TypeIs (.ref sl) "slice":=⟨os,hos,hcs⟩
 unfold getItem
 try with_reducible refine wpAny_holding ?_
 first|refine AF (AR ?_)|skip
 refine AF (wpAny_sequenceKey ht.typeIs (by decide) ?_)
 refine AF (wpAny_callSpecial?_slot (name:=AC "__getitem__") ht.typeIs PyProof.Rows.slot_tuple_getitem
  (wpAny_call_entry PyProof.Rows.slot_tuple_getitem ht.typeIs entry_tuple_getitem ?_ (args_tuple_getitem _ _)))
 show AH _ _ (Builtin.Tuple.tupleItemsOf (.ref t)>>=_) _ _ s
 refine AF (tupleItemsOf_ ht ?_)
 refine AF (wpAny_typeOf hTs ?_)
 rw [if_pos (by decide)]
 refine AF (HT.sliceApplied_gen hs pl pu ?_)
 have hno:(((HT.sIx items.size 0 lo:Nat):Int)==0 &&(1:Int)==1 &&(HT.sIx items.size items.size hi - HT.sIx items.size 0 lo)==items.size)=true:=by
  rw [hw.1,hw.2];simp
 show AH _ _ (if(((HT.sIx items.size 0 lo:Nat):Int)==0 &&(1:Int)==1 &&(HT.sIx items.size items.size hi - HT.sIx items.size 0 lo)==items.size)=true then _ else _) _ _ s
 rw [if_pos hno]
 refine AF (AF (m:=typeOf (.ref t)) (wpAny_typeOf ht.typeIs (AR ?_)))
 rw [if_pos (by decide)]
 wp_walk
 exact⟨_,rfl,AR h⟩
theorem c3D{X:Cx}:SlR X (λx lo hi H Q=>∃a xs,x= .ref a/\SqT X.K H a xs/\(HT.sIx xs.length 0 lo=0/\HT.sIx xs.length xs.length hi=xs.length)/\Q (.ref a) H):=by
 ext u
 refine⟨"tuple",_,PyProof.Rows.slot_tuple_getitem.lookup,ht.typeIs, ?_⟩;exact a5o ht hs pl pu (by rw [hlen];exact hw) ⟨.ref a,H,I,rfl,q⟩
theorem b8p{α:Type}{xs:List α}{lo hi:Option Int}(h:HT.sIx xs.length 0 lo=0/\HT.sIx xs.length xs.length hi=xs.length):cut xs lo hi=xs:=by
 unfold cut;rw [h.1,h.2,List.drop_zero,Nat.sub_zero,List.take_length]
section
variable {X:Cx}
theorem b6t{h:Heap}{sl:AB}{vl vu:AA}{lo hi:Option Int}(hs:h.IsSliceOf sl vl vu .none)(pl:IsPart vl lo)(pu:IsPart vu hi):∃l u:Option (Int×Tok),h.IsSlice sl l u ζ/\l.map (·.1)=lo/\u.map (·.1)=hi:=by
 obtain⟨o,ho,hc,hd⟩:=hs;cases pl with
 |none=>
  cases pu with
  |none=>exact⟨ζ,ζ,⟨o,ho,hc,hd⟩,rfl,rfl⟩
  |int j t=>exact⟨ζ,ξ (j,t),⟨o,ho,hc,hd⟩,rfl,rfl⟩
 |int i t=>
  cases pu with
  |none=>exact⟨ξ (i,t),ζ,⟨o,ho,hc,hd⟩,rfl,rfl⟩
  |int j t'=>exact⟨ξ (i,t),ξ (j,t'),⟨o,ho,hc,hd⟩,rfl,rfl⟩
theorem c5v:SlR X (λx lo hi H Q=>∃z,x= .str z/\z.length<=AM/\Q (.str (Txt.slice z lo hi)) H):=by
 intro pins s σ H x v vl vu lo hi sl Q I rx hs pl pu h;obtain⟨z,rfl,hz,q⟩:=h;obtain⟨t,rfl⟩:=rx;obtain⟨l,u,hs',e1,e2⟩:=b6t hs pl pu;subst e1 e2;exact⟨"str",_,PySem.F.slot_str_getitem.lookup,typeIs_str _ _ _,wpAny_getItem_str_slice hs' rfl (post_val_or_str ⟨Nat.le_trans (Txt.slice_le z _ _) hz,λt' k=>⟨.str _,H,I.tok _,⟨_,rfl⟩,q⟩⟩)⟩
theorem c5u:SlR X (λx lo hi H Q=>∃a xs,x= .ref a/\SqL X.K H a xs/\∀p,H p=ζ->Q (.ref p) (B9 H p (.lst (PU.cut xs lo hi)))):=by
 intro pins s σ H x v vl vu lo hi sl Q I rx hs pl pu h;obtain⟨a,xs,rfl,hx,q⟩:=h;cases rx;obtain⟨its,r,pl',hz⟩:=I.list hx;have hlen:=r.length;refine⟨"list",_,list_getitem_lookup,pl'.isList.typeIs, ?_⟩;refine wpAny_getItem_list_slice pl'.isList hs pl pu .none (by simp) ?_ (by rw [Ai];lia)
 rw [b1X];refine⟨.ref s.heap.objs.size,_,I.laid (t':=s.toks) (o:= .lst (PU.cut xs lo hi)) (λb ob q=>AV _ q) (AS _) ?_,rfl,q _ (I.hok.fresh (AS _))⟩;refine⟨Nat.le_trans (c2n xs lo hi) hz,PU.cut its lo hi,0, ?_,Ae _ rfl⟩;unfold PU.cut;rw [hlen];exact(r.drop _).take _
def gSl(x:d7)(lo hi:Option Int):Option d7:=match x with
 | .v (.str z)=>if z.length<=AM then ξ (.v (.str ⟨(cut z.cps.toList lo hi).toArray⟩)) else ζ
 | .v (.tuple ps)=>ξ (.v (.tuple (cut ps lo hi)))
 | .v (.list ps)=>ξ (.own (cut ps lo hi))
 | .ow (.lst ps)=>ξ (.own (cut ps lo hi))
 | .bo (.lst ps)=>ξ (.own (cut ps lo hi))
 |_=>ζ
def rSl(K:AE):V->Option Int->Option Int->Hp->VK->Prop:=λx lo hi H Q=>∃F rx rz,u4 F H/\X4 K F H x rx/\gSl rx lo hi=ξ rz/\∀v F' H',B2 K F H F' H' v rz->Q v H'
theorem slm:SlR X (rSl X.K):=by
 intro pins s σ H x v vl vu lo hi sl Q I rx hs pl pu h;obtain⟨F,ra,rz,s0,h1,h2,k⟩:=h;have lst:∀ps,PyData.items? ra.rd=ξ ps->(∃a xs,x= .ref a/\SqL X.K H a xs/\n8 X.K F ps xs)->rz= .own (cut ps lo hi)->∃T id,typeLookup (.type T) "__getitem__"=pure (ξ (.builtin id))/\s.TypeIs v T/\AH (model X.prog X.w) X.A (getItem v (.ref sl)) (EP X pins σ Q) X.xe s:=λps e ⟨a,xs,e1,hq,rl⟩ e2=>by
  subst e2;exact c5u pins s σ H x v vl vu lo hi sl Q I rx hs pl pu ⟨a,xs,e1,hq,λp hp=>k _ _ _ (B2.lst s0 hp (rl.cut lo hi))⟩
 unfold gSl at h2;split at h2
 ·rename_i z;split at h2
  ·rename_i c;cases h2;cases h1;refine c5v pins s σ H _ v vl vu lo hi sl Q I rx hs pl pu ⟨z,rfl,c, ?_⟩;rw [c3F];exact k _ F H (B2.here s0 rfl)
  ·cases h2
 ·rename_i ps;cases h2
  by_cases c:HT.sIx ps.length 0 lo=0/\HT.sIx ps.length ps.length hi=ps.length
  ·obtain⟨a,xs,rfl,hq,rl⟩:=h1;have hlen:=rl.length;refine c3D pins s σ H _ v vl vu lo hi sl Q I rx hs pl pu ⟨a,xs,rfl,w4 s0 hq.sq,by rw [hlen];exact c, ?_⟩
   rw [b8p c] at k;exact k _ F H (B2.here s0 ⟨a,xs,rfl,hq,rl⟩)
  ·obtain⟨a,xs,rfl,hq,rl⟩:=h1;have hlen:=rl.length;refine c5w pins s σ H _ v vl vu lo hi sl Q I rx hs pl pu ⟨a,xs,rfl,w4 s0 hq.sq,by rw [hlen];exact c,λp hp=> ?_⟩
   exact k _ _ _ (B2.tup s0 hp (rl.cut lo hi))
 ·rename_i ps;cases h2;obtain⟨a,xs,e1,hq,rl⟩:=h1;exact lst ps rfl ⟨a,xs,e1,L1 s0 hq,rl⟩ rfl
 ·rename_i ps;cases h2;obtain⟨a,xs,e1,_,hq,rl⟩:=h1;exact lst ps rfl ⟨a,xs,e1,SqL.of hq,rl⟩ rfl
 ·rename_i ps;cases h2;obtain⟨a,xs,e1,_,hq,rl⟩:=h1;exact lst ps rfl ⟨a,xs,e1,SqL.of hq,rl⟩ rfl
 ·cases h2
abbrev MO:=c5->Option (Option Int)
def tMO(K:AE)(m:MO):TO:=λσ H Q=>∃F ρ o,J4 K F H σ ρ/\m ρ=ξ o/\∀F' H',Ext F H F' H'->Q o H'
abbrev EO(X:Cx)(e:Option AG)(m:MO):Prop:=PO X e (tMO X.K m)
def T3:MO:=λ_=>ξ ζ
def c0I:d7->Option (Option Int)
 | .v (.int i)=>ξ (ξ i)
 |_=>ζ
def R5(m:M):MO:=λρ=>(m ρ).bind c0I
theorem a47:EO X ζ T3:=λpins s σ H Q I ⟨F,ρ,o,en,e,k⟩=>by
 cases e;exact c3g pins s σ H Q I (k F H (Ext.refl en.fh))
theorem a48{e:AG}{m:M}(h:EE X e m):EO X (ξ e) (R5 m):=λpins s σ H Q I ⟨F,ρ,o,en,e1,k⟩=>by
 obtain⟨r,e2,e3⟩:=bind_some e1;refine c3h h pins s σ H Q I ⟨F,ρ,r,en,e2,λv F1 H1 o1=> ?_⟩;unfold c0I at e3;split at e3
 ·cases e3;exact⟨_,o1.rep,k F1 H1 o1.x⟩
 ·cases e3
def P5(m:M)(lo hi:MO):M:=λρ=>(m ρ).bind λr=>(lo ρ).bind λl=>(hi ρ).bind λh=>gSl r l h
theorem a2v{e:AG}{lo hi:Option AG}{m:M}{ml mh:MO}{pos p2:Pos}(he:EE X e m)(hl:EO X lo ml)(hh:EO X hi mh):EE X (.Subscript e (.Slice lo hi ζ p2) pos) (P5 m ml mh):=
 C6 (c1n slm he hl hh) λσ H Q h0=>B7 h0 λF ρ r en e k=>by
  obtain⟨ra,e1,e⟩:=bind_some e;obtain⟨l,e2,e⟩:=bind_some e;obtain⟨h,e3,e⟩:=bind_some e;exact⟨F,ρ,ra,en,e1,λv F1 H1 o1=>⟨F1,ρ,l,en.ext o1.x,e2,λF2 H2 x2=>⟨F2,ρ,h,(en.ext o1.x).ext x2,e3,λF3 H3 x3=>⟨F3,ra,r,x3.fh,(o1.rep.ext x2).ext x3,e,λz F4 H4 o4=>k z F4 H4 (B2.trans ((o1.x.trans x2).trans x3) o4)⟩⟩⟩⟩
end
def Its(x:Str):It:=⟨λi _=>i<x.cps.size,λi H v H'=>H'=H/\∃c,x.cps[i]?=ξ c/\v= .str ⟨#[c]⟩,λi _=>x.cps.size<=i⟩
theorem c11{P:AJ}{w:AI}{K:AE}{tg:AG}(b:Bool)(it:AB)(x:Str)(t:Tok):b4r P w K tg (Its x) [it] it (λi h=>h.IsStrIter it (if b then "str_ascii_iterator" else "str_iterator") x t i) where
 mem:=by simp
 obj:=λi h st c hb=>by
  have e:c=it:=by simpa using hb
  subst e
  ext k
 keep:=λi h h' st k=>let ⟨o,e,r⟩:=st;⟨o,k it (by simp) o e,r⟩
 item:=by
  ext i
  ext m
  have hg:i<x.cps.size:=hg;have hx:x.cps[i]?=ξ x.cps[i]:=by simp [hg]
  have fin:∀h':Heap,h'.IsStrIter it (if b then "str_ascii_iterator" else "str_iterator") x t (i+1)->Heap.SameBut it s.heap h'->∃u,ξ (Value.str ⟨#[x.cps[i]]⟩ s.toks)=ξ u/\
   AH (model X.prog X.w) X.A (letOwnedTupleGo tg (.ref it) u) (λ_ s2=>∃y H',n3 X pins σ H' s2/\w6 y u/\(Its x).yld i H y H'/\s2.heap.IsStrIter it (if b then "str_ascii_iterator" else "str_iterator") x t (i+1)/\∀b∈[it],H' b=ζ) E {s with heap:=h',toks:=s.toks+1}:=λh' st' sb=>by
   have I1:n3 X pins σ H {s with heap:=h',toks:=s.toks+1}:=I.turned (λb o hb e=>(sb.2 b hb).trans e) f0 f1 f3 f4 f5
   obtain⟨o,e,c,d⟩:=id st'
   refine⟨_,rfl,b7t (s:={s with heap:=h',toks:=s.toks+1}) (n:=if b then "str_ascii_iterator" else "str_iterator") e c d (by cases b<;>decide) ⟨.str ⟨#[x.cps[i]]⟩,H,I1,⟨_,rfl⟩,⟨rfl,_,hx,rfl⟩,st',λb hb=>(hf b hb).1⟩⟩
  cases b with
  |true=>exact wpAny_pyNext_ascii_item st hx λh' a b=>fin h' a b
  |false=>exact wpAny_pyNext_wide_item st hx λh' a b=>fin h' a b
 done:=by
   ext i
   ext m
   have hg:x.cps.size<=i:=hg;have hx:x.cps[i]?=ζ:=by simp [hg]
   cases b with
   |true=>exact wpAny_pyNext_ascii_end (I.ok.hd hc) st hx λh' eb=>⟨rfl,I.turned (t':=s.toks) (λb o hb e=>eb b o hb e) f0 f1 f3 f4 f5⟩
   |false=>exact wpAny_pyNext_wide_end (I.ok.hd hc) st hx λh' eb=>⟨rfl,I.turned (t':=s.toks) (λb o hb e=>eb b o hb e) f0 f1 f3 f4 f5⟩
 self:=λ_ _ _ _ _ st h=>by
  cases b with
  |true=>exact wpAny_pyIter_striter_ascii st h
  |false=>exact wpAny_pyIter_striter_wide st h
section
variable {X:Cx}{tg:AG}
def c6G(tl:TE):TI:=λσ H R=>tl σ H λx H1=>∃z,x= .str z/\R (Its z) H1
theorem c5l{l:AG}{tl:TE}(hl:PE X l tl):PI X tg l (c6G tl):=by
 intro pins s σ H R I h;refine M8 (hl pins s σ H _ I h) λv s1 h0=>v9 h0 λx H1 I1 r1 q1=> ?_;obtain⟨z,e,q⟩:=q1;subst e;obtain⟨t,rfl⟩:=r1;have fin:∀b:Bool,PIE X pins σ tg R (.ref s1.heap.objs.size) {s1 with heap:=s1.heap.push {cls:= .type (if b then "str_ascii_iterator" else "str_iterator"),data:= .fields #[.str z t,.int 0 0]}}:=λb=>by
  refine⟨s1.heap.objs.size,[s1.heap.objs.size],_,_,H1,rfl,I1.kept (t':=s1.toks) λb o e=>AV _ e,c11 b _ z t,⟨_,Ae _ rfl,rfl,rfl⟩,λc hb=> ?_,q⟩;have e:c=s1.heap.objs.size:=by simpa using hb
  subst e;exact I1.fpOk (AS _) (I1.hok.fresh (AS _))
 cases ha:z.cps.all (· <128)
 ·exact wpAny_pyIter_wide ha (fin false)
 ·exact wpAny_pyIter_ascii ha (fin true)
structure b8d(K:AE)(F:Hp)(J:It)(ps:List PV):Prop where
 st:∀i H',u4 F H'->ps.length<=i->J.stop i H'
 go:∀i p H',u4 F H'->ps[i]?=ξ p->J.go i H'
 yd:∀i p x H' H'',u4 F H'->ps[i]?=ξ p->J.yld i H' x H''->H''=H'/\L3 K F p x
def SIF(K:AE)(mi:MI)(wi:TI):Prop:=∀F H σ ρ ps (R:It->Hp->Prop),J4 K F H σ ρ->mi ρ=ξ ps->(∀F1 H1 J,Ext F H F1 H1->b8d K F1 J ps->R J H1)->wi σ H R
abbrev EIF(X:Cx)(tg iter:AG)(mi:MI):Prop:=∃wi,PI X tg iter wi/\SIF X.K mi wi
theorem EIF.ei{iter:AG}{mi:MI}(h:EIF X tg iter mi):EI X tg iter mi:=by
 obtain⟨wi,h1,h2⟩:=h;exact⟨wi,h1,λF H σ ρ ps R en e k=>h2 F H σ ρ ps R en e λF1 H1 J x S=>k F1 H1 J x ⟨λi H' s=>S.st i H' (x.fh.trans s),λi p H' s=>S.go i p H' (x.fh.trans s),λi p y H' H'' s=>S.yd i p y H' H'' (x.fh.trans s)⟩⟩
def b0e(m:M):MI:=λρ=>(m ρ).bind λr=>match r with
 | .v (.str z)=>ξ (z.cps.toList.map λc=> .str ⟨#[c]⟩)
 |_=>ζ
theorem c2s{l:AG}{m:M}(h:EE X l m):EIF X tg l (b0e m):=⟨_,c5l h,λF H σ ρ ps R en e k=>by
 obtain⟨r,e1,e2⟩:=bind_some e;refine⟨F,ρ,r,en,e1,λv F1 H1 o1=> ?_⟩;split at e2
 ·rename_i z;cases e2;cases o1.rep;refine⟨z,rfl,k F1 H1 _ o1.x ⟨λi H2 s h=> ?_,λi p H2 s h=> ?_,λi p x H2 H3 s h y=> ?_⟩⟩
  ·have h:z.cps.size<=i:=by simpa using h
   exact h
  ·have:=(Aj.mp h).1;have h:i<z.cps.size:=by simpa using this
   exact h
  ·obtain⟨e,c,hc,rfl⟩:=y;refine⟨e, ?_⟩;rw [Ao,Array.getElem?_toList,hc] at h;cases h
   rfl
 ·cases e2⟩
end
def a62:d7->d7->Option d7
 | .v (.int i),.v (.int j)=>ξ (.v (.bool (decide (i<j))))
 | .v (.str i),.v (.str j)=>ξ (.v (.bool (decide (i.cps.toList<j.cps.toList))))
 |_,_=>ζ
def c2D:d7->d7->Option d7
 | .v (.int i),.v (.int j)=>ξ (.v (.bool (decide (i<=j))))
 | .v (.str i),.v (.str j)=>ξ (.v (.bool (!decide (j.cps.toList<i.cps.toList))))
 |_,_=>ζ
section
variable {X:Cx}
theorem a7n:OpM X (compareOp .Lt) a62:=by
 ext e
 unfold a62 at h3;split at h3
 ·cases h3;cases h1;cases h2;exact c55 pins s σ H _ _ v u Q I rx ry ⟨_,_,rfl,rfl,k _ F H (B2.here s0 rfl)⟩
 ·cases h3;cases h1;cases h2;exact b9c pins s σ H _ _ v u Q I rx ry ⟨_,_,rfl,rfl,k _ F H (B2.here s0 rfl)⟩
 ·cases h3
theorem c27:OpM X (compareOp .LtE) c2D:=by
 ext e
 unfold c2D at h3;split at h3
 ·cases h3;cases h1;cases h2;exact c54 pins s σ H _ _ v u Q I rx ry ⟨_,_,rfl,rfl,k _ F H (B2.here s0 rfl)⟩
 ·cases h3;cases h1;cases h2
  ext v
  exact PySem.P.le_str ⟨.bl _,H,I,rfl,k _ F H (B2.here s0 rfl)⟩
 ·cases h3
def b1h(neg:Bool)(x y:d7):Option d7:=match x,y with
 | .v (.str i),.v (.str j)=>ξ (.v (.bool (if neg then !(!(Builtin.Str.occurrences j i 0 j.length 1).isEmpty) else !(Builtin.Str.occurrences j i 0 j.length 1).isEmpty)))
 |x,y=>gIn neg x y
theorem b30(hu:X.A.units+64<cLine):OpM X (compareOp .In) (b1h false):=by
 ext e
 unfold b1h at h3;split at h3
 ·cases h3;cases h1;cases h2;exact b9b pins s σ H _ _ v u Q I rx ry ⟨_,_,rfl,rfl,k _ F H (B2.here s0 rfl)⟩
 ·exact c47 hu pins s σ H x y v u Q I rx ry ⟨F,_,_,rz,s0,h1,h2,h3,k⟩
def c2A(neg:Bool)(x y:d7):Option d7:=match x,y with
 | .v (.bool a),.v (.bool b)=>ξ (.v (.bool (if neg then !(a==b) else a==b)))
 |x,y=>c4C neg x y
theorem c0J{a b:Bool}{M:Model}{A:AK}{E:AA->AD->Prop}{s:AD}{Q:AA->AD->Prop}(h:Q (.bool (a==b)) s):AH M A (compareOp .Is (.bool a) (.bool b)) Q E s:=by
 refine wpAny_is_plain (by cases a<;>cases b<;>rfl) ?_
 have e:(Value.bool a==Value.bool b)=(a==b):=by cases a<;>cases b<;>rfl
 rw [e];exact h
theorem c25:OpM X (compareOp .Is) (c2A false):=by
 ext e
 unfold c2A at h3;split at h3
 ·cases h3;cases h1;cases h2;cases rx;cases ry;exact c0J ⟨.bl _,H,I,rfl,k _ F H (B2.here s0 rfl)⟩
 ·exact c26 pins s σ H x y v u Q I rx ry ⟨F,_,_,rz,s0,h1,h2,h3,k⟩
def a4e:d7->d7->Option d7
 | .v (.str z),.v (.int k)=>if okC (λk n=>0<=k/\k<=1000000/\n*k<=16777216) k z.length=true then ξ (.v (.str ⟨(AQ k.toNat z.cps.toList).flatten.toArray⟩)) else ζ
 | .ow (.lst ps),.v (.int k)=>if okC (λk n=>0<=k/\k<=1000000/\n*k<=16777216) k ps.length=true then ξ (.own (AQ k.toNat ps).flatten) else ζ
 |x,y=>c2E x y
theorem a9W(xs:List Nat):∀(m:Nat) (acc:Array Nat),(AQ m xs.toArray).foldl (· ++·) acc=acc++(AQ m xs).flatten.toArray
 |0,acc=>by simp
 |m+1,acc=>by
  rw [Ap,List.foldl_cons,a9W xs m,Ap,List.flatten_cons];apply Array.ext';simp
theorem c3M{z:Str}{k:Int}(h0:0<=k):Txt.mul z k=⟨(AQ k.toNat z.cps.toList).flatten.toArray⟩:=by
 unfold Txt.mul
 by_cases h1:k<1
 ·have:k=0:=by lia
  subst this
  rfl
 ·rw [if_neg h1]
  by_cases h2:(k==1||z.length==0)=true
  ·rw [if_pos h2];rw [Bool.or_eq_true] at h2;cases z with
   |mk a=>
    rcases h2 with h2|h2
    ·have:k=1:=by simpa using h2
     subst this;show(⟨a⟩:Str)=_
     congr 1
     apply Array.ext';simp
    ·have ha:a.size=0:=by simpa [Str.length] using h2
     have:a= #[]:=Array.eq_empty_of_size_eq_zero ha;subst this
     congr 1
     apply Array.ext';simp
  ·rw [if_neg h2];have e:z.cps=z.cps.toList.toArray:=by simp
   congr 1
   rw [e,a9W];simp
theorem b0x{K:AE}{H:Hp}{ps:List PV}{xs:List V}(r:n8 K H ps xs):∀m:Nat,n8 K H (AQ m ps).flatten (AQ m xs).flatten
 |0=>rfl
 |m+1=>by
  rw [Ap,Ap,List.flatten_cons,List.flatten_cons];exact r.append (b0x r m)
theorem c1g:OpM X (binaryOp .Mult) a4e:=by
 ext e
 unfold a4e at h3;split at h3
 ·rename_i z n;split at h3
  ·rename_i c;obtain⟨c0,c1,c2⟩:=a0j.mp c;cases h3;cases h1;cases h2
   ext v
   have hz:z.length*n.toNat<=AM:=by
    rw [sizeLine_eq];have:((z.length*n.toNat:Nat):Int)=z.length*n:=by rw [Int.natCast_mul,Int.toNat_of_nonneg c0]
    lia
   refine SB.mul ⟨?_,λh4 h5 h6=> ?_,λh4 h5=> ?_⟩ λt' k'=>⟨.str _,H,I.tok _,⟨_,rfl⟩, ?_⟩
   ·have e1:¬n< -(2 ^ 63:Int):=by lia
    have e2:¬n>=2 ^ 63:=by lia
    simp [e1,e2]
    lia
   ·have h7:(2 ^ 63 - 1:Int)/ n<z.length:=h6;have h8:(2 ^ 63 - 1:Int)<(z.length:Int)*n:=by
     have:=Int.lt_mul_of_ediv_lt (a:=(2 ^ 63 - 1:Int)) (b:=(z.length:Int)) (c:=n) (by lia) h7
     exact this
    lia
   ·unfold Builtin.Str.tooLong;rw [decide_eq_false (by lia)]
   ·rw [c3M c0];exact k _ F H (B2.here s0 rfl)
  ·cases h3
 ·rename_i ps n;split at h3
  ·rename_i c;obtain⟨c0,c1,c2⟩:=a0j.mp c;cases h3;cases h2;obtain⟨a,xs,rfl,fa,hq,rl⟩:=h1;have hlen:=rl.length;have hz:xs.length*n.toNat<=AM:=by
    rw [sizeLine_eq,hlen];have:((ps.length*n.toNat:Nat):Int)=ps.length*n:=by rw [Int.natCast_mul,Int.toNat_of_nonneg c0]
    lia
   exact c45 pins s σ H _ _ v u Q I rx ry ⟨a,n,xs,rfl,rfl,hq,by lia,by lia,hz,λp hp=>k _ _ _ (B2.lst s0 hp (b0x rl _))⟩
  ·cases h3
 ·exact c1f pins s σ H x y v u Q I rx ry ⟨F,_,_,rz,s0,h1,h2,h3,k⟩
end
theorem a2D:fillsNumberSlot (.type "tuple") "mul"=pure false:=
 PySem.fillsNumberSlot_seq (id:="tuple.__mul__") (r:=ξ (.builtin "tuple.__rmul__")) PySem.F.slot_tuple_mul.lookup (by decide+kernel) PySem.F.slot_tuple_rmul.lookup (by decide+kernel)
theorem a7v:seqRepeat? (.type "tuple")=pure (ξ (.builtin "tuple.__mul__")):=by
 unfold seqRepeat?;rw [PySem.seqSlot_of (T:="tuple") (name:="__mul__") (id:="tuple.__mul__") PySem.F.slot_tuple_mul.lookup (by decide+kernel),PySem.seqSlot_of (T:="tuple") (name:="__rmul__") (id:="tuple.__rmul__") PySem.F.slot_tuple_rmul.lookup (by decide+kernel)]
 rfl
theorem a4q(a:Int)(t:Tok)(l:AB)(items:Array AA)(n:Nat)(dd:Option AB)(sl:Array (Option AA)):Meets (Builtin.«int.__rmul__» ⟨[.int a t,.ref l],[]⟩) (λ_ R s=>s.heap.get? l=ξ {cls:= .type "tuple",dict:=dd,data:= .seq items n,slots:=sl}/\R (.ok (.ret Value.notImplemented)) s):=
 .of_wp λprog w A R s h=>by obtain⟨hp,g,d,tk,os⟩:=s;obtain⟨hl,h⟩:=h;wp_walk;exact⟨_,rfl,h⟩
theorem b0R(l:AB)(items:Array AA)(n:Nat)(dd:Option AB)(sl:Array (Option AA))(x:Int)(u:Tok)(hc0:(decide (x< -(2 ^ 63))||decide (x>=2 ^ 63))=false)(hc1:(items.isEmpty||x==1)=false)(hc2:(decide (x<=0)||items.isEmpty)=false)(hc3:¬(items.size:Int)*x>(2 ^ 63 - 1)/ 8)(hc4:Builtin.Tuple.tupleTooMany ((items.size:Int)*x)=false)(hz:((AQ x.toNat items).foldl (· ++·) #[]).size<=AM):
 Meets (Builtin.«tuple.__mul__» ⟨[.ref l,.int x u],[]⟩) (λ_ R s=>s.heap.get? l=ξ {cls:= .type "tuple",dict:=dd,data:= .seq items n,slots:=sl}/\R (.ok (.ret (Value.ref s.heap.objs.size))) {s with heap:=s.heap.push {cls:=Value.type "tuple",data:=Data.seq ((AQ x.toNat items).foldl (· ++·) #[])},toks:=s.toks}):=
 .of_wp λprog w A R s h=>by
  obtain⟨hp,g,d,tk,os⟩:=s;obtain⟨hl,h⟩:=h
  wp_walk
  have ht:IsTup hp l items:=⟨_,hl,rfl,n,rfl⟩;rw [if_neg (by rw [hc0];exact Ac)]
  wp_walk
  rw [if_neg hc3]
  wp_walk
  exact⟨_,rfl,h⟩
section
variable {X:Cx}
theorem c24:OpR X (binaryOp .Mult) (λx y H Q=>∃a xs n,x= .ref a/\y= .int n/\SqT X.K H a xs/\xs≠[]/\2<=n/\n<=1000000/\xs.length*n.toNat<=AM/\∀p,H p=ζ->Q (.ref p) (B9 H p (.tup (AQ n.toNat xs).flatten))):=by
 ext o
 obtain⟨a,xs,n,rfl,rfl,hx,hne,h1,h2,hz,q⟩:=h;cases rx;obtain⟨t,rfl⟩:=ry;obtain⟨its,r,ht,_⟩:=I.tuple hx;have hlen:its.toArray.size=xs.length:=by rw [Ai];exact r.length.symm
 have hie:its.toArray.isEmpty=false:=by
  cases its with
  |nil=>exact absurd (r.nil_iff.mp rfl) hne
  |cons _ _=>rfl
 have hnew:List.foldl (λx1 x2=>x1++x2) #[] (AQ n.toNat its.toArray)=(AQ n.toNat its).flatten.toArray:=by
  have:=a7X its n.toNat [];rw [As] at this;exact this
 have hc:((xs.length*n.toNat:Nat):Int)=(xs.length:Int)*n:=by rw [Int.natCast_mul,Int.toNat_of_nonneg (by lia)]
 have hsl:=sizeLine_eq;obtain⟨⟨cls,dd,data,sl⟩,ho,hc',m,hd⟩:=id ht;simp only at hc' hd;subst hc' hd;have hzz:(List.foldl (λx1 x2=>x1++x2) #[] (AQ n.toNat its.toArray)).size<=AM:=by
  rw [hnew,Ai,b3B,Nat.mul_comm,<-r.length];exact hz
 refine wpAny_binaryOp_repeat_ref (T:="tuple") (U:="int") (by decide) ht.typeIs (λs'=>typeIs_int s' n t) a2D F.fills_int_mul F.slot_int_rmul a7v F.slot_int_index.lookup
  (call_meets F.slot_int_rmul (typeIs_int s n t) F.entry_int_rmul (F.args_int_rmul_2 _ _) (a4q n t a its.toArray m dd sl)
   ⟨ho,rfl,ht.typeIs,call_meets PySem.F.slot_tuple_mul ht.typeIs PySem.F.entry_tuple_mul (PySem.F.args_tuple_mul_2 _ _) (b0R a its.toArray m dd sl n t ?_ ?_ ?_ ?_ ?_ hzz) ⟨ho, ?_⟩⟩)
 ·have e1:¬n< -(2 ^ 63:Int):=by lia
  have e2:¬n>=2 ^ 63:=by lia
  simp [e1,e2]
  lia
 ·rw [hie];have:n≠1:=by lia
  simp [this]
 ·rw [hie];have:¬n<=0:=by lia
  simp [this]
 ·rw [hlen,<-hc]
  lia
 ·rw [hlen,<-hc];unfold Builtin.Tuple.tupleTooMany;rw [decide_eq_false (by lia)]
 ·rw [hnew];refine⟨.ref s.heap.objs.size,_,I.laid (t':=s.toks) (o:= .tup (AQ n.toNat xs).flatten) (λb ob q=>AV _ q) (AS _) ?_,rfl,q _ (I.hok.fresh (AS _))⟩;exact⟨by rw [b3B,Nat.mul_comm];exact hz,_,r.rep n.toNat,IsTup.new _ _⟩
def r6:d7->d7->Option d7
 | .v (.tuple ps),.v (.int k)=>if okC (λk n=>2<=k/\k<=1000000/\1<=n/\n*k<=16777216) k ps.length=true then ξ (.v (.tuple (AQ k.toNat ps).flatten)) else ζ
 |x,y=>a4e x y
theorem u0:OpM X (binaryOp .Mult) r6:=by
 ext e
 unfold r6 at h3;split at h3
 ·rename_i ps n;split at h3
  ·rename_i c;obtain⟨c0,c1,c2,c3⟩:=a0j.mp c;cases h3;cases h2;obtain⟨a,xs,rfl,hq,rl⟩:=h1;have hlen:=rl.length;have hz:xs.length*n.toNat<=AM:=by
    rw [sizeLine_eq,hlen];have:((ps.length*n.toNat:Nat):Int)=ps.length*n:=by rw [Int.natCast_mul,Int.toNat_of_nonneg (by lia)]
    lia
   refine c24 pins s σ H _ _ v u Q I rx ry ⟨a,xs,n,rfl,rfl,w4 s0 hq.sq, ?_,by lia,by lia,hz,λp hp=>k _ _ _ (B2.tup s0 hp (b0x rl _))⟩
   intro e;rw [e] at hlen;simp at hlen
   lia
  ·cases h3
 ·exact c1g pins s σ H x y v u Q I rx ry ⟨F,_,_,rz,s0,h1,h2,h3,k⟩
end
theorem b0B:Manifest.owners.lookup (String.ofList ['d', 'e', 's', 'r', 'e', 'v', 'e', 'r'].reverse)=ξ Manifest.sig_reversed:=by kernel_rfl
theorem W6:Slot "reversed" "__next__" "reversed.__next__":=
 .of (owner:="reversed") (n:="__next__") (by rw [typeLookup_type,builtinLookup_eq_fast];kernel_rfl) (by decide+kernel) (by decide+kernel) (by decide+kernel)
  (by first|exact .inl (by decide+kernel)|exact .inr (by decide+kernel)) (by rw [isSubtype_type];kernel_rfl)
theorem a5M:entryFor table "reversed.__next__"=ξ Builtin.«reversed.__next__»:=entryFor_of_tree (by kernel_rfl)
theorem a7y(a:AA):argsOk "reversed.__next__" ⟨[a],[]⟩:=by
 unfold argsOk;rw [signature?_of (id:="reversed.__next__") (n:=['_', '_', 't', 'x', 'e', 'n', '_', '_']) (o:=['d', 'e', 's', 'r', 'e', 'v', 'e', 'r']) (by kernel_rfl) b0B];kernel_rfl
theorem a7z:Slot "reversed" "__iter__" "reversed.__iter__":=
 .of (owner:="reversed") (n:="__iter__") (by rw [typeLookup_type,builtinLookup_eq_fast];kernel_rfl) (by decide+kernel) (by decide+kernel) (by decide+kernel)
  (by first|exact .inl (by decide+kernel)|exact .inr (by decide+kernel)) (by rw [isSubtype_type];kernel_rfl)
theorem b37(a:AA):argsOk "reversed.__iter__" ⟨[a],[]⟩:=by
 unfold argsOk;rw [signature?_of (id:="reversed.__iter__") (n:=['_', '_', 'r', 'e', 't', 'i', '_', '_']) (o:=['d', 'e', 's', 'r', 'e', 'v', 'e', 'r']) (by kernel_rfl) b0B];kernel_rfl
theorem b1U:entryFor table "reversed.__iter__"=ξ Builtin.«dict_keyiterator.__iter__»:=
 entryFor_alias (id':="dict_keyiterator.__iter__") (by kernel_rfl) (by first|rfl|decide+kernel|(unfold String.splitOn;simp+decide [String.splitOnAux])) (by decide+kernel) (by kernel_rfl)
theorem c1F:typeLookup (.type "reversed") "__len__"=pure ζ:=by rw [typeLookup_type,builtinLookup_eq_fast];kernel_rfl
theorem a3f:Slot "reversed" "__length_hint__" "reversed.__length_hint__":=
 .of (owner:="reversed") (n:="__length_hint__") (by rw [typeLookup_type,builtinLookup_eq_fast];kernel_rfl) (by decide+kernel) (by decide+kernel) (by decide+kernel)
  (by first|exact .inl (by decide+kernel)|exact .inr (by decide+kernel)) (by rw [isSubtype_type];kernel_rfl)
theorem b1T:entryFor table "reversed.__length_hint__"=ξ Builtin.«reversed.__length_hint__»:=entryFor_of_tree (by kernel_rfl)
theorem b36(a:AA):argsOk "reversed.__length_hint__" ⟨[a],[]⟩:=by
 unfold argsOk;rw [signature?_of (id:="reversed.__length_hint__") (n:=['_', '_', 't', 'n', 'i', 'h', '_', 'h', 't', 'g', 'n', 'e', 'l', '_', '_']) (o:=['d', 'e', 's', 'r', 'e', 'v', 'e', 'r']) (by kernel_rfl) b0B];kernel_rfl
theorem a8O:typeLookup (.type "tuple") "__reversed__"=pure ζ:=by rw [typeLookup_type,builtinLookup_eq_fast];kernel_rfl
theorem b2F:typeLookup (.type "str") "__reversed__"=pure ζ:=by rw [typeLookup_type,builtinLookup_eq_fast];kernel_rfl
theorem c1H:isSubtype (.type "reversed") (.type "reversed")=pure true:=by rw [isSubtype_type];kernel_rfl
theorem c3w:typeLookup (.type "reversed") "__init__"=pure (ξ (.builtin "object.__init__")):=by rw [typeLookup_type,builtinLookup_eq_fast];kernel_rfl
theorem b2E:TypeCalled "reversed" "reversed.__new__" "object.__init__" where
 notType:=by decide+kernel
 canCreate:=F.create_reversed
 mro:=⟨_,_,F.mro_reversed⟩
 made:=F.made_reversed
 plain:=F.plain_reversed_new
 sub:=c1H
 init:= .of (owner:="object") (n:="__init__") c3w (by decide+kernel) (by decide+kernel) (by decide+kernel)
  (by first|exact .inl (by decide+kernel)|exact .inr (by decide+kernel)) (by rw [isSubtype_type];kernel_rfl)
theorem b5D:isSubtype (.type "tuple") (.type "dict")=pure false:=by rw [isSubtype_type];kernel_rfl
theorem b9o:isSubtype (.type "str") (.type "dict")=pure false:=by rw [isSubtype_type];kernel_rfl
def b5B(v:AA)(i:Int):Obj:={cls:= .type "reversed",data:= .fields #[v,rawInt i]}
theorem b39(l:AB)(items:Array AA)(n:Nat)(dd:Option AB)(sl:Array (Option AA))(hfit:(items.size:Int)<2 ^ 63):
 Meets (Builtin.«reversed.__new__» ⟨[.type "reversed",.ref l],[]⟩) (λ_ R s=>s.heap.get? l=ξ {cls:= .type "tuple",dict:=dd,data:= .seq items n,slots:=sl}/\
  ∀tk,R (.ok (.ret (.ref s.heap.objs.size))) {s with heap:=s.heap.push (b5B (.ref l) ((items.size:Int) - 1)),toks:=tk}):=
 .of_wp λprog w A R s h=>by
  obtain⟨hp,g,d,tk,os⟩:=s;obtain⟨hl,h⟩:=h;have ht:IsTup hp l items:=⟨_,hl,rfl,n,rfl⟩;have hn:=a8O;have hd:=b5D;unfold Builtin.«reversed.__new__»;refine AF (wpAny_of_eq (newClass_reversed _) ?_)
  try dsimp only
  refine AF (wpAny_of_eq (a:=()) (by first|rfl|kernel_rfl) ?_)
  refine AF (wpAny_of_eq (a:=()) (by first|rfl|kernel_rfl) ?_)
  try dsimp only
  refine AF (wpAny_specialOf (s:={heap:=hp,gens:=g,drawn:=d,toks:=tk,os:=os}) ht.typeIs a8O ?_);have hg:=slot_tuple_getitem.lookup
  wp_walk using len_tuple (s:={heap:=hp,gens:=g,drawn:=d,toks:=tk,os:=os}) ht (by exact hfit)
  exact⟨_,rfl,h _⟩
theorem b6V(z:Str)(t:Tok)(hfit:(z.length:Int)<2 ^ 63):
 Meets (Builtin.«reversed.__new__» ⟨[.type "reversed",.str z t],[]⟩) (λ_ R s=>
  ∀tk,R (.ok (.ret (.ref s.heap.objs.size))) {s with heap:=s.heap.push (b5B (.str z t) ((z.length:Int) - 1)),toks:=tk}):=
 .of_wp λprog w A R s h=>by
  obtain⟨hp,g,d,tk,os⟩:=s;have hn:=b2F;have hd:=b9o;unfold Builtin.«reversed.__new__»;refine AF (wpAny_of_eq (newClass_reversed _) ?_)
  try dsimp only
  refine AF (wpAny_of_eq (a:=()) (by first|rfl|kernel_rfl) ?_)
  refine AF (wpAny_of_eq (a:=()) (by first|rfl|kernel_rfl) ?_)
  try dsimp only
  refine AF (wpAny_specialOf (s:={heap:=hp,gens:=g,drawn:=d,toks:=tk,os:=os}) (typeIs_str _ z t) b2F ?_);have hg:=PySem.F.slot_str_getitem.lookup
  wp_walk using len_str (x:=z) (t:=t) (by lia)
  exact⟨_,rfl,h _⟩
section
variable {prog:AJ}{w:AI}{A:AK}{E:AA->AD->Prop}{s:AD}
theorem b1S{l:AB}{items:Array AA}{Q:AA->AD->Prop}(ht:IsTup s.heap l items)(hfit:(items.size:Int)<2 ^ 63)
 (h:∀tk,Q (.ref s.heap.objs.size) {s with heap:=s.heap.push (b5B (.ref l) ((items.size:Int) - 1)),toks:=tk}):AH (model prog w) A (call (.type "reversed") [.ref l]) Q E s:=by
 obtain⟨⟨cls,dd,data,sl⟩,ho,hc,n,hd⟩:=id ht
 simp only at hc hd
 subst hc hd
 refine callType_new b2E (by decide) (F.typeCall_reversed_1 _) (F.newCall_reversed_1 _) (λobj=>F.args_object_init_2 obj _) F.entry_reversed_new (b39 l items n dd sl hfit) ⟨ho,λtk=> ?_⟩
 exact⟨⟨_,Ae _ rfl,rfl⟩,h tk⟩
theorem b5C{z:Str}{t:Tok}{Q:AA->AD->Prop}(hfit:(z.length:Int)<2 ^ 63)
 (h:∀tk,Q (.ref s.heap.objs.size) {s with heap:=s.heap.push (b5B (.str z t) ((z.length:Int) - 1)),toks:=tk}):AH (model prog w) A (call (.type "reversed") [.str z t]) Q E s:=by
 refine callType_new b2E (by decide) (F.typeCall_reversed_1 _) (F.newCall_reversed_1 _) (λobj=>F.args_object_init_2 obj _) F.entry_reversed_new (b6V z t hfit) (λtk=> ?_)
 exact⟨⟨_,Ae _ rfl,rfl⟩,h tk⟩
end
def a3K(h:Heap)(it:AB)(v:AA)(i:Int):Prop:=∃o,h.get? it=ξ o/\o.cls= .type "reversed"/\o.data= .fields #[v,rawInt i]
theorem a3K.typeIs{s:AD}{it:AB}{v:AA}{i:Int}(x:a3K s.heap it v i):s.TypeIs (.ref it) "reversed":=by obtain⟨o,ho,hc,_⟩:=x;exact⟨o,ho,hc⟩
theorem a3K.at{h h':Heap}{it:AB}{v:AA}{i:Int}(x:a3K h it v i)(e:∀o,h.get? it=ξ o->h'.get? it=ξ o):a3K h' it v i:=by obtain⟨o,ho,r⟩:=x;exact⟨o,e _ ho,r⟩
structure b10(prog:AJ)(w:AI)(u:AA)(T gid:String)(fp:List AB)(n:Nat)(P:Nat->AA->Prop)(Sq:Heap->Prop):Prop where
 frame:∀h h',Sq h->(∀b∈fp,∀o,h.get? b=ξ o->h'.get? b=ξ o)->Sq h'
 ty:∀s:AD,Sq s.heap->s.TypeIs u T
 gi:typeLookup (.type T) "__getitem__"=pure (ξ (.builtin gid))
 get:∀(A:AK) (E:AA->AD->Prop) (s:AD) (j:Nat) (t:Tok) (Q:AA->AD->Prop),j<n->Sq s.heap->(∀v tk,P j v->Q v {s with toks:=tk})->AH (model prog w) A (getItem u (.int (j:Int) t)) Q E s
 len:∀(A:AK) (E:AA->AD->Prop) (s:AD) (Q:AA->AD->Prop),Sq s.heap->(∀t tk,s.toks<=tk->Q (.int n t) {s with toks:=tk})->AH (model prog w) A (call (.builtin "len") [u]) Q E s
 ne:(u==Value.none)=false
section
variable {prog:AJ}{w:AI}{A:AK}{E:AA->AD->Prop}{s:AD}{u:AA}{T gid:String}{fp:List AB}{n:Nat}{P:Nat->AA->Prop}{Sq:Heap->Prop}
theorem b4a(S:b10 prog w u T gid fp n P Sq){it:AB}{j:Nat}{Q:Option AA->AD->Prop}(hit:a3K s.heap it u (j:Int))(hj:j<n)(hs:Sq s.heap)
 (hQ:∀v h' tk,P j v->a3K h' it u ((j:Int) - 1)->Heap.SameBut it s.heap h'->Q (ξ v) {s with heap:=h',toks:=tk}):AH (model prog w) A (pyNext (.ref it)) Q E s:=by
 obtain⟨o,ho,hc,hd⟩:=id hit
 unfold pyNext
 refine AF (wpAny_attempt (wpAny_callSpecial?_slot (name:=AC "__next__") hit.typeIs W6
  (wpAny_call_entry W6 hit.typeIs a5M ?_ (a7y _))))
 unfold Builtin.«reversed.__next__»
 refine AF (wpAny_of_eq (a:=(Value.ref it,[])) rfl ?_)
 try dsimp only
 refine AF (wpAny_field ho hd (x:=u) rfl ?_)
 refine AF (wpAny_field ho hd (x:=rawInt (j:Int)) rfl ?_)
 show AH _ _ (if(j:Int)<0 then _ else _) _ _ s
 rw [if_neg (by lia)]
 refine AF (wpAny_specialOf (S.ty s hs) S.gi ?_)
 rw [if_neg (show ¬(ξ (Value.builtin gid)).isNone=true from Ac)]
 refine AF (wpAny_mkInt ?_)
 refine AF (wpAny_attempt (S.get _ _ _ j _ _ hj hs λv tk hv=> ?_))
 dsimp only
 refine AF (wpAny_field (s:={s with toks:=tk}) ho hd (x:=rawInt (j:Int)) rfl ?_)
 show AH _ _ (setField (.ref it) 1 (rawInt ((j:Int) - 1))>>=λ_=>ret v) _ _ _
 refine AF (wpAny_setField (s:={s with toks:=tk}) ho hd (by simp) ?_)
 refine AR ⟨v,rfl,AR (hQ _ _ _ hv ?_ (Heap.SameBut.update ..))⟩
 exact⟨_,Heap.get?_update_self _ ho (Obj.isFreed_of_fields (Obj.data_mapFields hd _)),(Obj.cls_mapFields ..).trans hc,by
  rw [Obj.data_mapFields hd];simp⟩
theorem b5E{it:AB}{Q:Option AA->AD->Prop}(hh:A.handled=ζ)(hit:a3K s.heap it u (-1))
 (hQ:∀h',Heap.ExtBut it s.heap h'->Q ζ {s with heap:=h'}):AH (model prog w) A (pyNext (.ref it)) Q E s:=by
 obtain⟨o,ho,hc,hd⟩:=id hit
 unfold pyNext
 refine AF (wpAny_attempt (wpAny_callSpecial?_slot (name:=AC "__next__") hit.typeIs W6
  (wpAny_call_entry W6 hit.typeIs a5M ?_ (a7y _))))
 unfold Builtin.«reversed.__next__»
 refine AF (wpAny_of_eq (a:=(Value.ref it,[])) rfl ?_)
 try dsimp only
 refine AF (wpAny_field ho hd (x:=u) rfl ?_)
 refine AF (wpAny_field ho hd (x:=rawInt (-1)) rfl ?_)
 show AH _ _ (if(-1:Int)<0 then _ else _) _ _ s
 rw [if_pos (by decide)]
 refine AF (wpAny_rule ?_)
 refine AF ?_
 show AH _ _ (setField (.ref it) 1 (rawInt (-1))>>=λ_=>setField (.ref it) 0 Value.none) _ _ s
 refine AF (wpAny_setField ho hd (by simp) ?_)
 have ho1:=Heap.get?_update_self (Obj.mapFields (·.setIfInBounds 1 (rawInt (-1)))) ho (Obj.isFreed_of_fields (Obj.data_mapFields hd _))
 have hd1:=Obj.data_mapFields hd (·.setIfInBounds 1 (rawInt (-1)))
 refine wpAny_setField (s:={s with heap:=_}) ho1 hd1 (by simp) ?_
 refine AF ?_
 show AH _ _ (newExc (.type "StopIteration") []>>=_) _ _ _
 refine AF ?_
 simp only [newExc,newTuple]
 refine AF (wpAny_newObj_type ?_ (by size_fits))
 refine AF (m:=firstArgMember _ _) (wpAny_of_eq (a:=Value.none) (by first|rfl|(simp only [firstArgMember];rfl)) ?_)
 refine wpAny_newObj_type ?_ (by size_fits)
 simp only [raiseNew]
 refine AF (wpAny_handled ?_)
 first|rw [show A.in1.handled=ζ from hh]|rw [hh]
 refine AF (AR (wpAny_throw ?_))
 refine AF (wpAny_isInstance (T:="StopIteration") (b:=true) ⟨_,Ae _ rfl,rfl⟩ isSubtype_stop ?_)
 refine AR (hQ _ ?_)
 refine Heap.ExtBut.push ?_ _
 refine Heap.ExtBut.push ?_ _
 exact(Heap.SameBut.update ..).extBut.trans (Heap.SameBut.update ..).extBut
theorem b38{it:AB}{i:Int}{Q:AA->AD->Prop}(hit:a3K s.heap it u i)(h:Q (.ref it) s):AH (model prog w) A (pyIter (.ref it)) Q E s:=by
 refine wpAny_pyIter_slot hit.typeIs a7z (wpAny_call_entry a7z hit.typeIs b1U ?_ (b37 _));show AH _ _ (ret (.ref it)) _ _ s;exact AR ⟨_,rfl,"reversed",_,hit.typeIs,W6.lookup,h⟩
theorem c3v(S:b10 prog w u T gid fp n P Sq){it:AB}{Q:AA->AD->Prop}(hit:a3K s.heap it u ((n:Int) - 1))(hs:Sq s.heap)
 (hQ:∀t tk,s.toks<=tk->Q (.int n t) {s with toks:=tk}):AH (model prog w) A (call (.builtin "reversed.__length_hint__") [.ref it]) Q E s:=by
 obtain⟨o,ho,hc,hd⟩:=id hit
 refine wpAny_call_entry a3f hit.typeIs b1T ?_ (b36 _)
 unfold Builtin.«reversed.__length_hint__»
 refine AF (wpAny_of_eq (a:=Value.ref it) rfl ?_)
 refine AF (wpAny_field ho hd (x:=u) rfl ?_)
 rw [if_neg (by rw [S.ne];decide)]
 refine AF (S.len _ _ _ _ hs λt tk htk=> ?_)
 refine AF (m:=asInt? (.int n t)) (AR ?_)
 dsimp only
 refine AF (wpAny_field (s:={s with toks:=tk}) ho hd (x:=rawInt ((n:Int) - 1)) rfl ?_)
 show AH _ _ (if(n:Int)<(n:Int) - 1+1 then _ else retInt ((n:Int) - 1+1)) _ _ _
 rw [if_neg (by lia)]
 have e:(n:Int) - 1+1=n:=by lia
 rw [e]
 refine AF (m:=mkInt _) (wpAny_mkInt ?_)
 exact AR ⟨_,rfl,hQ _ _ (by show s.toks<=tk+1;lia)⟩
end
theorem c1J{prog:AJ}{w:AI}{u:AA}{T gid:String}{fp:List AB}{n:Nat}{P:Nat->AA->Prop}{Sq:Heap->Prop}(S:b10 prog w u T gid fp n P Sq){A:AK}(hh:A.handled=ζ)(it:AB)(hne:it∉fp):
 Walks prog w A it (it::fp) [it] n (λi v=>P (n - 1 - i) v) (λi h=>i<=n/\a3K h it u ((n:Int) - 1 - (i:Int))/\Sq h) where
 sub:=λb hb=>by simp at hb;simp [hb]
 frame:=λ_ _ _ x hk=>⟨x.1,x.2.1.at λo e=>hk it (by simp) o e,S.frame _ _ x.2.2 λb hb o e=>hk b (by simp [hb]) o e⟩
 item:=λi s Q E hi x hQ=>by
  have e:(n:Int) - 1 - (i:Int)=((n - 1 - i:Nat):Int):=by lia
  have hit:=x.2.1;rw [e] at hit;refine b4a S hit (by lia) x.2.2 λv h' tk hv hit' hs'=> ?_
  have e2:((n - 1 - i:Nat):Int) - 1=(n:Int) - 1 - ((i+1:Nat):Int):=by lia
  rw [e2] at hit';exact hQ _ h' tk hv ⟨hi,hit',S.frame _ _ x.2.2 λb hb o eo=>(hs'.2 b (λh=>hne (h▸hb))).trans eo⟩ λb o hb eo=>hs'.extBut b o (λh=>hb (by simp [h])) eo
 done:=λs Q E x hQ=>by
   have e:(n:Int) - 1 - (n:Int)= -1:=by lia
   have hit:=x.2.1;rw [e] at hit;exact b5E hh hit λh' he'=>hQ h' s.toks λb o hb eo=>he' b o (λh=>hb (by simp [h])) eo
 self:=λ_ _ _ _ x hQ=>b38 x.2.1 hQ
section
variable {prog:AJ}{w:AI}{A:AK}{E:AA->AD->Prop}{s:AD}{u:AA}{T gid:String}{fp:List AB}{n:Nat}{P:Nat->AA->Prop}{Sq:Heap->Prop}
abbrev a6a:Obj:={cls:= .type "list",data:= .seq ([]:List AA).toArray}
theorem b0z(S:b10 prog w u T gid fp n P Sq){it:AB}{Q:List AA->AD->Prop}(hh:A.handled=ζ)(hit:a3K s.heap it u ((n:Int) - 1))(hs:Sq s.heap)(hne:it∉fp)(hfp:∀b∈fp,b<s.heap.objs.size)(hn:n<=AM)
 (hQ:∀s' acc,Moved [it] (λa b=>b=a) s s'->ItemsOf (λi v=>P (n - 1 - i) v) acc n->Q acc.toList s'):AH (model prog w) A (collect (.ref it)) Q E s:=by
 have W:=(c1J S (A:=A.in1) hh it hne).toS
 have lt0:∀b∈it::fp,b<s.heap.objs.size:=λb hb=>by
  rcases Ab.mp hb with rfl|hb
  ·obtain⟨o,ho,_⟩:=hit;exact AU ho
  ·exact hfp b hb
 have nf:s.heap.objs.size∉it::fp:=λhm=>Nat.lt_irrefl _ (lt0 _ hm)
 have nI:s.heap.objs.size≠it:=λe=>nf (e▸AZ)
 unfold collect
 apply AF
 apply wpAny_runValue
 apply codeAny_builtin F.entry_proto_collect
 rw [Around.under_plainId F.plain_proto_collect]
 show AH (model prog w) A.in1 (newList []>>=λl=>again (.builtin "list.__iadd__" ⟨[l,.ref it],[]⟩)) _ _ _
 apply AF
 refine wpAny_newObj_type ?_
 refine AR ⟨plainId_quiet F.plain_list_iadd _, ?_⟩
 apply codeAny_builtin F.entry_list_iadd
 rw [Around.under_plainId F.plain_list_iadd]
 have st1:(λi (s:AD)=>i<=n/\a3K s.heap it u ((n:Int) - 1 - (i:Int))/\Sq s.heap) 0 {s with heap:=s.heap.push a6a}:=
  ⟨Nat.zero_le _,by simpa using hit.at λo e=>AV _ e,S.frame _ _ hs λb _ o e=>AV _ e⟩
 have it1:a3K (s.heap.push a6a) it u ((n:Int) - 1):=hit.at λo e=>AV _ e
 have tI:({s with heap:=s.heap.push a6a}:AD).TypeIs (.ref it) "reversed":=it1.typeIs
 show AH (model prog w) A.in1 (Builtin.List.listExtendWith (.ref s.heap.objs.size) (.ref it) (.ref s.heap.objs.size)) _ _ _
 unfold Builtin.List.listExtendWith
 apply AF (wpAny_typeOf tI ?_)
 have h1:Builtin.List.listSameRef (.ref s.heap.objs.size) (.ref it)=false:=by simp [Builtin.List.listSameRef,nI]
 rw [if_neg (by rw [h1];decide)]
 apply AF (b38 it1 ?_)
 apply AF (wpAny_holding ?_)
 unfold Builtin.List.listLengthHint
 apply AF (wpAny_specialOf tI c1F ?_)
 show AH (model prog w) A.in1 (specialOf (Value.ref it) (AC "__length_hint__")>>=_) _ _ _
 apply AF (wpAny_specialOf tI a3f.lookup ?_)
 have hsp:splitId "reversed.__length_hint__"=ξ ("reversed","__length_hint__"):=by decide+kernel
 have hbs:=a3f.bind (.ref it)
 (generalize hid:("reversed.__length_hint__":String)=idh;wp_delta;rw [show splitId idh=ξ ("reversed","__length_hint__") by rw [<-hid];exact hsp];subst hid)
 apply AF (wpAny_isInstance (b:=true) tI c1H ?_)
 rw [if_neg (by decide)]
 dsimp only
 rw [if_neg (by decide+kernel)]
 apply AF (wpAny_rule ?_)
 apply AF (wpAny_of_eq hbs ?_)
 dsimp only
 apply AF (wpAny_attempt (c3v S it1 st1.2.2 λt tk htk=> ?_))
 dsimp only
 have hai:∀(k:Int) (t:Tok),asInt? (.int k t)=pure (ξ k):=λk t=>rfl
 rw [hai,pure_bind]
 dsimp only
 have hsl:=sizeLine_eq
 have f1:Builtin.List.listFitsIndex (n:Int)=true:=fitsIndex_both (by lia) (by lia)
 have f2:Builtin.List.listTooLong (n:Int).toNat=false:=b5e (by rw [BB];exact hn)
 rw [if_neg (by rw [f1];decide),if_neg (by lia),if_neg (by rw [f2];decide)]
 apply AR
 have S1:(s.heap.push a6a).get? s.heap.objs.size=ξ a6a:=Ae _ rfl
 have last:∀(h2:Heap) (c:Nat),h2.get? s.heap.objs.size=ξ {cls:= .type "list",dict:=ζ,data:= .seq #[] c,slots:= #[]}->(∀b o,b≠s.heap.objs.size->(s.heap.push a6a).get? b=ξ o->h2.get? b=ξ o)->
  codeAny (model prog w) A (.builtin "list.extend.loop" ⟨[.ref s.heap.objs.size,.ref it,.ref s.heap.objs.size],[]⟩) (λr s'=>r= .ok (.ret (.ref s.heap.objs.size))/\AH (model prog w) A (load s.heap.objs.size>>=λo=>match o.data with
   | .seq xs _=>pure xs.toList
   |_=>unsupported "internal:collect") Q E s') {s with heap:=h2,toks:=tk}:=by
  intro h2 c e2 oth
  refine codeAny_extend_loopS W hn _ nf _ n 0 _ _ c rfl (Nat.zero_le _) ?_ e2 (ItemsOf.nil _) λs' acc' c' hm hS' hacc=>⟨rfl, ?_⟩
  ·exact⟨Nat.zero_le _,by simpa using it1.at λo e=>oth it o (Ne.symm nI) e,S.frame _ _ st1.2.2 λb hb o e=>oth b o (λh=>nf (h▸Aa _ hb)) e⟩
  ·refine AF (wpAny_load hS' (AR (hQ s' acc' ?_ hacc)))
   exact {heap:=λb o hb e=>hm.heap b o (λh=>by
    rcases Ab.mp h with h|h
    ·exact Af (AU e) h
    ·exact hb h) (oth b o (Af (AU e)) (AV _ e)),gens:=hm.gens,drawn:=hm.drawn,os:=hm.os,toks:=Nat.le_trans htk hm.toks}
 by_cases h0:n=0
 ·subst h0
  rw [if_neg (by decide+kernel)]
  refine AR ⟨plainId_quiet F.plain_extend_loop _,codeAny_mono (last _ _ S1 λb o _ e=>e) λr s' hr=> ?_⟩
  obtain⟨rfl,hr⟩:=hr
  exact hr
 ·rw [if_pos (by
   have:((n:Int) !=0)=true:=by simp;lia
   rw [this];rfl)]
  apply AF (wpAny_rule ?_);apply AF;show AH (model prog w) A.in1 (updateSeq s.heap.objs.size (·.push .none)>>=λ_=>updateSeq s.heap.objs.size (·.pop)) _ _ _;apply AF (wpAny_updateSeq (s:={s with heap:=s.heap.push a6a,toks:=tk}) S1 rfl ?_)
  have S2:=Heap.get?_update_self (Obj.mapSeq (·.push Value.none)) S1 rfl;refine wpAny_updateSeq (s:={s with heap:=_,toks:=tk}) S2 rfl ?_
  have S3:=Heap.get?_update_self (Obj.mapSeq (·.pop)) S2 rfl;refine AR ⟨plainId_quiet F.plain_extend_loop _,codeAny_mono (last _ _ S3 λb o hb e=>(Heap.get?_update_other _ _ (Ne.symm hb)).trans ((Heap.get?_update_other _ _ (Ne.symm hb)).trans e)) λr s' hr=> ?_⟩;obtain⟨rfl,hr⟩:=hr;exact hr
end
theorem b9p(prog:AJ)(w:AI)(l:AB)(items:Array AA)(hn:items.size<=AM):b10 prog w (.ref l) "tuple" "tuple.__getitem__" [l] items.size (λj v=>items[j]?=ξ v) (λh=>IsTup h l items) where
 frame:=λh h' ⟨o,ho,r⟩ k=>⟨o,k l (by simp) o ho,r⟩
 ty:=λs h=>h.typeIs
 gi:=slot_tuple_getitem.lookup
 get:=λA E s j t Q hj h hQ=>by
  have hs:=sizeLine_eq;refine getItem_tuple (j:=j) (x:=items[j]) h (by lia) (by lia) ?_ (Array.getElem?_eq_getElem hj) (hQ _ s.toks (Array.getElem?_eq_getElem hj))
  unfold seqIndex?;simp
  lia
 len:=λA E s Q h hQ=>by
  have hs:=sizeLine_eq;exact len_tuple h (by lia) (hQ _ _ (by lia))
 ne:=rfl
theorem c3y(prog:AJ)(w:AI)(z:Str)(t:Tok)(hn:z.length<=AM):b10 prog w (.str z t) "str" "str.__getitem__" [] z.length (λj v=>∃c t',z.cps[j]?=ξ c/\v= .str ⟨#[c]⟩ t') (λ_=>True) where
 frame:=λ_ _ _ _=>trivial
 ty:=λs _=>typeIs_str s z t
 gi:=PySem.F.slot_str_getitem.lookup
 get:=λA E s j t Q hj h hQ=>by
  have hs:=sizeLine_eq;have hc:z.cps[j]?=ξ z.cps[j]:=Array.getElem?_eq_getElem hj;refine getItem_str (c:=z.cps[j]) ?_ ?_ (hQ _ _ ⟨_,_,hc,rfl⟩)
  ·have e1:¬((j:Int)< -(2 ^ 63:Int)):=by lia
   have e2:¬((j:Int)>=2 ^ 63):=by lia
   rw [decide_eq_false e1,decide_eq_false e2];rfl
  ·have:seqIndex? (j:Int) z.length=ξ j:=by
    unfold seqIndex?;simp
    lia
   rw [this];exact hc
 len:=λA E s Q h hQ=>by
  have hs:=sizeLine_eq;exact len_str (by lia) (hQ _ _ (by lia))
 ne:=rfl
theorem c1E{items acc:Array AA}(h:ItemsOf (λi v=>items[items.size - 1 - i]?=ξ v) acc items.size):acc.toList=items.toList.reverse:=by
 obtain⟨h1,h2⟩:=h;apply List.ext_getElem?;intro i
 by_cases hi:i<items.size
 ·have e:=h2 i acc[i] (Array.getElem?_eq_getElem (by lia))
  rw [List.getElem?_reverse (by simpa using hi)]
  simp only [Array.getElem?_toList,Array.length_toList];rw [e,Array.getElem?_eq_getElem (by lia)]
 ·rw [List.getElem?_eq_none_iff.mpr (by simpa using (by lia:acc.size<=i)),List.getElem?_eq_none_iff.mpr (by simpa using (by lia:items.size<=i))]
theorem b0A(it l:AB)(items:Array AA)(hn:items.size<=AM)(hne:it≠l):
 Meets (Builtin.«tuple.__new__» ⟨[.type "tuple",.ref it],[]⟩) (λA R s=>A.handled=ζ/\a3K s.heap it (.ref l) ((items.size:Int) - 1)/\IsTup s.heap l items/\
  ∀s',Moved [it] (λa b=>b=a) s s'->R (.ok (.ret (.ref s'.heap.objs.size))) {s' with heap:=s'.heap.push {cls:= .type "tuple",data:= .seq items.toList.reverse.toArray}}):=
 .of_wp λprog w A R s h=>by
  obtain⟨hp,g,d,tk,os⟩:=s;obtain⟨hh,hit,ht,h⟩:=h;have hsub:=sub_tuple_self;have hinit:=init_tuple_lookup;have hmh:=madeHere_tuple;have hT:Shared.TypeIs ⟨hp,g,d,tk,os⟩ (.ref it) "reversed":=hit.typeIs;obtain⟨o,ho,hc,hd⟩:=id hit;have hfp:∀b∈[l],b<(Shared.mk hp g d tk os).heap.objs.size:=λb hb=>by
   obtain⟨o',ho',_⟩:=ht;rw [List.mem_singleton.mp hb];exact AU ho'
  wp_walk using wpAny_typeOf hT,b0z (A:=A.in1) (s:=⟨hp,g,d,tk,os⟩) (b9p prog w l items hn) hh hit ht (by simpa using hne) hfp hn
  intro s' acc hm hacc;dsimp only;have e:acc.toList.toArray=items.toList.reverse.toArray:=by rw [c1E hacc]
  rw [e];show AH _ _ (Builtin.Tuple.tupleExact items.toList.reverse.toArray>>=λv=>ret v) _ _ _;unfold Builtin.Tuple.tupleExact;exact AF (wpAny_newObj_type (AR ⟨_,rfl,h s' hm⟩) (by show items.toList.reverse.toArray.size<=AM;simpa using hn))
section
variable {prog:AJ}{w:AI}{A:AK}{E:AA->AD->Prop}{s:AD}
theorem c1I{it l:AB}{items:Array AA}{Q:AA->AD->Prop}(hh:A.handled=ζ)(hn:items.size<=AM)(hne:it≠l)(hit:a3K s.heap it (.ref l) ((items.size:Int) - 1))(ht:IsTup s.heap l items)
 (h:∀s',Moved [it] (λa b=>b=a) s s'->Q (.ref s'.heap.objs.size) {s' with heap:=s'.heap.push {cls:= .type "tuple",data:= .seq items.toList.reverse.toArray}}):AH (model prog w) A (call (.type "tuple") [.ref it]) Q E s:=
 callType_new F.called_tuple (by decide) (F.typeCall_tuple_1 _) (F.newCall_tuple_1 _) (λobj=>F.args_object_init_2 obj _) F.entry_tuple_new
  (b0A it l items hn hne) ⟨hh,hit,ht,λs' hm=>⟨⟨_,Ae _ rfl,rfl⟩,h s' hm⟩⟩
theorem c3x{it:AB}{x z:Str}{t tz:Tok}{Q:AA->AD->Prop}(hh:A.handled=ζ)(hn:z.length<=AM)(hit:a3K s.heap it (.str z tz) ((z.length:Int) - 1))
 (hok:z.length+z.length*x.length<=16777216)
 (h:∀s' t' k,Moved [it] (λa b=>b=a) s s'->Q (.str (Txt.join x (z.cps.toList.reverse.map λc=>⟨#[c]⟩)) t') {s' with toks:=k}):AH (model prog w) A (call (.builtin "str.join") [.str x t,.ref it]) Q E s:=by
 apply wpAny_call
 refine codeAny_call_builtin F.slot_str_join.plain F.entry_str_join (F.slot_str_join.check _ _ _ _ _ _ _ _ (typeIs_str _ _ _) (F.args_str_join_2 _ _) ?_)
 rw [join_tree_other]
 apply AF (wpAny_typeOf hit.typeIs ?_)
 show AH (model prog w) A.in1 ((pyIter (.ref it)).tryCatch _>>=λi=>collect i>>=λitems=>joinTail x items) _ _ s
 apply AF (wpAny_tryCatch (b38 hit ?_))
 apply AF (b0z (A:=A.in1) (c3y prog w z tz hn) hh hit trivial (by simp) (by intro b hb;cases hb) hn λs' acc hm hacc=> ?_)
 obtain⟨l,hl⟩:=exists_strValues acc.toList λv hv=>by
  obtain⟨j,hj,rfl⟩:=Array.mem_iff_getElem.mp (Array.mem_toList_iff.mp hv);obtain⟨c,t',_,e⟩:=hacc.2 j _ (Array.getElem?_eq_getElem hj);exact⟨_,_,e⟩
 have hm1:l.map (·.1)=z.cps.toList.reverse.map λc=>(⟨#[c]⟩:Str):=by
  have hlen:l.length=z.cps.size:=by
   have:=congrArg List.length hl;rw [show(strValues l).length=l.length by simp [strValues]] at this
   rw [this,Array.length_toList];exact hacc.1
  apply List.ext_getElem?;intro i
  by_cases hi:i<z.cps.size
  ·have h1:(strValues l)[i]?=acc[i]?:=by rw [hl];simp
   have hia:i<acc.size:=by rw [hacc.1];exact hi
   have h2:acc[i]?=ξ acc[i]:=Array.getElem?_eq_getElem hia;obtain⟨c,t',e1,e2⟩:=hacc.2 i _ h2;have h3:(l[i]?).map (λp=>Value.str p.1 p.2)=ξ (.str ⟨#[c]⟩ t'):=by
    rw [<-e2,<-h2,<-h1];simp [strValues]
   have h4:l[i]?=ξ l[i]:=Av (by lia)
   rw [h4,BA] at h3;injection h3 with h3
   injection h3 with h5 h6
   rw [Ao,h4,BA,h5,Ao,List.getElem?_reverse (by simpa using hi)]
   simp only [Array.getElem?_toList,Array.length_toList];have e1':z.cps[z.cps.size - 1 - i]?=ξ c:=e1;rw [e1']
   rfl
  ·rw [List.getElem?_eq_none_iff.mpr (by rw [AW];lia),List.getElem?_eq_none_iff.mpr (by simp;lia)]
 rw [<-hl]
 have hsum:((l.map (·.1)).map (·.length)).sum=z.cps.size:=by
  rw [hm1,Ah];have:∀cs:List Nat,(cs.map ((λx:Str=>x.length)∘λc=>(⟨#[c]⟩:Str))).sum=cs.length:=by
   intro cs
   induction cs with
   |nil=>rfl
   |cons a cs ih=>rw [AN,List.sum_cons,ih,AX];show 1+_=_;lia
  rw [this];simp
 have hok':JoinOk x (l.map (·.1))=true:=joinOk_of (by
  rw [hsum,hm1]
  simpa [Str.length] using hok)
 unfold JoinOk at hok'
 rw [Bool.not_eq_true'] at hok'
 have gj:Gives (joinTail x (strValues l)) (joinMade x l):=by
  have g0:=gives_joinTail x l hok';cases l with
  |nil=>exact g0
  |cons p r=>cases r<;>exact g0
 refine gj prog w A (wants Q E) s' (post_join l ⟨joinFit_length hok',λt' k=> ?_⟩)
 rw [hm1]
 exact h s' t' k hm
end
section
variable {X:Cx}
def a9f:d7->Option d7
 | .v (.tuple ps)=>ξ (.v (.tuple ps.reverse))
 |_=>ζ
def a60:d7->d7->Option d7
 | .v (.str x),.v (.str z)=>if z.length+z.length*x.length<=16777216 then ξ (.v (.str (Txt.join x (z.cps.toList.reverse.map λc=>⟨#[c]⟩)))) else ζ
 |_,_=>ζ
theorem n8.reverse{K:AE}{H:Hp}:∀{ps:List PV} {xs:List V},n8 K H ps xs->n8 K H ps.reverse xs.reverse
 |[],_,r=>by cases r;exact rfl
 |p::ps,_,⟨x,r,e,hp,t⟩=>by
  subst e;rw [List.reverse_cons,List.reverse_cons];exact(n8.reverse t).append ⟨x,[],rfl,hp,rfl⟩
theorem u9.reverse:∀{xs:List V} {us:List AA},u9 xs us->u9 xs.reverse us.reverse
 |_,_,.nil=> .nil
 |_,_,.cons a b=>by
  rw [List.reverse_cons,List.reverse_cons];exact(u9.reverse b).append (.cons a .nil)
theorem c1G{pins:List (AB×Obj)}{σ:L2.St}{H:Hp}{s s':AD}{o:Obj}{tk:Nat}(I:n3 X pins σ H s)(hm:Moved [s.heap.objs.size] (λa b=>b=a) {s with heap:=s.heap.push o,toks:=tk} s')(k:Nat):n3 X pins σ H {s' with toks:=k}:=by
 obtain⟨hp,g,d,t,os⟩:=s';obtain⟨h1,h2,h3,h4,h5⟩:=hm;simp only at h1 h2 h3 h4 h5;subst h2 h3 h4;exact I.kept (t':=k) λb u e=>h1 b u (λh=>Af (AU e) (List.mem_singleton.mp h)) (AV _ e)
theorem b8u{e:AG}{m:M}{p p2 pos pos2:Pos}(hc:X.calm=true)(hg:Gl X "tuple")(hm:X.mg "tuple"=ζ)(hg2:Gl X "reversed")(hm2:X.mg "reversed"=ζ)(ha:EE X e m)
 (hv:bootBuiltins "tuple"=ξ (.type "tuple"):=by rfl) (hv2:bootBuiltins "reversed"=ξ (.type "reversed"):=by rfl)
 (hs:AL [e] X.env=(false,eval e X.env)::AL [] X.env:=by rfl) (hpl:(backTo pos2 (AL [] X.env)).any (·.1)=false:=by rfl)
 (hs2:AL [.Call (.Name "reversed" p2) [e] [] pos2] X.env=(false,eval (.Call (.Name "reversed" p2) [e] [] pos2) X.env)::AL [] X.env:=by rfl) (hpl2:(backTo pos (AL [] X.env)).any (·.1)=false:=by rfl):
 EE X (.Call (.Name "tuple" p) [.Call (.Name "reversed" p2) [e] [] pos2] [] pos) (m1 a9f m):=by
 intro pins s σ H Q I h
 obtain⟨F,ρ,r,en,em,k⟩:=h
 obtain⟨rx,e1,e2⟩:=bind_some em
 refine wpAny_Call_Name_kw (a18 I hg hm hv ?_ (by decide) (by decide))
 refine PyProof.Rows.callWith_type1 ?_ hs2 hpl2
 rw [hs2]
 show AH _ _ (spliced ((false,eval (.Call (.Name "reversed" p2) [e] [] pos2) X.env)::backTo pos (AL [] X.env))) _ _ s
 refine Calls.spliced_cons ?_
 refine wpAny_Call_Name_kw (a18 I hg2 hm2 hv2 ?_ (by decide) (by decide))
 refine PyProof.Rows.callWith_type1 (M8 (Q5 ha a2d hs pos2 pins s σ H (λvs H1=>∃v F1,vs=[v]/\B2 X.K F H F1 H1 v rx) I ⟨F,ρ,rx,en,e1,λv F1 H1 o1=>⟨v,F1,rfl,o1⟩⟩) λus s1 ⟨vs,H1,I1,rv,v,F1,ev,o1⟩=> ?_) hs hpl
 subst ev
 obtain⟨u,rfl,ru⟩:=a2I rv
 unfold a9f at e2
 split at e2
 ·rename_i ps
  cases e2
  obtain⟨a,xs,rfl,hq,rl⟩:=o1.rep
  cases ru
  obtain⟨its,r1,ht,hz⟩:=I1.tuple (w4 o1.x.fh hq.sq)
  have hsl:=sizeLine_eq
  have hlen:its.toArray.size=xs.length:=by rw [Ai];exact r1.length.symm
  refine b1S ht (by lia) λtk=> ?_
  refine Calls.spliced_nil ?_
  have ht':IsTup (s1.heap.push (b5B (.ref a) ((its.toArray.size:Int) - 1))) a its.toArray:=by
   obtain⟨o,ho,r⟩:=ht;exact⟨o,AV _ ho,r⟩
  have hne:s1.heap.objs.size≠a:=by
   obtain⟨o,ho,_⟩:=ht;exact Nat.ne_of_gt (AU ho)
  refine c1I (s:={s1 with heap:=_,toks:=tk}) (I1.ok.hd hc) (by lia) hne ⟨_,Ae _ rfl,rfl,rfl⟩ ht' λs' hmv=> ?_
  have I2:=c1G I1 hmv s'.toks
  refine⟨.ref s'.heap.objs.size,_,I2.laid (t':=s'.toks) (o:= .tup xs.reverse) (λb ob q=>AV _ q) (AS _) ?_,rfl,k _ _ _ (B2.trans o1.x (B2.tup o1.x.fh (I2.hok.fresh (AS _)) rl.reverse))⟩
  exact⟨by rw [List.length_reverse];exact hz,_,u9.reverse r1,by simpa using IsTup.new _ _⟩
 ·cases e2
theorem b6e{o e:AG}{m n:M}{apos cpos p2 pos2:Pos}(hc:X.calm=true)(hg2:Gl X "reversed")(hm2:X.mg "reversed"=ζ)(ho:EE X o m)(ha:EE X e n)
 (hv2:bootBuiltins "reversed"=ξ (.type "reversed"):=by rfl)
 (hbase:attributeBase o "join" X.env (eval o X.env)=eval o X.env:=by rfl)
 (hfew:((backTo cpos (AL [.Call (.Name "reversed" p2) [e] [] pos2] X.env)).all (λx=> !x.1)&&(backToKw cpos (keywordEach [] X.env)).all (λx=>x.1.isSome)
  && decide ([Expr.Call (.Name "reversed" p2) [e] [] pos2].length+([]:List Keyword).length+(if([]:List Keyword).isEmpty then 0 else 1)<30))=true:=by rfl)
 (hline:(apos.endLine==cpos.line)=true:=by rfl)
 (hs:AL [e] X.env=(false,eval e X.env)::AL [] X.env:=by rfl) (hpl:(backTo pos2 (AL [] X.env)).any (·.1)=false:=by rfl)
 (hs2:AL [.Call (.Name "reversed" p2) [e] [] pos2] X.env=(false,eval (.Call (.Name "reversed" p2) [e] [] pos2) X.env)::AL [] X.env:=by rfl) (hpl2:(backTo cpos (AL [] X.env)).any (·.1)=false:=by rfl):
 EE X (.Call (.Attribute o "join" apos) [.Call (.Name "reversed" p2) [e] [] pos2] [] cpos) (m2 a60 m n):=by
 intro pins s σ H Q I h
 obtain⟨F,ρ,r,en,em,k⟩:=h
 obtain⟨rx,e1,em⟩:=bind_some em
 obtain⟨ry,e2,e3⟩:=bind_some em
 unfold a60 at e3
 split at e3
 ·rename_i x z
  split at e3
  ·rename_i c
   cases e3
   refine wpAny_Call_method_late hbase hfew hline rfl (M8 (ho pins s σ H (λv H1=>∃F1,B2 X.K F H F1 H1 v (.v (.str x))) I ⟨F,ρ,_,en,e1,λv F1 H1 o1=>⟨F1,o1⟩⟩) λv s1 ⟨xv,H1,I1,r1,⟨F1,o1⟩⟩=> ?_)
   cases o1.rep
   obtain⟨h1,h2⟩:=c14 (T:="str") I1 r1 rfl
   refine⟨"str","str.join",PySem.F.plainAttrs_str,PySem.F.slot_str_join,PySem.F.type_str_join,h1,h2, ?_⟩
   rw [hs2]
   refine Calls.callWith_builtin (by show(false||(backTo cpos (AL [] X.env)).any (·.1))=false;rw [hpl2]<;>rfl) (Calls.evalArgs_plain ?_)
   refine Calls.spliced_cons ?_
   refine wpAny_Call_Name_kw (a18 I1 hg2 hm2 hv2 ?_ (by decide) (by decide))
   refine PyProof.Rows.callWith_type1 (M8 (Q5 ha a2d hs pos2 pins s1 σ H1 (λvs H2=>∃v F2,vs=[v]/\B2 X.K F1 H1 F2 H2 v (.v (.str z))) I1 ⟨F1,ρ,_,en.ext o1.x,e2,λv F2 H2 o2=>⟨v,F2,rfl,o2⟩⟩) λus s2 ⟨vs,H2,I2,rv,v2,F2,ev,o2⟩=> ?_) hs hpl
   subst ev
   obtain⟨u,rfl,ru⟩:=a2I rv
   cases o2.rep
   obtain⟨tz,rfl⟩:=ru
   obtain⟨tx,rfl⟩:=r1
   have hsl:=sizeLine_eq
   refine b5C (by lia) λtk=> ?_
   refine Calls.spliced_nil ?_
   refine c3x (s:={s2 with heap:=_,toks:=tk}) (I2.ok.hd hc) (by lia) ⟨_,Ae _ rfl,rfl,rfl⟩ c λs' t' k' hmv=> ?_
   exact⟨.str _,H2,c1G I2 hmv k',⟨_,rfl⟩,k _ _ _ (B2.trans (o1.x.trans o2.x) (B2.here o2.x.fh rfl))⟩
  ·cases e3
 ·cases e3
theorem b8G(ps:List PV):a9f (.v (.tuple ps))=ξ (.v (.tuple ps.reverse)):=Eq.trans rfl rfl
end
def O4(kvs:List (List u8×PV))(k:List u8):Option PV:=(kvs.find? λkv=>decide (kv.1=k)).map (·.2)
def b6R(kvs:List (List u8×PV))(k:List u8)(v:PV):List (List u8×PV):=
 if(kvs.any λkv=>decide (kv.1=k))=true then kvs.map (λkv=>if kv.1=k then(kv.1,v) else kv) else kvs++[(k,v)]
theorem E9.length{K:AE}{H:Hp}:∀{kvs:List (List u8×PV)} {ys:List (List u8×V)},E9 K H kvs ys->ys.length=kvs.length
 |[],_,h=>by cases h;rfl
 |(k,p)::r,_,⟨v,t,e,q,h⟩=>by subst e;rw [AX,AX,E9.length h]
theorem E9.any{K:AE}{H:Hp}{k:List u8}:∀{kvs:List (List u8×PV)} {ys:List (List u8×V)},E9 K H kvs ys->(ys.any λkv=>decide (kv.1=k))=(kvs.any λkv=>decide (kv.1=k))
 |[],_,h=>by cases h;rfl
 |(k',p)::r,_,⟨v,t,e,q,h⟩=>by subst e;rw [List.any_cons,List.any_cons,E9.any h]
theorem E9.val{K:AE}{H:Hp}{k:List u8}:∀{kvs:List (List u8×PV)} {ys:List (List u8×V)},E9 K H kvs ys->(∀p,O4 kvs k=ξ p->∃v,a2n ys k=ξ v/\L3 K H p v)/\(O4 kvs k=ζ->a2n ys k=ζ)
 |[],_,h=>by cases h;exact⟨λp e=>(nomatch e),λ_=>rfl⟩
 |(k',p)::r,_,⟨v,t,e,q,h⟩=>by
  subst e
  by_cases c:k'=k
  ·have e1:O4 ((k',p)::r) k=ξ p:=by simp [O4,List.find?_cons,c]
   have e2:a2n ((k',v)::t) k=ξ v:=a2H c;rw [e1,e2];exact⟨λp' e'=>(by cases e';exact⟨v,rfl,q⟩),λe'=>(nomatch e')⟩
  ·have e1:O4 ((k',p)::r) k=O4 r k:=by simp [O4,List.find?_cons,c]
   have e2:a2n ((k',v)::t) k=a2n t k:=a2G c;rw [e1,e2];exact E9.val h
theorem E9.repl{K:AE}{H:Hp}{k:List u8}{p:PV}{v:V}(hp:L3 K H p v):∀{kvs:List (List u8×PV)} {ys:List (List u8×V)},E9 K H kvs ys->E9 K H (kvs.map λkv=>if kv.1=k then(kv.1,p) else kv) (ys.map λkv=>if kv.1=k then(kv.1,v) else kv)
 |[],_,h=>by cases h;exact rfl
 |(k',p')::r,_,⟨v',t,e,q,h⟩=>by
  subst e
  by_cases c:k'=k
  ·rw [AN,AN];simp only [if_pos c];exact⟨v,_,rfl,hp,E9.repl hp h⟩
  ·rw [AN,AN];simp only [if_neg c];exact⟨v',_,rfl,q,E9.repl hp h⟩
theorem E9.snoc{K:AE}{H:Hp}{k:List u8}{p:PV}{v:V}(hp:L3 K H p v):∀{kvs:List (List u8×PV)} {ys:List (List u8×V)},E9 K H kvs ys->E9 K H (kvs++[(k,p)]) (ys++[(k,v)])
 |[],_,h=>by cases h;exact⟨v,[],rfl,hp,rfl⟩
 |(k',p')::r,_,⟨v',t,e,q,h⟩=>by subst e;exact⟨v',_,rfl,q,E9.snoc hp h⟩
theorem E9.put{K:AE}{H:Hp}{k:List u8}{p:PV}{v:V}{kvs:List (List u8×PV)}{ys:List (List u8×V)}(r:E9 K H kvs ys)(hp:L3 K H p v):E9 K H (b6R kvs k p) (a5s ys k v):=by
 unfold b6R a5s;rw [r.any];split
 ·exact r.repl hp
 ·exact r.snoc hp
section
variable {X:Cx}
end
section
variable {prog:AJ}{w:AI}{A:AK}{E:AA->AD->Prop}{s:AD}
end
section
variable {X:Cx}{pins:List (AB×Obj)}{σ:L2.St}{H:Hp}{s:AD}{a:AB}{A:AK}{E:AA->AD->Prop}
end
section
variable {X:Cx}
end
theorem E9.isSome{K:AE}{H:Hp}{k:List u8}{kvs:List (List u8×PV)}{ys:List (List u8×V)}(r:E9 K H kvs ys):(a2n ys k).isSome=(O4 kvs k).isSome:=by
 cases hv:O4 kvs k with
 |none=>rw [(r.val (k:=k)).2 hv];rfl
 |some p=>
  obtain⟨v,e,_⟩:=(r.val (k:=k)).1 p hv;rw [e];rfl
section
variable {X:Cx}
theorem c1W{t:TE}{m:M}(i:∀σ H Q,tM X.K m σ H Q->t σ H Q){σ:L2.St}{H:Hp}{Q:Bool->Hp->Prop}(h:tMT X.K (u6 m) σ H Q):tB t σ H Q:=by
 obtain⟨F,ρ,b,h1,h2,k⟩:=h;obtain⟨r,e1,e2⟩:=bind_some h2;exact i _ _ _ ⟨F,ρ,r,h1,e1,λv F1 H1 o=>⟨b,a7w o.rep e2,k F1 H1 o.x⟩⟩
def b3y(r:d7):Option Str:=match r with
 | .v (.str x)=>ξ x
 |_=>ζ
end
section
variable {prog:AJ}{w:AI}{A:AK}{E:AA->AD->Prop}{s:AD}
end
section
variable {X:Cx}
end
section
variable {prog:AJ}{w:AI}{A:AK}{E:AA->AD->Prop}{s:AD}
theorem a7k{it t:AB}{i:Nat}{items}{x:AA}{Q:AA->AD->Prop}(hit:s.heap.IsTupleIter it t i)(ht:s.heap.IsTuple t items)(hx:items[i]?=ξ x)
 (hQ:∀h',h'.IsTupleIter it t (i+1)->Heap.SameBut it s.heap h'->Q x {s with heap:=h'}):AH (model prog w) A (Builtin.SmallTypes.nextOf (.ref it)) Q E s:=by
 obtain⟨o,ho,hc,hd⟩:=id hit
 obtain⟨ol,hol,_,nl,hdl⟩:=ht
 unfold Builtin.SmallTypes.nextOf
 refine AF (wpAny_callSpecial?_slot (name:=AC "__next__") hit.typeIs F.slot_tuple_iterator_next
  (wpAny_call_entry F.slot_tuple_iterator_next hit.typeIs F.entry_tuple_iterator_next ?_ (F.args_tuple_iterator_next_1 _)))
 show AH _ _ (field (.ref it) 0>>=_) _ _ s
 refine AF (wpAny_field ho hd (x:= .ref t) rfl ?_)
 show AH _ _ (if(Value.ref t==Value.none)=true then _ else _) _ _ s
 rw [if_neg (show ¬((Value.ref t==Value.none)=true) from Ac)]
 show AH _ _ (field (.ref it) 1>>=_) _ _ s
 refine AF (wpAny_field ho hd (x:= .int i 0) rfl ?_)
 show AH _ _ (seqItems? (.ref t)>>=_) _ _ s
 refine AF (wpAny_seqItems hol hdl ?_)
 simp only [BB,hx]
 refine AF (wpAny_setField ho hd (by simp) (AR ⟨x,rfl,AR (hQ _ ?_ (Heap.SameBut.update ..))⟩))
 exact⟨_,Heap.get?_update_self _ ho (Obj.isFreed_of_fields (Obj.data_mapFields hd _)),(Obj.cls_mapFields ..).trans hc,by
  rw [Obj.data_mapFields hd];simp [rawInt]⟩
theorem a2C{it t:AB}{i:Nat}{items}{Q:AA->AD->Prop}(hh:A.handled=ζ)(hit:s.heap.IsTupleIter it t i)(ht:s.heap.IsTuple t items)(hx:items[i]?=ζ)
 (hE:∀h' e,Heap.ExtBut it s.heap h'->(∃o,h'.get? e=ξ o/\o.cls= .type "StopIteration")->E (.ref e) {s with heap:=h'}):AH (model prog w) A (Builtin.SmallTypes.nextOf (.ref it)) Q E s:=by
 obtain⟨o,ho,hc,hd⟩:=id hit
 obtain⟨ol,hol,_,nl,hdl⟩:=ht
 unfold Builtin.SmallTypes.nextOf
 refine AF (wpAny_callSpecial?_slot (name:=AC "__next__") hit.typeIs F.slot_tuple_iterator_next
  (wpAny_call_entry F.slot_tuple_iterator_next hit.typeIs F.entry_tuple_iterator_next ?_ (F.args_tuple_iterator_next_1 _)))
 show AH _ _ (field (.ref it) 0>>=_) _ _ s
 refine AF (wpAny_field ho hd (x:= .ref t) rfl ?_)
 show AH _ _ (if(Value.ref t==Value.none)=true then _ else _) _ _ s
 rw [if_neg (show ¬((Value.ref t==Value.none)=true) from Ac)]
 show AH _ _ (field (.ref it) 1>>=_) _ _ s
 refine AF (wpAny_field ho hd (x:= .int i 0) rfl ?_)
 show AH _ _ (seqItems? (.ref t)>>=_) _ _ s
 refine AF (wpAny_seqItems hol hdl ?_)
 simp only [BB,hx]
 refine AF (wpAny_rule (AF (wpAny_setField ho hd (by simp) ?_)))
 show AH _ _ (newExc (.type "StopIteration") []>>=_) _ _ _
 refine AF ?_
 simp only [newExc,newTuple]
 refine AF (wpAny_newObj_type ?_ (by size_fits))
 refine AF (m:=firstArgMember _ _) (wpAny_of_eq (a:=Value.none) (by first|rfl|(simp only [firstArgMember];rfl)) ?_)
 refine wpAny_newObj_type ?_ (by size_fits)
 simp only [raiseNew]
 refine AF (wpAny_handled ?_)
 first|rw [show A.in1.handled=ζ from hh]|rw [hh]
 refine AF (AR (wpAny_throw ?_))
 exact hE _ _ (((Heap.SameBut.update ..).extBut.push _).push _) ⟨_,Ae _ rfl,rfl⟩
end
theorem b4K{prog:AJ}{w:AI}{A:AK}(hh:A.handled=ζ)(it l:AB)(hne:l≠it)(items:Array AA):
 Draws prog w A it [it,l] items.size (λi v=>items[i]?=ξ v) (λi h=>h.IsTupleIter it l i/\h.IsTuple l items) where
 live:=λ_ _ st=>let ⟨o,ho,_⟩:=st.1;⟨o,ho⟩
 frame:=λ_ _ _ st hk=>⟨st.1.at λo e=>hk it (by simp) o e,let ⟨o,e,r⟩:=st.2;⟨o,hk l (by simp) o e,r⟩⟩
 item:=λi s Q E hi st hQ=>by
  refine a7k st.1 st.2 (x:=items[i]) (by simp [hi]) λh' hit' hs'=> ?_
  exact hQ _ h' s.toks (by simp [hi]) ⟨hit',let ⟨o,e,r⟩:=st.2;⟨o,(hs'.2 l hne).trans e,r⟩⟩ hs'
 done:=λs Q E st hE=>a2C hh st.1 st.2 (by simp) hE
theorem a4A(l:AB)(items:Array AA)(n:Nat)(dct:Option AB)(sl:Array (Option AA)):
 Meets (Builtin.«enumerate.__new__» ⟨[.type "enumerate",.ref l],[]⟩) (λ_ R s=>s.heap.get? l=ξ {cls:= .type "tuple",dict:=dct,data:= .seq items n,slots:=sl}/\
  R (.ok (.ret (.ref (s.heap.push {cls:= .type "tuple_iterator",data:= .fields #[.ref l,.int 0 0]}).objs.size)))
   {s with heap:=(s.heap.push {cls:= .type "tuple_iterator",data:= .fields #[.ref l,.int 0 0]}).push {cls:= .type "enumerate",data:= .fields #[.none,.bool false,.ref s.heap.objs.size,rawInt 0,.none,.none]}}):=
 .of_wp λprog w A R s h=>by
  obtain⟨hp,g,d,tk,os⟩:=s;obtain⟨hl,h⟩:=h;have hsub:=sub_enumerate;have hL:Heap.IsTuple (Shared.heap ⟨hp,g,d,tk,os⟩) l items:=⟨_,hl,rfl,n,rfl⟩
  wp_walk using AutoSeq1.wpAny_loadPart' hl
  refine wpAny_stack_any λst=>AR ?_;split
  ·rename_i c _ _ _ _ _;cases(c==Value.type "enumerate")
   ·wp_walk using AutoSeq1.wpAny_loadPart' hl,wpAny_pyIter_tuple hL
    exact⟨_,rfl,h⟩
   ·wp_walk using AutoSeq1.wpAny_loadPart' hl,wpAny_pyIter_tuple hL
    exact⟨_,rfl,h⟩
  ·wp_walk using AutoSeq1.wpAny_loadPart' hl,wpAny_pyIter_tuple hL
   exact⟨_,rfl,h⟩
section
variable {prog:AJ}{w:AI}{A:AK}{E:AA->AD->Prop}{s:AD}
theorem a3V{l:AB}{items:Array AA}{Q:AA->AD->Prop}(hL:s.heap.IsTuple l items)
 (h:∀h',IsEnum h' (s.heap.objs.size+1) s.heap.objs.size 0 .none->h'.IsTupleIter s.heap.objs.size l 0->h'.objs.size=s.heap.objs.size+2->
  (∀b o,s.heap.get? b=ξ o->h'.get? b=ξ o)->Q (.ref (s.heap.objs.size+1)) {s with heap:=h'}):
 AH (model prog w) A (call (.type "enumerate") [.ref l]) Q E s:=by
 obtain⟨⟨c,dct,dt,sl⟩,hl,hc,n,hd⟩:=hL
 replace hc:c= .type "tuple":=hc
 replace hd:dt= .seq items n:=hd
 subst hc hd
 refine callType_new F.called_enumerate (by decide) (F.typeCall_enumerate_1 _) (F.newCall_enumerate_1 _) (λobj=>F.args_object_init_2 obj _) F.entry_enumerate_new
  (a4A l items n dct sl) ⟨hl, ?_⟩
 have hz:(s.heap.push {cls:= .type "tuple_iterator",data:= .fields #[.ref l,.int 0 0]}).objs.size=s.heap.objs.size+1:=Heap.size_push ..
 show _/\_
 rw [hz]
 have he:IsEnum ((s.heap.push {cls:= .type "tuple_iterator",data:= .fields #[.ref l,.int 0 0]}).push
  {cls:= .type "enumerate",data:= .fields #[.none,.bool false,.ref s.heap.objs.size,rawInt 0,.none,.none]}) (s.heap.objs.size+1) s.heap.objs.size 0 .none:=by
  have:=Ae (s.heap.push {cls:= .type "tuple_iterator",data:= .fields #[.ref l,.int 0 0]})
   (o:={cls:= .type "enumerate",data:= .fields #[.none,.bool false,.ref s.heap.objs.size,rawInt 0,.none,.none]}) rfl
  rw [hz] at this;exact this
 refine⟨⟨_,he,rfl⟩,h _ he ⟨_,AV _ (Ae _ rfl),rfl,rfl⟩ (by rw [Heap.size_push,hz]) λb o x=>AV _ (AV _ x)⟩
end
theorem n3.turnedTup{X:Cx}{pins:List (AB×Obj)}{σ:L2.St}{H:Hp}{s:AD}{h':Heap}{t':Nat}{e it:AB}{xs:List V}(I:n3 X pins σ H s)(fe:a5W X pins H e)(fi:a5W X pins H it)
 (k:∀b o,b≠e->b≠it->s.heap.get? b=ξ o->h'.get? b=ξ o) (new:N4 X.prog X.w (B9 H s.heap.objs.size (.tup xs)) h' s.heap.objs.size (.tup xs)):
 n3 X pins σ (B9 H s.heap.objs.size (.tup xs)) {s with heap:=h',toks:=t'}:=by
 have hn:H s.heap.objs.size=ζ:=I.hok.fresh (AS _)
 have nb:∀b u,H b=ξ u->b≠e/\b≠it:=λb u q=>⟨λz=>(by rw [z,fe.1] at q;cases q),λz=>(by rw [z,fi.1] at q;cases q)⟩
 refine I.step (g':=s.gens) (d':=s.drawn) (ch:=[e,it]) (λb hb=> ?_) (λb o _ _ hc q _=>k b o (λz=>hc (by simp [z])) (λz=>hc (by simp [z])) q) (λb o _ _ hc q _=>⟨o.slots,k b o (λz=>hc (by simp [z])) (λz=>hc (by simp [z])) q⟩)
  (λb o _ q n=>by rw [l8 (Af (AU q))];exact n) (λb o hc q=>⟨o,k b o (λz=>hc (by simp [z])) (λz=>hc (by simp [z])) q⟩)
  (λb xs q=>by rw [l8 (m5 q hn)];exact q) (λb o u q=>by rw [l8 (m5 q hn)];exact q) (λb ps q=>⟨#[],by rw [l8 (m5 q hn),q];simp⟩) (λm hm=> ?_) (λb u q=> ?_) I.bare
 ·have hb:b=e\/b=it:=by simpa using hb
  rcases hb with rfl|rfl
  ·exact⟨fe.2.2.2.1,fe.2.1,fe.2.2.2.2.1,fe.2.2.2.2.2⟩
  ·exact⟨fi.2.2.2.1,fi.2.1,fi.2.2.2.2.1,fi.2.2.2.2.2⟩
 ·obtain⟨o,es,ep,ho,r⟩:=hm
  exact⟨o,es,ep,k _ o (Ne.symm fe.2.1) (Ne.symm fi.2.1) ho,r⟩
 ·by_cases hb:b=s.heap.objs.size
  ·subst hb
   rw [r9] at q
   cases q
   exact new
  ·rw [l8 hb] at q
   refine(I.hok b u q).stay (λc v hc y=>k c v ?_ ?_ y) (λc y=>by rw [l8 (m5 y hn)];exact y) λc ys y=>by rw [l8 (m5 y hn)];exact y
   ·rcases hc with z|z
    ·rw [z];exact(nb b u q).1
    ·exact(nb c _ z).1
   ·rcases hc with z|z
    ·rw [z];exact(nb b u q).2
    ·exact(nb c _ z).2
def Ite(J:It):It:=⟨J.go,λi H v H'=>∃x t,J.yld i H x H/\H t=ζ/\v= .ref t/\H'=B9 H t (.tup [.int i,x]),J.stop⟩
structure b4n(P:AJ)(w:AI)(K:AE)(J:It)(it:AB)(tn:Nat->Heap->Prop):Prop where
 obj:∀i h,tn i h->∃o,h.get? it=ξ o/\∀v,o.data≠.cell v
 keep:∀i h h',tn i h->(∀o,h.get? it=ξ o->h'.get? it=ξ o)->tn i h'
 item:∀(X:Cx),X.prog=P->X.w=w->X.K=K->X.calm=true->∀(i:Nat) (pins:List (AB×Obj)) (s:AD) (σ:L2.St) (H:Hp),n3 X pins σ H s->a5W X pins H it->tn i s.heap->J.go i H->
  ∃(fp:List AB) (n:Nat) (Pq:Nat->AA->Prop) (St:Nat->Heap->Prop),Draws P w X.A.in1 it fp n Pq St/\St i s.heap/\i<n/\(∀e old,e≠it->IsEnum s.heap e it i old->e∉fp)/\(∀v,Pq i v->∃x,w6 x v/\J.yld i H x H)/\∀h',St (i+1) h'->tn (i+1) h'
 done:∀(X:Cx),X.prog=P->X.w=w->X.K=K->X.calm=true->∀(i:Nat) (pins:List (AB×Obj)) (s:AD) (σ:L2.St) (H:Hp),n3 X pins σ H s->a5W X pins H it->tn i s.heap->J.stop i H->
   ∃(fp:List AB) (n:Nat) (Pq:Nat->AA->Prop) (St:Nat->Heap->Prop),Draws P w X.A.in1 it fp n Pq St/\St n s.heap
theorem b9x{P:AJ}{w:AI}{K:AE}{J:It}{e it:AB}{tn:Nat->Heap->Prop}{elts:List AG}{x1}{pos:Pos}(D:b4n P w K J it tn)(hne:e≠it):
 b4r P w K (.Tuple elts x1 pos) (Ite J) [e,it] e (λi h=>(∃old,IsEnum h e it i old)/\tn i h) where
 mem:=by simp
 obj:=λi h ⟨⟨old,he⟩,st⟩ b hb=>by
  have hb:b=e\/b=it:=by simpa using hb
  rcases hb with rfl|rfl
  ·exact⟨_,he,λv z=>by cases z⟩
  ·exact D.obj i h st
 keep:=λi h h' ⟨⟨old,he⟩,st⟩ k=>⟨⟨old,k e (by simp) _ he⟩,D.keep i h h' st λo q=>k it (by simp) o q⟩
 item:=by
  intro X hP hw hK hc i pins s σ H E I hf ⟨⟨old,he⟩,st⟩ hg;have fe:=hf e (by simp)
  have fi:=hf it (by simp)
  obtain⟨fp,n,Pq,St,DD,hst,hlt,hef,hy,hnx⟩:=D.item X hP hw hK hc i pins s σ H I fi st hg;subst hP hw hK;refine wpAny_pyNext_enum_itemD DD he hst hlt hne (hef e old hne he) λu h' tk hPu hout hst' htup hsz hk=>⟨_,rfl, ?_⟩;obtain⟨x,rx,yx⟩:=hy u hPu;refine wpAny_letOwnedTupleGo_enum hout λh2 he2 hs2=> ?_;have helt:e<s.heap.objs.size:=AU he;have hilt:it<s.heap.objs.size:=by obtain⟨o,q,_⟩:=D.obj i _ st;exact AU q
  have htup2:h2.get? s.heap.objs.size=ξ {cls:= .type "tuple",data:= .seq #[.int i tk,u]}:=(hs2.2 _ (Nat.ne_of_gt helt)).trans htup;have I2:n3 X pins σ (B9 H s.heap.objs.size (.tup [.int i,x])) {s with heap:=h2,toks:=tk+1}:=by
   refine n3.turnedTup I fe fi (λb o hbe hbi q=>(hs2.2 b hbe).trans (hk b o hbe hbi q)) ?_;exact⟨by rw [sizeLine_eq];simp,[.int i tk,u],.cons ⟨tk,rfl⟩ (.cons rx .nil),⟨_,htup2,rfl,0,rfl⟩⟩
  refine⟨.ref s.heap.objs.size,_,I2,rfl,⟨x,s.heap.objs.size,yx,I.hok.fresh (AS _),rfl,rfl⟩,⟨⟨_,by simpa using he2⟩,D.keep _ _ _ (hnx h' hst') λo q=>(hs2.2 it (Ne.symm hne)).trans q⟩,λb hb=> ?_⟩
  have hb:b=e\/b=it:=by simpa using hb
  rcases hb with rfl|rfl
  ·rw [l8 (Af helt)];exact fe.1
  ·rw [l8 (Af hilt)];exact fi.1
 done:=by
   intro X hP hw hK hc i pins s σ H E I hf ⟨⟨old,he⟩,st⟩ hg;have fi:=hf it (by simp)
   obtain⟨fp,n,Pq,St,DD,hst⟩:=D.done X hP hw hK hc i pins s σ H I fi st hg;subst hP hw hK;exact wpAny_pyNext_enum_endD DD he hst λh' eb=>⟨rfl,I.turned (t':=s.toks) (λb o hb q=>eb b o hb q) fi.1 fi.2.1 fi.2.2.2.1 fi.2.2.2.2.1 fi.2.2.2.2.2⟩
 self:=λ_ _ _ _ _ ⟨⟨_,he⟩,_⟩ h=>wpAny_pyIter_enum he h
theorem a7S{prog:AJ}{w:AI}{A:AK}{it:AB}{fp:List AB}{i:Nat}{S0:Heap->Prop}(lv:∀h,S0 h->∃o,h.get? it=ξ o)(fr:∀h h',S0 h->(∀b∈fp,∀o,h.get? b=ξ o->h'.get? b=ξ o)->S0 h')
 (en:∀(s:AD) (Q:AA->AD->Prop) (E:AA->AD->Prop),S0 s.heap->(∀h' e,Heap.ExtBut it s.heap h'->(∃o,h'.get? e=ξ o/\o.cls= .type "StopIteration")->E (.ref e) {s with heap:=h'})->AH (model prog w) A (Builtin.SmallTypes.nextOf (.ref it)) Q E s):
 Draws prog w A it fp i (λ_ _=>True) (λk h=>k=i/\S0 h) where
 live:=λ_ h st=>lv h st.2
 frame:=λ_ h h' st k=>⟨st.1,fr h h' st.2 k⟩
 item:=λk s Q E hk st _=>by have:=st.1;lia
 done:=λs Q E st hE=>en s Q E st.2 hE
theorem b4N{P:AJ}{w:AI}{K:AE}(a it:AB):b4n P w K (Itt K a) it (λi h=>h.IsTupleIter it a i) where
 obj:=λi h st=>by
  ext k
 keep:=λi h h' st k=>st.at λo e=>k o e
 item:=by
  ext l
  obtain⟨xs,x,hq,hx⟩:=hg;obtain⟨its,rv,p,hz⟩:=I.tuple hq;obtain⟨u,hu,ru⟩:=rv.get hx;have p':s.heap.IsTuple a its.toArray:=p;have hai:a≠it:=λz=>by
   subst z;obtain⟨o,e,c,_⟩:=p';obtain⟨o2,e2,c2,_⟩:=st;rw [e] at e2;cases e2;rw [c] at c2;injection c2 with c2
   exact absurd c2 (by decide)
  refine⟨_,_,_,_,b4K (prog:=X.prog) (w:=X.w) (A:=X.A.in1) (show X.A.in1.handled=ζ from I.ok.hd hc) it a hai its.toArray,⟨st,p'⟩, ?_,λe old hne he hm=> ?_,λv hv=> ?_,λh' z=>z.1⟩
  ·have:=(Aj.mp hu).1
   simpa using this
  ·have hm:e=it\/e=a:=by simpa using hm
   rcases hm with rfl|rfl
   ·exact hne rfl
   ·obtain⟨o,q,c,_⟩:=p';rw [he] at q;cases q;injection c with c
    exact absurd c (by decide)
  ·have hv:its[i]?=ξ v:=by simpa using hv
   rw [hu] at hv;cases hv;exact⟨x,ru,rfl,λys hy=>by rw [I.tuple_inj hy hq];exact hx⟩
 done:=by
   ext l
   obtain⟨xs,hq,hx⟩:=hg;obtain⟨its,rv,p,hz⟩:=I.tuple hq;have p':s.heap.IsTuple a its.toArray:=p;have hl:=rv.length;exact⟨_,_,_,_,a7S (prog:=X.prog) (w:=X.w) (A:=X.A.in1) (it:=it) (fp:=[it,a]) (i:=i) (S0:=λh=>h.IsTupleIter it a i/\h.IsTuple a its.toArray) (λh z=>let ⟨o,ho,_⟩:=z.1;⟨o,ho⟩)
    (λh h' z k=>⟨z.1.at λo e=>k it (by simp) o e,let ⟨o,e,r⟩:=z.2;⟨o,k a (by simp) o e,r⟩⟩)
    (λs Q E z hE=>a2C (show X.A.in1.handled=ζ from I.ok.hd hc) z.1 z.2 (by simp;lia) hE),rfl,st,p'⟩
theorem b6h{P:AJ}{w:AI}{K:AE}(a it:AB):b4n P w K (Itl K a) it (λi h=>h.IsListIter it a i) where
 obj:=λi h st=>by
  ext k
 keep:=λi h h' st k=>st.at λo e=>k o e
 item:=by
  ext l
  obtain⟨xs,x,hq,hx⟩:=hg;obtain⟨its,rv,p,hz⟩:=I.list hq;obtain⟨u,hu,ru⟩:=rv.get hx;have p':s.heap.IsList a its.toArray:=p.isList;have hai:a≠it:=λz=>by
   subst z;obtain⟨o,e,c,_⟩:=p';obtain⟨o2,e2,c2,_⟩:=st;rw [e] at e2;cases e2;rw [c] at c2;injection c2 with c2
   exact absurd c2 (by decide)
  refine⟨_,_,_,_,Draws.list (prog:=X.prog) (w:=X.w) (A:=X.A.in1) (show X.A.in1.handled=ζ from I.ok.hd hc) it a hai its.toArray,⟨st,p'⟩, ?_,λe old hne he hm=> ?_,λv hv=> ?_,λh' z=>z.1⟩
  ·have:=(Aj.mp hu).1
   simpa using this
  ·have hm:e=it\/e=a:=by simpa using hm
   rcases hm with rfl|rfl
   ·exact hne rfl
   ·obtain⟨o,q,c,_⟩:=p';rw [he] at q;cases q;injection c with c
    exact absurd c (by decide)
  ·have hv:its[i]?=ξ v:=by simpa using hv
   rw [hu] at hv;cases hv;exact⟨x,ru,rfl,λys hy=>by rw [I.list_inj hy hq];exact hx⟩
 done:=by
   ext l
   obtain⟨xs,hq,hx⟩:=hg;obtain⟨its,rv,p,hz⟩:=I.list hq;have p':s.heap.IsList a its.toArray:=p.isList;have hl:=rv.length;exact⟨_,_,_,_,a7S (prog:=X.prog) (w:=X.w) (A:=X.A.in1) (it:=it) (fp:=[it,a]) (i:=i) (S0:=λh=>h.IsListIter it a i/\h.IsList a its.toArray) (λh z=>let ⟨o,ho,_⟩:=z.1;⟨o,ho⟩)
    (λh h' z k=>⟨z.1.at λo e=>k it (by simp) o e,z.2.at λo e=>k a (by simp) o e⟩)
    (λs Q E z hE=>wpAny_nextOf_list_end (show X.A.in1.handled=ζ from I.ok.hd hc) z.1 z.2 (by simp;lia) hE),rfl,st,p'⟩
theorem b8v{P:AJ}{w:AI}{K:AE}(it:AB)(x:Str)(t:Tok):b4n P w K (Its x) it (λi h=>h.IsStrIter it (strIterType x) x t i) where
 obj:=λi h st=>by
  ext k
 keep:=λi h h' st k=>let ⟨o,e,r⟩:=st;⟨o,k o e,r⟩
 item:=by
  ext l
  have hg:i<x.cps.size:=hg;have yl:∀v,(∃c u,x.cps[i]?=ξ c/\v=Value.str ⟨#[c]⟩ u)->∃y,w6 y v/\(Its x).yld i H y H:=λv ⟨c,u,h1,h2⟩=>⟨.str ⟨#[c]⟩,⟨u,h2⟩,rfl,c,h1,rfl⟩;cases ha:x.cps.all (· <128) with
  |true=>
   have et:strIterType x="str_ascii_iterator":=by simp [strIterType,ha]
   rw [et] at st ⊢;exact⟨_,_,_,_,Draws.strAscii (prog:=X.prog) (w:=X.w) (A:=X.A.in1) (show X.A.in1.handled=ζ from I.ok.hd hc) it x t,st,hg,λe old hne he hm=>hne (by simpa using hm),yl,λh' z=>z⟩
  |false=>
   have et:strIterType x="str_iterator":=by simp [strIterType,ha]
   rw [et] at st ⊢;exact⟨_,_,_,_,Draws.strWide (prog:=X.prog) (w:=X.w) (A:=X.A.in1) (show X.A.in1.handled=ζ from I.ok.hd hc) it x t,st,hg,λe old hne he hm=>hne (by simpa using hm),yl,λh' z=>z⟩
 done:=by
   ext l
   have hg:x.cps.size<=i:=hg;have hx:x.cps[i]?=ζ:=by simp [hg]
   refine⟨_,_,_,_,a7S (prog:=X.prog) (w:=X.w) (A:=X.A.in1) (it:=it) (fp:=[it]) (i:=i) (S0:=λh=>h.IsStrIter it (strIterType x) x t i) (λh z=>let ⟨o,ho,_⟩:=z;⟨o,ho⟩)
    (λh h' z k=>let ⟨o,e,r⟩:=z;⟨o,k it (by simp) o e,r⟩) (λs Q E z hE=> ?_),rfl,st⟩
   cases ha:x.cps.all (· <128) with
   |true=>
    have et:strIterType x="str_ascii_iterator":=by simp [strIterType,ha]
    rw [et] at z;exact wpAny_nextOf_ascii_end (show X.A.in1.handled=ζ from I.ok.hd hc) z hx hE
   |false=>
    have et:strIterType x="str_iterator":=by simp [strIterType,ha]
    rw [et] at z;exact wpAny_nextOf_wide_end (show X.A.in1.handled=ζ from I.ok.hd hc) z hx hE
theorem a9D:bootBuiltins "enumerate"=ξ (.type "enumerate"):=by decide+kernel
section
variable {X:Cx}
def iEn(K:AE)(ta:TA):TI:=λσ H R=>ta σ H λvs H1=>(∃a xs,vs=[.ref a]/\SqT K H1 a xs/\R (Ite (Itt K a)) H1)\/(∃a xs,vs=[.ref a]/\SqL K H1 a xs/\R (Ite (Itl K a)) H1)\/∃z,vs=[.str z]/\R (Ite (Its z)) H1
theorem c0b{tg:AG}{pins:List (AB×Obj)}{σ:L2.St}{H:Hp}{s:AD}{R:It->Hp->Prop}{E:AA->AD->Prop}{J:It}{h':Heap}{tn:Nat->Heap->Prop}{elts:List AG}{x1}{tpos:Pos}(htg:tg= .Tuple elts x1 tpos)(I:n3 X pins σ H s)(D:b4n X.prog X.w X.K J s.heap.objs.size tn)
 (he:IsEnum h' (s.heap.objs.size+1) s.heap.objs.size 0 .none) (st:tn 0 h') (hk:∀b o,s.heap.get? b=ξ o->h'.get? b=ξ o) (q:R (Ite J) H):
 AH (model X.prog X.w) X.A (pyIter (.ref (s.heap.objs.size+1))) (PIE X pins σ tg R) E {s with heap:=h'}:=by
 subst htg
 refine wpAny_pyIter_enum (s:={s with heap:=h'}) he ?_
 refine⟨s.heap.objs.size+1,[s.heap.objs.size+1,s.heap.objs.size],_,_,H,rfl,I.kept (t':=s.toks) hk,b9x D (Nat.succ_ne_self _),⟨⟨_,he⟩,st⟩,λb hb=> ?_,q⟩
 have hb:b=s.heap.objs.size+1\/b=s.heap.objs.size:=by simpa using hb
 rcases hb with rfl|rfl
 ·exact I.fpOk (Nat.le_succ _) (I.hok.fresh (Nat.le_succ _))
 ·exact I.fpOk (AS _) (I.hok.fresh (AS _))
theorem c3f{a:AG}{ta:TA}{p pos tpos:Pos}{elts:List AG}{x1}(hg:Gl X "enumerate")(hm:X.mg "enumerate"=ζ)(ha:PA X [a] ta)(hs:AL [a] X.env=[(false,eval a X.env)]:=by rfl):
 PI X (.Tuple elts x1 tpos) (.Call (.Name "enumerate" p) [a] [] pos) (iEn X.K ta):=by
 intro pins s σ H R I h
 refine Call_ (a18 I hg hm a9D (PyProof.Rows.callWith_type1 (M8 (ha pos pins s σ H _ I h) λus s1 h0=>v9 h0 λvs H1 I1 r1 q1=> ?_) hs rfl))
 rcases q1 with⟨b,xs,rfl,hq,q⟩|⟨b,xs,rfl,hq,q⟩|⟨z,rfl,q⟩
 ·cases r1 with
  |cons r rr=>
   cases rr
   cases r
   obtain⟨its,rv,p',hz⟩:=I1.tuple hq
   exact a3V (show s1.heap.IsTuple b its.toArray from p') λh' he hit hsz hk=>c0b rfl I1 (b4N b _) he hit hk q
 ·cases r1 with
  |cons r rr=>
   cases rr
   cases r
   obtain⟨its,rv,p',hz⟩:=I1.list hq
   exact call_enumerate_list p'.isList λh' he hit hsz hk=>c0b rfl I1 (b6h b _) he hit hk q
 ·cases r1 with
  |cons r rr=>
   cases rr
   obtain⟨t,rfl⟩:=r
   exact call_enumerate_str λh' he hit hsz hk=>c0b rfl I1 (b8v _ z t) he hit hk q
def a0K(ps:List PV):List PV:=ps.zipIdx.map λq=> .tuple [.int ((q.2:Nat):Int),q.1]
theorem b8w(ps:List PV)(k:Nat):(a0K ps)[k]?=ps[k]?.map λp=> .tuple [.int ((k:Nat):Int),p]:=by
 unfold a0K;rw [Ao,List.getElem?_zipIdx];cases ps[k]? with
 |none=>rfl
 |some p=>simp
theorem b8x(ps:List PV):(a0K ps).length=ps.length:=by unfold a0K;simp
def c0K(p:PV):Option (List PV):=match p with
 | .str z=>ξ (z.cps.toList.map λc=> .str ⟨#[c]⟩)
 |p=>PyData.items? p
def c35(m:MA):MI:=λρ=>(m ρ).bind λas=>match as with
 |[p]=>(c0K p).map a0K
 |_=>ζ
theorem b6z{K:AE}{F0 H0 F1:Hp}{body:MS}{tg:PV->c5->Option c5}{g:TG}{ps:List PV}{fl:Fl}{D:a3J}{k:Nat}{p:PV}{x:V}{t:AB}{σ:L2.St}{H:Hp}(T:b23 K g tg)(fin:Fin K F0 H0 F1 D fl)(ep:ps[k]?=ξ p)
 (hp:PvL K F0 H0 F1 body tg (a0K ps) fl k σ H) (hn:H t=ζ) (rx:L3 K F1 p x):
 g (.ref t) σ (B9 H t (.tup [.int k,x])) λσ2 H2=>tMS K body {D with nx:=PvL K F0 H0 F1 body tg (a0K ps) fl (k+1),ct:=PvL K F0 H0 F1 body tg (a0K ps) fl (k+1),bk:=D.nx} σ2 H2:=by
 obtain⟨F,ρ,s,so,e⟩:=hp
 have eq:(a0K ps)[k]?=ξ (.tuple [.int ((k:Nat):Int),p]):=by rw [b8w,ep];rfl
 have hk:k<(a0K ps).length:=(Aj.mp eq).1
 have hd:(a0K ps).drop k= .tuple [.int ((k:Nat):Int),p]::(a0K ps).drop (k+1):=by
  rw [List.drop_eq_getElem_cons hk]
  congr 1
  exact(Aj.mp eq).2
 rw [hd] at e
 obtain⟨ρ1,f1,e1,e2,e3⟩:=b2g e
 have xl:Ext F H (B9 F t (.tup [.int k,x])) (B9 H t (.tup [.int k,x])):=Ext.lay so.e.fh hn
 have up:u4 F1 (B9 F t (.tup [.int k,x])):=s.trans xl.f
 refine T F0 H0 _ _ σ ρ ρ1 _ (.ref t) _ (so.ext xl) (show L3 K (B9 F t (.tup [.int k,x])) (.tuple [.int ((k:Nat):Int),p]) (.ref t) from⟨t,[.int k,x],rfl,TqT.of r9,⟨_,_,rfl,rfl,⟨_,_,rfl,L3.mono up _ rx,rfl⟩⟩⟩) e1 λσ' so'=>⟨F0,H0,_,ρ1,f1,so',e2, ?_⟩
 cases f1 with
 |nx ρ'=>exact λσ2 F2 H2 s2 so2=>⟨F2,ρ',up.trans s2,so2,e3⟩
 |ct ρ'=>exact λσ2 F2 H2 s2 so2=>⟨F2,ρ',up.trans s2,so2,e3⟩
 |bk ρ'=>cases e3;exact λσ2 F2 H2 s2 so2=>fin σ2 F2 H2 (up.trans s2) so2
 |rt r=>cases e3;exact fin
theorem c0k{K:AE}{F0 H0 F1:Hp}{body:MS}{tg:PV->c5->Option c5}{g:TG}{ps:List PV}{fl:Fl}{D:a3J}{σ:L2.St}{H:Hp}{J:It}(S:b8d K F1 J ps)(T:b23 K g tg)(fin:Fin K F0 H0 F1 D fl)(h0:PvL K F0 H0 F1 body tg (a0K ps) fl 0 σ H):
 ∃W:Nat->Nat->L2.St->Hp->Prop,(∃m,W 0 m σ H)/\∀i m σ H,W i m σ H->
  ((Ite J).stop i H/\D.nx σ H)\/((Ite J).go i H/\∃N:L2.St->Hp->Prop,(∀σ' H',N σ' H'->∃m',m'<m/\W (i+1) m' σ' H')/\∀x H',(Ite J).yld i H x H'->g x σ H' λσ2 H2=>tMS K body {D with nx:=N,ct:=N,bk:=D.nx} σ2 H2):=by
 refine⟨λi m σ H=>m=ps.length - i/\i<=ps.length/\PvL K F0 H0 F1 body tg (a0K ps) fl i σ H,⟨ps.length,by simp,Nat.zero_le _,h0⟩, ?_⟩
 rintro i m σ H ⟨rfl,hi,pv⟩
 have sm:u4 F1 H:=by obtain⟨_,_,s,so,_⟩:=pv;exact s.trans so.e.fh
 by_cases hlt:i<ps.length
 ·have ep:ps[i]?=ξ ps[i]:=by simp [hlt]
  refine .inr ⟨S.go i _ H sm ep,PvL K F0 H0 F1 body tg (a0K ps) fl (i+1),λσ' H' p'=>⟨ps.length - (i+1),by lia,rfl,hlt,p'⟩,λv H' y=> ?_⟩
  obtain⟨x,t,yx,hn,rfl,rfl⟩:=y
  exact b6z T fin ep pv hn (S.yd i _ x H H sm ep yx).2
 ·have ei:i=ps.length:=by lia
  refine .inl ⟨S.st i H sm (by lia), ?_⟩
  rw [ei,<-b8x ps] at pv
  exact a4v fin pv
theorem c1T{F1:Hp}{a:AB}{xs:List V}{ps:List PV}(hq:SqT X.K F1 a xs)(rl:n8 X.K F1 ps xs):b8d X.K F1 (Itt X.K a) ps:=by
 have hlen:=rl.length;refine⟨λi H2 s h=>⟨xs,w4 s hq,by lia⟩,λi p H2 s h=> ?_,λi p x H2 H3 s h y=> ?_⟩
 ·obtain⟨v,ev,_⟩:=rl.get h;exact⟨xs,v,w4 s hq,ev⟩
 ·obtain⟨e,y⟩:=y;have:=y xs (w4 s hq);obtain⟨v,ev,rv⟩:=rl.get h;rw [this] at ev;cases ev;exact⟨e,rv⟩
theorem c1R{F1:Hp}{a:AB}{xs:List V}{ps:List PV}(hq:SqL X.K F1 a xs)(rl:n8 X.K F1 ps xs):b8d X.K F1 (Itl X.K a) ps:=by
 have hlen:=rl.length;refine⟨λi H2 s h=>⟨xs,L1 s hq,by lia⟩,λi p H2 s h=> ?_,λi p x H2 H3 s h y=> ?_⟩
 ·obtain⟨v,ev,_⟩:=rl.get h;exact⟨xs,v,L1 s hq,ev⟩
 ·obtain⟨e,y⟩:=y;have:=y xs (L1 s hq);obtain⟨v,ev,rv⟩:=rl.get h;rw [this] at ev;cases ev;exact⟨e,rv⟩
theorem c1S{F1:Hp}(z:Str):b8d X.K F1 (Its z) (z.cps.toList.map λc=> .str ⟨#[c]⟩):=by
 refine⟨λi H2 s h=> ?_,λi p H2 s h=> ?_,λi p x H2 H3 s h y=> ?_⟩
 ·have h:z.cps.size<=i:=by simpa using h
  exact h
 ·have:=(Aj.mp h).1;have h:i<z.cps.size:=by simpa using this
  exact h
 ·obtain⟨e,c,hc,rfl⟩:=y;refine⟨e, ?_⟩;rw [Ao,Array.getElem?_toList,hc] at h;cases h
  rfl
theorem c2u{a:AG}{body:List Stmt}{m:MA}{g:TG}{t:PV->c5->Option c5}{b:MS}{p rp pos tpos:Pos}{elts:List AG}{x1}(hp:PassesOwn (model X.prog X.w) X.A X.env X.xe)(hc:X.calm=true)(hgl:Gl X "enumerate")(hm:X.mg "enumerate"=ζ)(ha:EA X [a] m)(hg:PG X (.Tuple elts x1 tpos) g)(T:b23 X.K g t)(hb:ESs X body b)
 (hst:AL [a] X.env=[(false,eval a X.env)]:=by rfl) (hs:∀x,foldedSetIterable (.Call (.Name "enumerate" p) [a] [] rp) X.env x=pure x:=by intro _;rfl):ES X (.For (.Tuple elts x1 tpos) (.Call (.Name "enumerate" p) [a] [] rp) body [] pos) (S4 (c35 m) t b):=
 W5 (b34 hp hc (c3f hgl hm ha hst) hg hb hs) λD σ H h0=>R6 h0 λF0 H0 F ρ fl so e fin=>by
  obtain⟨es,e1,e⟩:=bind_some e;obtain⟨as,e1,e2⟩:=bind_some e1;split at e2
  ·rename_i q;refine⟨F,ρ,_,so.e,e1,λvs F1 H1 x rl=> ?_⟩;obtain⟨v,r,rfl,rq,rr⟩:=rl;cases rr;have fin1:=fin.later x.f;cases hi:c0K q with
   |none=>rw [hi] at e2;cases e2
   |some ps=>
    rw [hi] at e2;cases e2;have core:∀J,b8d X.K F1 J ps->_:=λJ S=>c0k (g:=g) (σ:=σ) (H:=H1) S T fin1 ⟨F1,ρ,PU.u4.refl F1,so.ext x,e⟩;cases q with
    |tuple qs=>
     cases hi;obtain⟨a,xs,rfl,hq,rl⟩:=rq;exact .inl ⟨a,xs,rfl,w4 x.fh hq.sq,core _ (c1T hq.sq rl)⟩
    |list qs=>
     cases hi;obtain⟨a,xs,rfl,hq,rl⟩:=rq;exact .inr (.inl ⟨a,xs,rfl,L1 x.fh hq,core _ (c1R hq rl)⟩)
    |str z=>
     cases hi;cases rq;exact .inr (.inr ⟨z,rfl,core _ (c1S z)⟩)
    |_=>cases hi
  ·cases e2
end
def S(l:List Nat):Str:=⟨l.toArray⟩
theorem c3R(a b:List Nat):S a++S b=S (a++b):=by
 show Str.append (S a) (S b)=_;simp [Str.append,S]
theorem a2o(a:List Nat):(S a).length=a.length:=by simp [S,Str.length]
theorem b7a(a:List Nat):(S a).cps.toList=a:=by simp [S]
theorem c3S{a b:List Nat}(h:S a=S b):a=b:=by
 have:=congrArg (λz:Str=>z.cps.toList) h
 simpa [S] using this
def K7(sep:List Nat):List (List Nat)->List Nat
 |[]=>[]
 |[x]=>x
 |x::y::r=>x++sep++K7 sep (y::r)
theorem b2j(sep:List Nat):∀(ls:List (List Nat)) (acc:List Nat),(ls.foldl (λa p=>a++sep++p) acc)=if ls=[] then acc else acc++sep++K7 sep ls
 |[],acc=>rfl
 |[x],acc=>by simp [K7]
 |x::y::r,acc=>by
  rw [List.foldl_cons,b2j sep (y::r)];simp [K7]
theorem b7p(sep:List Nat):∀(ls:List (List Nat)) (acc:List Nat),(ls.map S).foldl (λa (p:Str)=>a++(S sep).cps++p.cps) acc.toArray=(ls.foldl (λa p=>a++sep++p) acc).toArray
 |[],acc=>rfl
 |x::r,acc=>by
  rw [AN,List.foldl_cons,List.foldl_cons];have:acc.toArray++(S sep).cps++(S x).cps=(acc++sep++x).toArray:=by simp [S]
  rw [this];exact b7p sep r (acc++sep++x)
theorem c0L(sep:List Nat)(ls:List (List Nat)):Txt.join (S sep) (ls.map S)=S (K7 sep ls):=by
 unfold Txt.join Builtin.Str.glued;cases ls with
 |nil=>rfl
 |cons x r=>
  show(⟨((r.map S).foldl (λacc (p:Str)=>acc++(S sep).cps++p.cps) (S x).cps)⟩:Str)=_;rw [show(S x).cps=x.toArray from rfl,b7p,b2j];cases r with
  |nil=>rfl
  |cons y r=>rw [if_neg (by simp)];simp [S,K7]
theorem a68:∀ls:List (List Nat),K7 [] ls=ls.flatten
 |[]=>rfl
 |[x]=>by simp [K7]
 |x::y::r=>by simp [K7,a68 (y::r)]
theorem a1N:∀cs:List Nat,(cs.map λc=>[c]).flatten=cs
 |[]=>rfl
 |c::cs=>by simp [a1N cs]
theorem b9R{α:Type}{xs:List α}{i:Int}(h:0<=i):L2.atI xs i=xs[i.toNat]?:=by
 unfold L2.atI L2.ixN;rw [if_pos h]
 by_cases c:i<xs.length
 ·rw [if_pos c];rfl
 ·rw [if_neg c];have:xs.length<=i.toNat:=by lia
  rw [List.getElem?_eq_none_iff.mpr this];rfl
theorem b14{α:Type}{xs:List α}{k:Nat}:L2.atI xs (k:Int)=xs[k]?:=by
 rw [b9R (by lia)];simp
theorem c0t{l:List Nat}{i:Int}{c:Nat}(hl:l.length<=16777216)(h:L2.atI l i=ξ c):k6 (.v (.str (S l))) (.v (.int i))=ξ (.v (.str (S [c]))):=by
 have hs:(S l).length<=AM:=by rw [a2o,sizeLine_eq];exact hl
 unfold k6;simp only [d7.rd,b7a,h,BA,if_pos hs]
 rfl
theorem c4B{l k:List Nat}(h:l.length+k.length<=16777216):y8 (.v (.str (S l))) (.v (.str (S k)))=ξ (.v (.str (S (l++k)))):=by
 rw [c0p (by rw [a2o,a2o,sizeLine_eq];exact h),c3R]
theorem c2G{i j:Int}(h: -18446744073709551616<i/\i<18446744073709551616):a4e (.v (.int i)) (.v (.int j))=ξ (.v (.int (i*j))):=c4D h
theorem c2H{i j:Int}(h: -18446744073709551616<j/\j<18446744073709551616):a4e (.v (.int i)) (.v (.int j))=ξ (.v (.int (i*j))):=c4E h
theorem c2F{l:List Nat}{k:Int}(h:(0<=k/\k<=1000)/\l.length<=1000):a4e (.v (.str (S l))) (.v (.int k))=ξ (.v (.str (S (AQ k.toNat l).flatten))):=by
 have hm:(l.length:Int)*k<=1000*1000:=Int.mul_le_mul (by lia) (by lia) (by lia) (by lia)
 show(if okC (λk n=>0<=k/\k<=1000000/\n*k<=16777216) k (S l).length=true then ξ (d7.v (.str ⟨(AQ k.toNat (S l).cps.toList).flatten.toArray⟩)) else ζ)=_
 rw [if_pos (a0j.mpr ⟨by lia,by lia,by rw [a2o];lia⟩),b7a]
 rfl
theorem b8C{l:List PV}{k:Int}(h:(0<=k/\k<=1000)/\l.length<=1000):a4e (.own l) (.v (.int k))=ξ (.own (AQ k.toNat l).flatten):=by
 have hm:(l.length:Int)*k<=1000*1000:=Int.mul_le_mul (by lia) (by lia) (by lia) (by lia)
 show(if okC (λk n=>0<=k/\k<=1000000/\n*k<=16777216) k l.length=true then ξ (d7.own (AQ k.toNat l).flatten) else ζ)=_
 rw [if_pos (a0j.mpr ⟨by lia,by lia,by lia⟩)]
theorem b3o{i j:Int}(h: -18446744073709551616<i/\i<18446744073709551616):r6 (.v (.int i)) (.v (.int j))=ξ (.v (.int (i*j))):=(show _=a4e (.v (.int i)) (.v (.int j)) from rfl).trans (c2G h)
theorem b7s{i j:Int}(h: -18446744073709551616<j/\j<18446744073709551616):r6 (.v (.int i)) (.v (.int j))=ξ (.v (.int (i*j))):=(show _=a4e (.v (.int i)) (.v (.int j)) from rfl).trans (c2H h)
theorem c2I{l:List Nat}{k:Int}(h:(0<=k/\k<=1000)/\l.length<=1000):r6 (.v (.str (S l))) (.v (.int k))=ξ (.v (.str (S (AQ k.toNat l).flatten))):=(show _=a4e (.v (.str (S l))) (.v (.int k)) from rfl).trans (c2F h)
theorem b8D{l:List PV}{k:Int}(h:(0<=k/\k<=1000)/\l.length<=1000):r6 (.own l) (.v (.int k))=ξ (.own (AQ k.toNat l).flatten):=(show _=a4e (.own l) (.v (.int k)) from rfl).trans (b8C h)
theorem b8E{l:List PV}{k:Int}(h:(2<=k/\k<=1000)/\(1<=l.length/\l.length<=1000)):r6 (.v (.tuple l)) (.v (.int k))=ξ (.v (.tuple (AQ k.toNat l).flatten)):=by
 show(if okC (λk n=>2<=k/\k<=1000000/\1<=n/\n*k<=16777216) k l.length=true then _ else ζ)=_
 rw [if_pos];refine a0j.mpr ⟨h.1.1,by lia,by lia, ?_⟩
 have h3:(l.length:Int)*k<=1000*1000:=Int.mul_le_mul (by lia) h.1.2 (by lia) (by lia)
 lia
theorem c0Z{m:M}{ρ:c5}{l:List Nat}(h:m ρ=ξ (.v (.str (S l)))):b0e m ρ=ξ (l.map λc=> .str (S [c])):=by
 unfold b0e;rw [h,AO];show ξ ((S l).cps.toList.map _)=_;rw [b7a]
 rfl
abbrev row(l:List Nat):PV:= .str (S l)
def b4E(rows:List (List Nat)):PV:= .tuple (rows.map row)
theorem c0c(a:List Nat)(n:Nat):x4 (row a) n=true:=by cases n<;>rfl
theorem a9T(n:Nat):∀rows:List (List Nat),F8 (rows.map row) n=true
 |[]=>rfl
 |a::r=>by rw [AN];simp [F8,c0c,a9T n r]
theorem b6j(rows:List (List Nat)):x4 (b4E rows) 50=true:=by
 show x4 (.tuple _) 50=true;simp only [x4];exact a9T 49 rows
theorem b4T{body:MS}{tg:PV->c5->Option c5}{I:Nat->c5->Prop}:∀{ps:List PV} {ρ:c5} (k:Nat),(∀(i:Nat) p,ps[i]?=ξ p->∀ρ,I (k+i) ρ->∃ρ1 ρ2,tg p ρ=ξ ρ1/\(body ρ1=ξ (.nx ρ2)\/body ρ1=ξ (.ct ρ2))/\I (k+i+1) ρ2)->I k ρ->∃ρ',z9 body tg ps ρ=ξ (.nx ρ')/\I (k+ps.length) ρ'
 |[],ρ,k,_,h=>⟨ρ,rfl,h⟩
 |p::ps,ρ,k,s,h=>by
  obtain⟨ρ1,ρ2,h1,h2,h3⟩:=s 0 p rfl ρ h;obtain⟨ρ',h4,h5⟩:=b4T (ps:=ps) (ρ:=ρ2) (k+1) (λi q hq ρ hi=>by
   have e:k+1+i=k+(i+1):=by lia
   rw [e] at hi ⊢;exact s (i+1) q (by simpa using hq) ρ hi) h3
  refine⟨ρ', ?_,by rw [AX];have e:k+(ps.length+1)=k+1+ps.length:=by lia
                   rw [e];exact h5⟩
  unfold z9;rw [h1];show(body ρ1).bind _=_;rcases h2 with h2|h2<;>rw [h2]<;>exact h4
theorem a2z{body:MS}{tg:PV->c5->Option c5}(I:Nat->c5->Prop){ps:List PV}{ρ:c5}(s:∀(i:Nat) p,ps[i]?=ξ p->∀ρ,I i ρ->∃ρ1 ρ2,tg p ρ=ξ ρ1/\(body ρ1=ξ (.nx ρ2)\/body ρ1=ξ (.ct ρ2))/\I (i+1) ρ2)(h:I 0 ρ):∃ρ',z9 body tg ps ρ=ξ (.nx ρ')/\I ps.length ρ':=by
 obtain⟨ρ',a,b⟩:=b4T (I:=I) 0 (λi p hp ρ hi=>by rw [Nat.zero_add] at hi ⊢;exact s i p hp ρ hi) h
 rw [Nat.zero_add] at b;exact⟨ρ',a,b⟩
theorem a7J{body:MS}{tg:PV->c5->Option c5}{I:c5->Prop}{p:PV}{ρ ρ1 ρ2:c5}(h1:tg p ρ=ξ ρ1)(h2:body ρ1=ξ (.nx ρ2))(h3:I ρ2):∃ρ1 ρ2,tg p ρ=ξ ρ1/\(body ρ1=ξ (.nx ρ2)\/body ρ1=ξ (.ct ρ2))/\I ρ2:=⟨ρ1,ρ2,h1,.inl h2,h3⟩
theorem c3s{lo hi:Int}{i:Nat}{p:PV}(h:(a1E lo hi)[i]?=ξ p):p= .int (lo+i)/\lo+i<hi:=by
 have hi':=(Aj.mp h).1;rw [a4F] at hi';rw [a7x hi'] at h;cases h;exact⟨rfl,by lia⟩
theorem c3t(n:Nat):a1E 0 (n:Int)=(AT n).map λk=> .int (k:Nat):=by
 unfold a1E;have e:((n:Int) - 0).toNat=n:=by lia
 rw [e];exact List.map_congr_left λk _=>by simp
theorem b2r(k:Nat)(it:MI)(tg:PV->c5->Option c5)(c:MT)(elt:M)(ρ:c5):F9 k it tg c elt ρ=(it ρ).bind λps=>if ps.length<=AM then(a3x c elt tg (ρ++AQ k ζ) ps).bind λr=>ξ (.own r) else ζ:=Eq.trans rfl rfl
theorem b2a{α:Type}{ι f:α->PV}{elt:M}{tg:PV->c5->Option c5}{ρ:c5}:∀{xs:List α},(∀x∈xs,∃ρ1,tg (ι x) ρ=ξ ρ1/\(elt ρ1).bind d7.toVal=ξ (f x))->a3x N8 elt tg ρ (xs.map ι)=ξ (xs.map f)
 |[],_=>rfl
 |x::xs,h=>by
  obtain⟨ρ1,h1,h2⟩:=h x AZ;rw [AN,AN];unfold a3x;rw [h1,AO];show((elt ρ1).bind d7.toVal).bind _=_;rw [h2,AO,b2a λy hy=>h y (Aa _ hy),AO]
theorem C2{α:Type}{ι f:α->PV}{k:Nat}{it:MI}{elt:M}{tg:PV->c5->Option c5}{ρ:c5}(xs:List α)(h1:it ρ=ξ (xs.map ι))(h2:xs.length<=16777216)
 (h:∀x∈xs,∃ρ1,tg (ι x) (ρ++AQ k ζ)=ξ ρ1/\(elt ρ1).bind d7.toVal=ξ (f x)):F9 k it tg N8 elt ρ=ξ (.own (xs.map f)):=by
 rw [b2r,h1,AO,if_pos (by rw [AW,sizeLine_eq];exact h2),b2a h,AO]
theorem a6T{α:Type}{ι f:α->PV}{q:α->Bool}{c:MT}{elt:M}{tg:PV->c5->Option c5}{ρ:c5}:∀{xs:List α},(∀x∈xs,∃ρ1,tg (ι x) ρ=ξ ρ1/\c ρ1=ξ (q x)/\(q x=true->(elt ρ1).bind d7.toVal=ξ (f x)))->a3x c elt tg ρ (xs.map ι)=ξ ((xs.filter q).map f)
 |[],_=>rfl
 |x::xs,h=>by
  obtain⟨ρ1,h1,h2,h3⟩:=h x AZ;have ih:=a6T (xs:=xs) λy hy=>h y (Aa _ hy);rw [AN];unfold a3x;rw [h1,AO,h2,AO];cases e:q x with
  |true=>rw [if_pos rfl,h3 e,AO,ih,AO,List.filter_cons_of_pos (by rw [e])];rfl
  |false=>rw [if_neg Ac,ih,List.filter_cons_of_neg (by rw [e];exact Ac)]
theorem b4Z(ps:List PV):PyData.items? (.tuple ps)=ξ ps:=Eq.trans rfl rfl
theorem b6D(m:M)(ρ:c5):Y9 m ρ=((m ρ).bind d7.toVal).bind PyData.items?:=Eq.trans rfl rfl
theorem b6E(m:M)(lo hi:MO)(ρ:c5):P5 m lo hi ρ=(m ρ).bind λr=>(lo ρ).bind λl=>(hi ρ).bind λh=>gSl r l h:=Eq.trans rfl rfl
theorem b46{m:M}{ρ:c5}{r:d7}{ps:List PV}(h:m ρ=ξ r)(h2:PyData.items? r.rd=ξ ps):v0 m ρ=ξ ps:=by
 unfold v0;rw [h,AO,h2]
theorem L0{m:M}{ρ:c5}{n:Nat}(h:m ρ=ξ (.v (.int n)))(hn:n<4611686018427387904):M1 (a8 m b8) ρ=ξ ((AT n).map λk=> .int (k:Nat)):=by
 have e:a8 m b8 ρ=ξ [.int n]:=by rw [P6,h];rfl
 rw [b80,e,AO,c3q (j:=(n:Int)) ⟨by lia,by lia⟩,c3t]
theorem a2Z{sep:List Nat}{rows:List (List Nat)}{y:d7}(h:PyData.items? y.rd=ξ (rows.map row))(hl:(rows.map (·.length)).sum+rows.length*sep.length<=16777216):a0t (.v (.str (S sep))) y=ξ (.v (row (K7 sep rows))):=by
 have e1:a3w (rows.map row)=ξ (rows.map S):=by
  have:rows.map row=(rows.map S).map PyData.str:=by rw [Ah];rfl
  rw [this,b0M]
 have e2:((rows.map S).map (·.length))=rows.map (·.length):=by rw [Ah];exact List.map_congr_left λa _=>a2o a
 unfold a0t;simp only [h,e1,AO,e2,AW,a2o,if_pos hl,c0L]
theorem a6d(ps:List PV):T0 (.own ps)=ξ (.v (.tuple ps)):=Eq.trans rfl rfl
theorem D9{i:Nat}{m:M}{ρ:c5}{r:d7}{p:PV}{ps:List PV}(h1:m ρ=ξ r)(h2:r.toVal=ξ p)(h3:ρ[i]?=ξ (ξ (.own ps)))(h:ps.length<16777216):Q4 i m ρ=ξ (.nx (ρ.set i (ξ (.own (ps++[p]))))):=by
 unfold Q4;rw [h1,AO,h2,AO,h3];simp only [sizeLine_eq,if_pos h]
theorem a9i(p:d7)(ρ:c5):N7 0 (ξ p::ρ)=ξ (.rt p):=Eq.trans rfl rfl
theorem b3F(n:Nat)(r:Option d7)(ρ:c5):N7 (n+1) (r::ρ)=N7 n ρ:=Eq.trans rfl rfl
theorem R0(k:List u8)(v:PV)(D:List (List u8×PV))(k':List u8):O4 ((k,v)::D) k'=if k=k' then ξ v else O4 D k':=by
 unfold O4;rw [List.find?_cons]
 by_cases h:k=k'
 ·simp [h]
 ·simp [h]
theorem b5O(k:List u8)(v:PV)(k':List u8):∀D:List (List u8×PV),O4 (D++[(k,v)]) k'=if(O4 D k').isSome=true then O4 D k' else if k=k' then ξ v else ζ
 |[]=>by rw [As,R0];rfl
 |(a,b)::D=>by
  rw [Ar,R0,R0,b5O k v k' D]
  by_cases h:a=k'
  ·simp [h]
  ·simp [h]
theorem b7d(k:List u8):∀D:List (List u8×PV),(D.any λkv=>decide (kv.1=k))=(O4 D k).isSome
 |[]=>rfl
 |(a,b)::D=>by
  rw [List.any_cons,b7d k D,R0]
  by_cases h:a=k
  ·simp [h]
  ·simp [h]
theorem b2R(k:List u8)(v:PV)(k':List u8):∀D:List (List u8×PV),O4 (D.map λkv=>if kv.1=k then(kv.1,v) else kv) k'=if k=k' then(O4 D k').map (λ_=>v) else O4 D k'
 |[]=>by simp [O4]
 |(a,b)::D=>by
  rw [AN];have ih:=b2R k v k' D
  by_cases h:a=k
  ·simp only [h,if_true];rw [R0,R0,ih]
   by_cases h2:k=k'
   ·simp [h2]
   ·simp [h2]
  ·simp only [h,if_false];rw [R0,R0,ih]
   by_cases h2:a=k'
   ·have:¬k=k':=λz=>h (h2.trans z.symm);simp [h2,this]
   ·simp [h2]
theorem c16(D:List (List u8×PV))(k:List u8)(v:PV)(k':List u8):O4 (b6R D k v) k'=if k=k' then ξ v else O4 D k':=by
 unfold b6R;rw [b7d];cases h:(O4 D k).isSome with
 |true=>
  rw [if_pos rfl,b2R]
  by_cases h2:k=k'
  ·subst h2;rw [if_pos rfl,if_pos rfl];obtain⟨x,hx⟩:=Option.isSome_iff_exists.mp h;rw [hx];rfl
  ·rw [if_neg h2,if_neg h2]
 |false=>
  rw [if_neg Ac,b5O]
  by_cases h2:k=k'
  ·subst h2;rw [h];simp
  ·simp only [if_neg h2];cases h3:O4 D k'<;>simp
theorem b3E{α:Type}{ι f:α->PV}{q:α->Bool}{k:Nat}{it:MI}{c:MT}{elt:M}{tg:PV->c5->Option c5}{ρ:c5}(xs:List α)(h1:it ρ=ξ (xs.map ι))(h2:xs.length<=16777216)
 (h:∀x∈xs,∃ρ1,tg (ι x) (ρ++AQ k ζ)=ξ ρ1/\c ρ1=ξ (q x)/\(q x=true->(elt ρ1).bind d7.toVal=ξ (f x))):F9 k it tg c elt ρ=ξ (.own ((xs.filter q).map f)):=by
 rw [b2r,h1,AO,if_pos (by rw [AW,sizeLine_eq];exact h2),a6T h,AO]
theorem b4O{ps:List PV}{n:Nat}(h:∀p∈ps,x4 p n=true):F8 ps n=true:=by
 induction ps with
 |nil=>rfl
 |cons p ps ih=>simp [F8,h p AZ,ih λq hq=>h q (Aa _ hq)]
section
open PySem.AutoSeq1 (wpAny_loadPart')
variable {A:AK}{s:AD}
end
section
variable {X:Cx}{pins:List (AB×Obj)}{σ:L2.St}{H:Hp}{s:AD}
end
section
variable {X:Cx}
end
section
variable {prog:AJ}{w:AI}{A:AK}{R:Result->AD->Prop}{I:AB}{fp wr:List AB}{n:Nat}{P:Nat->AA->Prop}{St:Nat->Heap->Prop}
end
section
variable {prog:AJ}{w:AI}{A:AK}{E:AA->AD->Prop}{s:AD}
end
section
variable {X:Cx}
end
end PU
namespace TS
open PySem PyProof.Rows
section
variable {prog:AJ}{w:AI}{A:AK}{E:AA->AD->Prop}{s:AD}
variable {κ:SortKind}{S:Keyed->Prop}{R:Keyed->Keyed->Bool}
end
section
variable {prog:AJ}{w:AI}{A:AK}{E:AA->AD->Prop}{s:AD}
variable {κ:SortKind}{S:Keyed->Prop}{R:Keyed->Keyed->Bool}{a₀:Array Keyed}
end
section
variable {R:Keyed->Keyed->Bool}{W out la lb xs:List Keyed}
end
section
variable {prog:AJ}{w:AI}{A:AK}{E:AA->AD->Prop}{s:AD}
variable {κ:SortKind}{S:Keyed->Prop}{R:Keyed->Keyed->Bool}
section
variable {a b o:Array Keyed}{st st':SortSt}{i j mg u v x₀ x:Nat}
end
section
variable {a b:Array Keyed}{st st':SortSt}{x₀ x mg:Nat}
end
end
section
variable {R:Keyed->Keyed->Bool}{W out la lb xs:List Keyed}
end
section
variable {prog:AJ}{w:AI}{A:AK}{E:AA->AD->Prop}{s:AD}
variable {κ:SortKind}{S:Keyed->Prop}{R:Keyed->Keyed->Bool}
section
variable {a b o:Array Keyed}{st st':SortSt}{i j mg u v x₀ x:Nat}
end
section
variable {a b:Array Keyed}{st st':SortSt}{x₀ x mg:Nat}
end
end
section
variable {prog:AJ}{w:AI}{A:AK}{E:AA->AD->Prop}{s:AD}
variable {κ:SortKind}{S:Keyed->Prop}{R:Keyed->Keyed->Bool}{a₀:Array Keyed}
end
section
variable {R:Keyed->Keyed->Bool}{a b:Array Keyed}
end
section
variable {prog:AJ}{w:AI}{A:AK}{E:AA->AD->Prop}{s:AD}
variable {κ:SortKind}{S:Keyed->Prop}{R:Keyed->Keyed->Bool}{a₀:Array Keyed}
end
open PySem PySem.Spec PyProof.Rows
section
variable {prog:AJ}{w:AI}{A:AK}{E:AA->AD->Prop}{s:AD}
variable {κ:SortKind}{S:Keyed->Prop}{R:Keyed->Keyed->Bool}
end
open PySem PySem.Spec PyProof.Rows L2 PU
section
variable {prog:AJ}{w:AI}{A:AK}{E:AA->AD->Prop}{s:AD}
variable {κ:SortKind}{S:Keyed->Prop}{R:Keyed->Keyed->Bool}
end
end TS
namespace PU
open PySem PySem.Spec PyProof.Rows L2
section
variable {α:Type}{lt:α->α->Bool}
end
open PySem PySem.Spec PyProof.Rows L2 PySem.W
section
variable {prog:AJ}{w:AI}{A:AK}{E:AA->AD->Prop}{s:AD}
end
section
variable {X:Cx}{pins:List (AB×Obj)}{σ:L2.St}{F H:Hp}{s:AD}
end
section
variable {X:Cx}
end
section
variable {prog:AJ}{w:AI}{A:AK}{E:AA->AD->Prop}{s:AD}{it d:AB}{i ep:Nat}{es:Array DictEntry}
end
end PU
namespace TS
open PySem PySem.Spec PyProof.Rows L2 PU
section
variable {prog:AJ}{w:AI}{A:AK}{E:AA->AD->Prop}{s:AD}
variable {κ:SortKind}{S:Keyed->Prop}{R:Keyed->Keyed->Bool}
end
end TS
namespace PU
open PySem PySem.Spec PyProof.Rows L2 PySem.W
section
variable {prog:AJ}{w:AI}{A:AK}{E:AA->AD->Prop}{s:AD}
end
section
variable {X:Cx}
end
open PySem PySem.Spec PyProof.Rows L2
section
variable {X:Cx}{pins:List (AB×Obj)}{σ:L2.St}{H:Hp}{s:AD}{a b:AB}{kvs:List (List u8×V)}{k:List u8}{v:V}{r:AA}{A:AK}{E:AA->AD->Prop}
end
section
variable {X:Cx}
end
def drp(F:Hp)(a:AB):Hp:=λb=>if b=a then ζ else F b
theorem a58{F:Hp}{a b:AB}(h:b≠a):drp F a b=F b:=by unfold drp;rw [if_neg h]
theorem a9O{F:Hp}{a:AB}:drp F a a=ζ:=by unfold drp;rw [if_pos rfl]
section
variable {K:AE}{F:Hp}{a:AB}{xs:List V}
theorem a9N{b:AB}(h:F b=ζ):drp F a b=ζ:=by
 unfold drp;split
 ·rfl
 ·exact h
end
section
variable {X:Cx}
end
section
variable {X:Cx}{tg:AG}
end
section
variable {prog:AJ}{w:AI}{A:AK}{E:AA->AD->Prop}{s:AD}
end
section
variable {X:Cx}{pins:List (AB×Obj)}{σ:L2.St}{A:AK}{R:Result->AD->Prop}
end
section
variable {X:Cx}
end
open Builtin Builtin.Str
section
variable {prog:AJ}{w:AI}{A:AK}{E:AA->AD->Prop}{s:AD}{x y:Str}{t u:Tok}{Q:AA->AD->Prop}
end
section
variable {X:Cx}
def b8F(x:d7):Option d7:=match x with
 | .v (.int i)=>if i.natAbs.log2<1920 then ξ (.v (.str (AC (toString i)))) else ζ
 |_=>ζ
theorem c4o:T5 X (.type "str") (rC1 X.K b8F):=by
 ext f
 obtain⟨u,rfl,ru⟩:=a2I rv;unfold b8F at h2;split at h2
 ·rename_i i;split at h2
  ·rename_i c;cases h2;cases h1;obtain⟨t,rfl⟩:=ru;exact PySem.P.str_of_int c ⟨.str _,H,I.tok _,⟨_,rfl⟩,k _ F H (B2.here s0 rfl)⟩
  ·cases h2
 ·cases h2
end
section
variable {M:Model}{A:AK}{E:AA->AD->Prop}{s:AD}{base:Heap}{env:Env}{outer:List Env}{L e C:AB}{dd:Option AB}
end
section
variable {P:AJ}{w:AI}{K:AE}{mg:Str->Option AA}{base:Heap}{N:List Str}{qual:Str}{scope:Scope}{f:AB}{cd:AA}{A:AK}{outer:List Env}{s:AD}{H:Hp}{E:XK}
end
section
variable {X:Cx}{x:Str}{C:AB}{np cpos pos:Pos}{e₀:AG}{rest:List AG}{t:TA}{W:Hp->Prop}
end
section
variable {X:Cx}{pins:List (AB×Obj)}{σ:L2.St}{H:Hp}{s:AD}
end
section
variable {X:Cx}{E:L2.St->XK}
end
section
variable {X:Cx}{E:L2.St->XK}{CX:CXT}
end
section
variable {X:Cx}
end
section
variable {X:Cx}{pins:List (AB×Obj)}{σ:L2.St}{H:Hp}{s:AD}
end
section
variable {X:Cx}
end
def b6I(K:AE)(C:AB)(x:Str):Bool:=match K.lookup C with
 |some ⟨_,_,.cls cd,_⟩=>cd.name==x
 |_=>false
section
variable {X:Cx}
end
def unE:List (PV×PV)->Option (List (List u8×PV))
 |[]=>ξ []
 |(.tuple ks,p)::r=>(a96 ks).bind λk=>(unE r).map λt=>(k,p)::t
 |_::_=>ζ
theorem a1S:∀k:List u8,a96 (k.map kP)=ξ k
 |[]=>rfl
 | .inl i::k=>by
   rw [AN];unfold a96;rw [a1S k]
   rfl
 | .inr x::k=>by
   rw [AN];unfold a96;rw [a1S k]
   rfl
theorem a7L{K:AE}{F:Hp}:∀{es:List (PV×PV)} {xs:List (List u8×V)},a5m K F es xs->∃kvs,unE es=ξ kvs/\E9 K F kvs xs
 |[],_,h=>by cases h;exact⟨[],rfl,rfl⟩
 |(k,p)::es,_,⟨kk,v,t,e,z,q,h⟩=>by
  subst e;subst z;obtain⟨kvs,h1,h2⟩:=a7L h;refine⟨(kk,p)::kvs, ?_,v,t,rfl,q,h2⟩;unfold unE;rw [a1S,h1]
  rfl
theorem b66:∀kvs:List (List u8×PV),unE (kvs.map λkv=>(PyData.tuple (kv.1.map kP),kv.2))=ξ kvs
 |[]=>rfl
 |(k,p)::r=>by
  rw [AN];unfold unE;rw [a1S,b66 r]
  rfl
section
variable {X:Cx}
end
section
variable {K:AE}{F:Hp}{a:AB}{xs:List (List u8×V)}
end
section
variable {X:Cx}
end
section
variable {prog:AJ}{w:AI}{K:Type}[DecidableEq K]{kd:KeyKind prog w K}{A:AK}{E:AA->AD->Prop}{s:AD}
end
section
variable {X:Cx}{pins:List (AB×Obj)}{σ:L2.St}{H:Hp}{s:AD}{a:AB}{kvs:List (List u8×V)}{A:AK}{E:AA->AD->Prop}
end
section
variable {X:Cx}{o i:AG}{td ty:TE}
end
section
variable {X:Cx}
end
def c0s(x:d7):Option d7:=match x with
 | .v (.bool b)=>ξ (.v (.int (if b then 1 else 0)))
 |_=>ζ
theorem c4m{X:Cx}:T5 X (.type "int") (rC1 X.K c0s):=by
 ext f
 obtain⟨u,rfl,ru⟩:=a2I rv;unfold c0s at h2;split at h2
 ·rename_i b;cases h2;cases h1;cases(show u=Value.bool b from ru);exact PySem.call_int_bool ⟨.int _,H,I.tok _,⟨_,rfl⟩,k _ F H (B2.here s0 rfl)⟩
 ·cases h2
end PU
namespace L2
open PySem PySem.Spec PyProof.Rows
end L2
namespace PU
open PySem PySem.Spec PyProof.Rows L2
open PySem.W (Looks InstAt looks_findIn looks_find looks_subIn looks_mroIn)
section
variable {prog:AJ}{w:AI}{A:AK}{E:AA->AD->Prop}{s:AD}{K:AE}{x D:AB}{ox:Obj}{od:Option Obj}
end
section
variable {X:Cx}
end
end PU
namespace ZT
open PySem PySem.Spec PyProof.Rows L2 PU
structure ZA(z TI TO i1 i2:AB):Prop where
 TIz:TI≠z
 TOz:TO≠z
 i1z:i1≠z
 i2z:i2≠z
 TITO:TI≠TO
 TIi1:TI≠i1
 TIi2:TI≠i2
 TOi1:TO≠i1
 TOi2:TO≠i2
 i12:i1≠i2
def LA(z TO i1 i2 l:AB):Prop:=l≠z/\l≠TO/\l≠i1/\l≠i2
section
variable {prog:AJ}{w:AI}{A:AK}{E:AA->AD->Prop}{s:AD}{z TI TO i1 i2:AB}{n1 n2 i:Nat}{P1 P2:Nat->AA->Prop}{St1 St2:Nat->Heap->Prop}{a b:AA}{l1 l2:AB}
theorem b9B{Q:AA->AD->Prop}(D:ZA z TI TO i1 i2)(D1:∀A',A'.handled=ζ->Draws prog w A' i1 [i1,l1] n1 P1 St1)(D2:∀A',A'.handled=ζ->Draws prog w A' i2 [i2,l2] n2 P2 St2)(hh:A.handled=ζ)(a1:LA z TO i1 i2 l1)(a2:LA z TO i1 i2 l2)
 (hz:IsZip s.heap z TI TO .none) (hTI:IsPair s.heap TI (.ref i1) (.ref i2)) (hTO:IsPair s.heap TO a b) (h1:St1 i s.heap) (h2:St2 i s.heap) (m1:i<n1) (m2:i<n2)
 (hQ:∀x y h' tk,P1 i x->P2 i y->IsZip h' z TI TO (rawInt s.heap.objs.size)->IsPair h' TO x y->St1 (i+1) h'->St2 (i+1) h'->IsPair h' s.heap.objs.size x y->h'.objs.size=s.heap.objs.size+1->
  (∀c o,c≠z->c≠TO->c≠i1->c≠i2->s.heap.get? c=ξ o->h'.get? c=ξ o)->Q (.ref s.heap.objs.size) {s with heap:=h',toks:=tk}):
 AH (model prog w) A (Builtin.«zip.__next__» ⟨[.ref z],[]⟩) (λfin s'=>∃v,fin= .done (.ret v)/\Q v s') E s:=by
 show AH _ _ (field (.ref z) 2>>=_) _ _ _
 refine AF (wpAny_field hz rfl (x:= .bool false) rfl ?_)
 show AH _ _ (field (.ref z) 3>>=_) _ _ _
 refine AF (wpAny_field hz rfl (x:= .ref TI) rfl ?_)
 refine AF (wpAny_seqItems hTI rfl ?_)
 show AH _ _ (Builtin.SmallTypes.ownedTupleIsFree (.ref z)>>=_) _ _ _
 refine AF ?_
 unfold Builtin.SmallTypes.ownedTupleIsFree
 refine AF (wpAny_field hz rfl (x:= .none) rfl (AR ?_))
 simp only [if_true]
 refine AF (wpAny_rule ?_)
 refine AF (wpAny_field hz rfl (x:= .ref TO) rfl ?_)
 refine AF (wpAny_setField_rec hz (by simp) λh₁ hz₁ hs₁=> ?_)
 replace hz₁:IsZip h₁ z TI TO .ellipsis:=hz₁
 refine AF ?_
 simp only [List.zipIdx_cons,List.zipIdx_nil,List.forIn_cons,List.forIn_nil]
 have f1:∀{x:AB} {h h':Heap} {i},x≠i1->x≠l1->Heap.SameBut x h h'->St1 i h->St1 i h':=λn n' k st=>(D1 A hh).frame _ _ _ st λb hb o e=>by
  have hb:b=i1\/b=l1:=by simpa using hb
  rcases hb with hb|hb
  ·exact k.extBut _ _ (by rw [hb];exact Ne.symm n) e
  ·exact k.extBut _ _ (by rw [hb];exact Ne.symm n') e
 have f2:∀{x:AB} {h h':Heap} {i},x≠i2->x≠l2->Heap.SameBut x h h'->St2 i h->St2 i h':=λn n' k st=>(D2 A hh).frame _ _ _ st λb hb o e=>by
  have hb:b=i2\/b=l2:=by simpa using hb
  rcases hb with hb|hb
  ·exact k.extBut _ _ (by rw [hb];exact Ne.symm n) e
  ·exact k.extBut _ _ (by rw [hb];exact Ne.symm n') e
 refine AF (AF (wpAny_onRaise ?_))
 show AH _ _ (Builtin.SmallTypes.nextOf (.ref i1)>>=_) _ _ _
 refine AF ((D1 _ hh).item i _ _ _ m1 (f1 D.i1z.symm (Ne.symm a1.1) hs₁ h1) λx h₂ tk₂ px h1₂ hs₂=>AR ?_)
 have hTO₂:IsPair h₂ TO a b:=hs₂.extBut _ _ D.TOi1 (hs₁.extBut _ _ D.TOz hTO)
 refine AF (wpAny_seqItems hTO₂ rfl ?_)
 refine AF (wpAny_updateSeq_pair hTO₂ λh₃ hTO₃ hs₃=> ?_)
 replace hTO₃:IsPair h₃ TO x b:=hTO₃
 refine AF (wpAny_letGo (AR ?_))
 refine AF (AF (wpAny_onRaise ?_))
 show AH _ _ (Builtin.SmallTypes.nextOf (.ref i2)>>=_) _ _ _
 refine AF ((D2 _ hh).item i _ _ _ m2 (f2 D.TOi2 (Ne.symm a2.2.1) hs₃ (f2 D.i12 (Ne.symm a2.2.2.1) hs₂ (f2 D.i2z.symm (Ne.symm a2.1) hs₁ h2))) λy h₄ tk₄ py h2₄ hs₄=>AR ?_)
 have hTO₄:IsPair h₄ TO x b:=hs₄.extBut _ _ D.TOi2 hTO₃
 refine AF (wpAny_seqItems hTO₄ rfl ?_)
 refine AF (wpAny_updateSeq_pair hTO₄ λh₅ hTO₅ hs₅=> ?_)
 replace hTO₅:IsPair h₅ TO x y:=hTO₅
 refine AF (wpAny_letGo (AR (AR ?_)))
 refine AF (wpAny_seqItems hTO₅ rfl ?_)
 refine AF (wpAny_newTuple ?_)
 have hsz:h₅.objs.size=s.heap.objs.size:=by rw [hs₅.1,hs₄.1,hs₃.1,hs₂.1,hs₁.1]
 have hz₅:IsZip h₅ z TI TO .ellipsis:=hs₅.extBut _ _ D.TOz.symm (hs₄.extBut _ _ D.i2z.symm (hs₃.extBut _ _ D.TOz.symm (hs₂.extBut _ _ D.i1z.symm hz₁)))
 have hk₅:∀c o,c≠z->c≠TO->c≠i1->c≠i2->s.heap.get? c=ξ o->h₅.get? c=ξ o:=λc o c1 c2 c3 c4 e=>
  hs₅.extBut _ _ c2 (hs₄.extBut _ _ c4 (hs₃.extBut _ _ c2 (hs₂.extBut _ _ c3 (hs₁.extBut _ _ c1 e))))
 have h1₅:St1 (i+1) h₅:=f1 D.TOi1 (Ne.symm a1.2.1) hs₅ (f1 D.i12.symm (Ne.symm a1.2.2.2) hs₄ (f1 D.TOi1 (Ne.symm a1.2.1) hs₃ h1₂))
 have h2₅:St2 (i+1) h₅:=f2 D.TOi2 (Ne.symm a2.2.1) hs₅ h2₄
 have hzlt:z<h₅.objs.size:=AU hz₅
 have hTOlt:TO<h₅.objs.size:=AU hTO₅
 have hi1lt:i1<h₅.objs.size:=by obtain⟨_,e⟩:=(D1 A hh).live _ _ h1₅;exact AU e
 have hi2lt:i2<h₅.objs.size:=by obtain⟨_,e⟩:=(D2 A hh).live _ _ h2₅;exact AU e
 show AH _ _ (Builtin.SmallTypes.ownedTupleHandOut (.ref z) (.ref h₅.objs.size)>>=_) _ _ _
 refine AF ?_
 unfold Builtin.SmallTypes.ownedTupleHandOut
 have hz₆:IsZip (h₅.push {cls:= .type "tuple",data:= .seq #[x,y]}) z TI TO .ellipsis:=AV _ hz₅
 refine AF (wpAny_setField_rec hz₆ (by simp) λh₇ hz₇ hs₇=> ?_)
 replace hz₇:IsZip h₇ z TI TO (rawInt h₅.objs.size):=hz₇
 refine wpAny_setField_rec hz₇ (by simp) λh₈ hz₈ hs₈=> ?_
 replace hz₈:IsZip h₈ z TI TO (rawInt h₅.objs.size):=hz₈
 have up:∀c o,c≠z->h₅.get? c=ξ o->h₈.get? c=ξ o:=λc o c1 e=>hs₈.extBut _ _ c1 (hs₇.extBut _ _ c1 (AV _ e))
 have hT₈:IsPair h₈ h₅.objs.size x y:=hs₈.extBut _ _ (Nat.ne_of_gt hzlt) (hs₇.extBut _ _ (Nat.ne_of_gt hzlt) (Ae _ rfl))
 have hz8:h₈.objs.size=h₅.objs.size+1:=by rw [hs₈.1,hs₇.1,Heap.size_push]
 rw [hsz] at hz₈ hT₈ hz8
 refine AR ⟨_,rfl, ?_⟩
 show Q (.ref h₅.objs.size) _
 rw [hsz]
 refine hQ x y h₈ _ px py hz₈ (up _ _ D.TOz hTO₅) ?_ ?_ hT₈ hz8 λc o c1 c2 c3 c4 e=>up c o c1 (hk₅ c o c1 c2 c3 c4 e)
 ·refine(D1 A hh).frame _ _ _ h1₅ λb hb o e=>up b o ?_ e
  have hb:b=i1\/b=l1:=by simpa using hb
  rcases hb with hb|hb
  ·rw [hb];exact D.i1z
  ·rw [hb];exact a1.1
 ·refine(D2 A hh).frame _ _ _ h2₅ λb hb o e=>up b o ?_ e
  have hb:b=i2\/b=l2:=by simpa using hb
  rcases hb with hb|hb
  ·rw [hb];exact D.i2z
  ·rw [hb];exact a2.1
theorem c2a{Q:PySem.Fin->AD->Prop}(D:ZA z TI TO i1 i2)(D1:∀A',A'.handled=ζ->Draws prog w A' i1 [i1,l1] n1 P1 St1)(D2:∀A',A'.handled=ζ->Draws prog w A' i2 [i2,l2] n2 P2 St2)(hh:A.handled=ζ)(a1:LA z TO i1 i2 l1)(a2:LA z TO i1 i2 l2)
 (hz:IsZip s.heap z TI TO .none) (hTI:IsPair s.heap TI (.ref i1) (.ref i2)) (hTO:IsPair s.heap TO a b) (h1:St1 i s.heap) (h2:St2 i s.heap) (m1:i<=n1) (m2:i<=n2) (hend:i=n1\/i=n2)
 (hE:∀h' e tk,(∀c o,c≠z->c≠TO->c≠i1->c≠i2->s.heap.get? c=ξ o->h'.get? c=ξ o)->(∃o,h'.get? e=ξ o/\o.cls= .type "StopIteration")->E (.ref e) {s with heap:=h',toks:=tk}):
 AH (model prog w) A (Builtin.«zip.__next__» ⟨[.ref z],[]⟩) Q E s:=by
 show AH _ _ (field (.ref z) 2>>=_) _ _ _
 refine AF (wpAny_field hz rfl (x:= .bool false) rfl ?_)
 show AH _ _ (field (.ref z) 3>>=_) _ _ _
 refine AF (wpAny_field hz rfl (x:= .ref TI) rfl ?_)
 refine AF (wpAny_seqItems hTI rfl ?_)
 show AH _ _ (Builtin.SmallTypes.ownedTupleIsFree (.ref z)>>=_) _ _ _
 refine AF ?_
 unfold Builtin.SmallTypes.ownedTupleIsFree
 refine AF (wpAny_field hz rfl (x:= .none) rfl (AR ?_))
 simp only [if_true]
 refine AF (wpAny_rule ?_)
 refine AF (wpAny_field hz rfl (x:= .ref TO) rfl ?_)
 refine AF (wpAny_setField_rec hz (by simp) λh₁ hz₁ hs₁=> ?_)
 replace hz₁:IsZip h₁ z TI TO .ellipsis:=hz₁
 refine AF ?_
 simp only [List.zipIdx_cons,List.zipIdx_nil,List.forIn_cons,List.forIn_nil]
 have f1:∀{x:AB} {h h':Heap} {i},x≠i1->x≠l1->Heap.SameBut x h h'->St1 i h->St1 i h':=λn n' k st=>(D1 A hh).frame _ _ _ st λb hb o e=>by
  have hb:b=i1\/b=l1:=by simpa using hb
  rcases hb with hb|hb
  ·exact k.extBut _ _ (by rw [hb];exact Ne.symm n) e
  ·exact k.extBut _ _ (by rw [hb];exact Ne.symm n') e
 have f2:∀{x:AB} {h h':Heap} {i},x≠i2->x≠l2->Heap.SameBut x h h'->St2 i h->St2 i h':=λn n' k st=>(D2 A hh).frame _ _ _ st λb hb o e=>by
  have hb:b=i2\/b=l2:=by simpa using hb
  rcases hb with hb|hb
  ·exact k.extBut _ _ (by rw [hb];exact Ne.symm n) e
  ·exact k.extBut _ _ (by rw [hb];exact Ne.symm n') e
 refine AF (AF (wpAny_onRaise ?_))
 show AH _ _ (Builtin.SmallTypes.nextOf (.ref i1)>>=_) _ _ _
 by_cases hx:i=n1
 ·subst hx
  refine AF ((D1 _ hh).done _ _ _ (f1 D.i1z.symm (Ne.symm a1.1) hs₁ h1) λh₂ e hs₂ he=> ?_)
  obtain⟨oe,hoe,hce⟩:=he
  have hz₂:IsZip h₂ z TI TO .ellipsis:=hs₂ _ _ D.i1z.symm hz₁
  have hez:e≠z:=λx=>by subst x;rw [hz₂] at hoe;cases hoe;simp at hce
  exact wpAny_setField_rec hz₂ (by simp) λh₃ _ hs₃=>hE h₃ e _ (λc o c1 _ c3 _ x=>hs₃.extBut _ _ c1 (hs₂ _ _ c3 (hs₁.extBut _ _ c1 x))) ⟨oe,hs₃.extBut _ _ hez hoe,hce⟩
 ·have hy:i=n2:=hend.resolve_left hx
  subst hy
  refine AF ((D1 _ hh).item i _ _ _ (Nat.lt_of_le_of_ne m1 hx) (f1 D.i1z.symm (Ne.symm a1.1) hs₁ h1) λx h₂ tk₂ px h1₂ hs₂=>AR ?_)
  have hTO₂:IsPair h₂ TO a b:=hs₂.extBut _ _ D.TOi1 (hs₁.extBut _ _ D.TOz hTO)
  refine AF (wpAny_seqItems hTO₂ rfl ?_)
  refine AF (wpAny_updateSeq_pair hTO₂ λh₃ hTO₃ hs₃=> ?_)
  refine AF (wpAny_letGo (AR ?_))
  refine AF (AF (wpAny_onRaise ?_))
  show AH _ _ (Builtin.SmallTypes.nextOf (.ref i2)>>=_) _ _ _
  refine AF ((D2 _ hh).done _ _ _ (f2 D.TOi2 (Ne.symm a2.2.1) hs₃ (f2 D.i12 (Ne.symm a2.2.2.1) hs₂ (f2 D.i2z.symm (Ne.symm a2.1) hs₁ h2))) λh₄ e hs₄ he=> ?_)
  obtain⟨oe,hoe,hce⟩:=he
  have hz₄:IsZip h₄ z TI TO .ellipsis:=hs₄ _ _ D.i2z.symm (hs₃.extBut _ _ D.TOz.symm (hs₂.extBut _ _ D.i1z.symm hz₁))
  have hez:e≠z:=λx=>by subst x;rw [hz₄] at hoe;cases hoe;simp at hce
  exact wpAny_setField_rec hz₄ (by simp) λh₅ _ hs₅=>hE h₅ e _ (λc o c1 c2 c3 c4 x=>hs₅.extBut _ _ c1 (hs₄ _ _ c4 (hs₃.extBut _ _ c2 (hs₂.extBut _ _ c3 (hs₁.extBut _ _ c1 x))))) ⟨oe,hs₅.extBut _ _ hez hoe,hce⟩
theorem a8a{Q:Option AA->AD->Prop}(D:ZA z TI TO i1 i2)(D1:∀A',A'.handled=ζ->Draws prog w A' i1 [i1,l1] n1 P1 St1)(D2:∀A',A'.handled=ζ->Draws prog w A' i2 [i2,l2] n2 P2 St2)(hh:A.handled=ζ)(a1:LA z TO i1 i2 l1)(a2:LA z TO i1 i2 l2)
 (hz:IsZip s.heap z TI TO .none) (hTI:IsPair s.heap TI (.ref i1) (.ref i2)) (hTO:IsPair s.heap TO a b) (h1:St1 i s.heap) (h2:St2 i s.heap) (m1:i<n1) (m2:i<n2)
 (hQ:∀x y h' tk,P1 i x->P2 i y->IsZip h' z TI TO (rawInt s.heap.objs.size)->IsPair h' TO x y->St1 (i+1) h'->St2 (i+1) h'->IsPair h' s.heap.objs.size x y->h'.objs.size=s.heap.objs.size+1->
  (∀c o,c≠z->c≠TO->c≠i1->c≠i2->s.heap.get? c=ξ o->h'.get? c=ξ o)->Q (ξ (.ref s.heap.objs.size)) {s with heap:=h',toks:=tk}):
 AH (model prog w) A (pyNext (.ref z)) Q E s:=by
 have hT:s.TypeIs (.ref z) "zip":=⟨_,hz,rfl⟩
 unfold pyNext
 exact AF (wpAny_attempt (wpAny_callSpecial?_slot (name:=AC "__next__") hT F.slot_zip_next
  (wpAny_call_entry F.slot_zip_next hT F.entry_zip_next
   (b9B D D1 D2 hh a1 a2 hz hTI hTO h1 h2 m1 m2 λx y h' tk p1 p2 a1 a2 a3 a4 a5 a6 a7=>AR (hQ x y h' tk p1 p2 a1 a2 a3 a4 a5 a6 a7)) (F.args_zip_next_1 _))))
theorem a87{Q:Option AA->AD->Prop}(D:ZA z TI TO i1 i2)(D1:∀A',A'.handled=ζ->Draws prog w A' i1 [i1,l1] n1 P1 St1)(D2:∀A',A'.handled=ζ->Draws prog w A' i2 [i2,l2] n2 P2 St2)(hh:A.handled=ζ)(a1:LA z TO i1 i2 l1)(a2:LA z TO i1 i2 l2)
 (hz:IsZip s.heap z TI TO .none) (hTI:IsPair s.heap TI (.ref i1) (.ref i2)) (hTO:IsPair s.heap TO a b) (h1:St1 i s.heap) (h2:St2 i s.heap) (m1:i<=n1) (m2:i<=n2) (hend:i=n1\/i=n2)
 (hQ:∀h' tk,(∀c o,c≠z->c≠TO->c≠i1->c≠i2->s.heap.get? c=ξ o->h'.get? c=ξ o)->Q ζ {s with heap:=h',toks:=tk}):AH (model prog w) A (pyNext (.ref z)) Q E s:=by
 have hT:s.TypeIs (.ref z) "zip":=⟨_,hz,rfl⟩
 unfold pyNext
 refine AF (wpAny_attempt (wpAny_callSpecial?_slot (name:=AC "__next__") hT F.slot_zip_next
  (wpAny_call_entry F.slot_zip_next hT F.entry_zip_next (c2a D D1 D2 hh a1 a2 hz hTI hTO h1 h2 m1 m2 hend λh' e tk hk he=> ?_) (F.args_zip_next_1 _))))
 obtain⟨o,ho,hc⟩:=he
 refine AF (wpAny_isInstance (T:="StopIteration") (b:=true) ⟨o,ho,hc⟩ isSubtype_stop ?_)
 exact AR (hQ _ _ hk)
end
section
variable {prog:AJ}{w:AI}{A:AK}{E:AA->AD->Prop}{s:AD}
theorem b83{it t:AB}{i:Nat}{items:Array AA}{x:AA}{Q:AA->AD->Prop}(hit:s.heap.IsTupleIter it t i)
 (ht:s.heap.IsTuple t items) (hx:items[i]?=ξ x)
 (hQ:∀h',h'.IsTupleIter it t (i+1)->Heap.SameBut it s.heap h'->Q x {s with heap:=h'}):
 AH (model prog w) A (Builtin.SmallTypes.nextOf (.ref it)) Q E s:=by
 obtain⟨o,ho,hc,hd⟩:=id hit
 obtain⟨ol,hol,_,nl,hdl⟩:=ht
 unfold Builtin.SmallTypes.nextOf
 refine AF (wpAny_callSpecial?_slot (name:=AC "__next__") hit.typeIs F.slot_tuple_iterator_next
  (wpAny_call_entry F.slot_tuple_iterator_next hit.typeIs F.entry_tuple_iterator_next ?_ (F.args_tuple_iterator_next_1 _)))
 show AH _ _ (field (.ref it) 0>>=_) _ _ s
 refine AF (wpAny_field ho hd (x:= .ref t) rfl ?_)
 show AH _ _ (if(Value.ref t==Value.none)=true then _ else _) _ _ s
 rw [if_neg (show ¬((Value.ref t==Value.none)=true) from Ac)]
 show AH _ _ (field (.ref it) 1>>=_) _ _ s
 refine AF (wpAny_field ho hd (x:= .int i 0) rfl ?_)
 show AH _ _ (seqItems? (.ref t)>>=_) _ _ s
 refine AF (wpAny_seqItems hol hdl ?_)
 simp only [BB,hx]
 refine AF (wpAny_setField ho hd (by simp) (AR ⟨x,rfl,AR (hQ _ ?_ (Heap.SameBut.update ..))⟩))
 exact⟨_,Heap.get?_update_self _ ho (Obj.isFreed_of_fields (Obj.data_mapFields hd _)),(Obj.cls_mapFields ..).trans hc,by
  rw [Obj.data_mapFields hd];simp [rawInt]⟩
theorem c05{it t:AB}{i:Nat}{items:Array AA}{Q:AA->AD->Prop}(hh:A.handled=ζ)
 (hit:s.heap.IsTupleIter it t i) (ht:s.heap.IsTuple t items) (hx:items[i]?=ζ)
 (hE:∀h' e,Heap.ExtBut it s.heap h'->(∃o,h'.get? e=ξ o/\o.cls= .type "StopIteration")->E (.ref e) {s with heap:=h'}):
 AH (model prog w) A (Builtin.SmallTypes.nextOf (.ref it)) Q E s:=by
 obtain⟨o,ho,hc,hd⟩:=id hit
 obtain⟨ol,hol,_,nl,hdl⟩:=ht
 unfold Builtin.SmallTypes.nextOf
 refine AF (wpAny_callSpecial?_slot (name:=AC "__next__") hit.typeIs F.slot_tuple_iterator_next
  (wpAny_call_entry F.slot_tuple_iterator_next hit.typeIs F.entry_tuple_iterator_next ?_ (F.args_tuple_iterator_next_1 _)))
 show AH _ _ (field (.ref it) 0>>=_) _ _ s
 refine AF (wpAny_field ho hd (x:= .ref t) rfl ?_)
 show AH _ _ (if(Value.ref t==Value.none)=true then _ else _) _ _ s
 rw [if_neg (show ¬((Value.ref t==Value.none)=true) from Ac)]
 show AH _ _ (field (.ref it) 1>>=_) _ _ s
 refine AF (wpAny_field ho hd (x:= .int i 0) rfl ?_)
 show AH _ _ (seqItems? (.ref t)>>=_) _ _ s
 refine AF (wpAny_seqItems hol hdl ?_)
 simp only [BB,hx]
 refine AF (wpAny_rule (AF (wpAny_setField ho hd (by simp) ?_)))
 show AH _ _ (newExc (.type "StopIteration") []>>=_) _ _ _
 refine AF ?_
 simp only [newExc,newTuple]
 refine AF (wpAny_newObj_type ?_ (by size_fits))
 refine AF (m:=firstArgMember _ _) (wpAny_of_eq (a:=Value.none) (by first|rfl|(simp only [firstArgMember];rfl)) ?_)
 refine wpAny_newObj_type ?_ (by size_fits)
 simp only [raiseNew]
 refine AF (wpAny_handled ?_)
 first|rw [show A.in1.handled=ζ from hh]|rw [hh]
 refine AF (AR (wpAny_throw ?_))
 exact hE _ _ (((Heap.SameBut.update ..).extBut.push _).push _) ⟨_,Ae _ rfl,rfl⟩
end
theorem a46{prog:AJ}{w:AI}{A:AK}(hh:A.handled=ζ){it l:AB}(hne:l≠it)(items:Array AA):
 Draws prog w A it [it,l] items.size (λi v=>items[i]?=ξ v) (λi h=>h.IsTupleIter it l i/\h.IsTuple l items) where
 live:=λ_ _ st=>let ⟨o,ho,_⟩:=st.1;⟨o,ho⟩
 frame:=λ_ _ _ st hk=>⟨let ⟨o,ho,r⟩:=st.1;⟨o,hk it (by simp) o ho,r⟩,let ⟨o,ho,r⟩:=st.2;⟨o,hk l (by simp) o ho,r⟩⟩
 item:=λi s Q E hi st hQ=>by
  refine b83 st.1 st.2 (x:=items[i]) (by simp [hi]) λh' hit' hs'=> ?_
  exact hQ _ h' s.toks (by simp [hi]) ⟨hit',st.2.extBut hs'.extBut hne⟩ hs'
 done:=λs Q E st hE=>c05 hh st.1 st.2 (by simp) hE
abbrev tIt(l:AB):Obj:={cls:= .type "tuple_iterator",data:= .fields #[.ref l,.int 0 0]}
abbrev tH2(h:Heap)(x y:AB):Heap:=(h.push (tIt x)).push (tIt y)
abbrev tH3(h:Heap)(x y:AB):Heap:=(tH2 h x y).push {cls:= .type "tuple",data:= .seq #[.ref h.objs.size,.ref (h.push (tIt x)).objs.size]}
abbrev tH4(h:Heap)(x y:AB):Heap:=(tH3 h x y).push {cls:= .type "tuple",data:= .seq #[.none,.none]}
abbrev tH5(h:Heap)(x y:AB):Heap:=(tH4 h x y).push {cls:= .type "zip",data:= .fields #[.none,.bool false,.bool false,.ref (tH2 h x y).objs.size,.ref (tH3 h x y).objs.size]}
theorem b0f(x y:AB)(p q:Array AA):
 Meets (Builtin.«zip.__new__» ⟨[.type "zip",.ref x,.ref y],[]⟩) (λ_ R s=>(s.heap.IsTuple x p/\s.heap.IsTuple y q)/\R (.ok (.ret (.ref (tH4 s.heap x y).objs.size))) {s with heap:=tH5 s.heap x y}):=
 .of_wp λprog w A R s h=>by
  obtain⟨hp,g,d,tk,os⟩:=s;obtain⟨⟨hx,hy⟩,h⟩:=h;have hy2:=hy.push (tIt x);have hsub:=sub_zip
  wp_walk using wpAny_pyIter_tuple hx,wpAny_pyIter_tuple hy2
  exact⟨_,rfl,h⟩
theorem b3e{prog:AJ}{w:AI}{A:AK}{E:AA->AD->Prop}{s:AD}{x y:AB}{p q:Array AA}{Q:AA->AD->Prop}(hx:s.heap.IsTuple x p)(hy:s.heap.IsTuple y q)
 (h:∀h',IsZip h' (s.heap.objs.size+4) (s.heap.objs.size+2) (s.heap.objs.size+3) .none->IsPair h' (s.heap.objs.size+2) (.ref s.heap.objs.size) (.ref (s.heap.objs.size+1))->
  IsPair h' (s.heap.objs.size+3) .none .none->h'.IsTupleIter s.heap.objs.size x 0->h'.IsTupleIter (s.heap.objs.size+1) y 0->h'.objs.size=s.heap.objs.size+5->
  (∀c o,s.heap.get? c=ξ o->h'.get? c=ξ o)->Q (.ref (s.heap.objs.size+4)) {s with heap:=h'}):
 AH (model prog w) A (call (.type "zip") [.ref x,.ref y]) Q E s:=by
 refine callType_new F.called_zip (by decide) (F.typeCall_zip_2 _ _) (F.newCall_zip_2 _ _) (λobj=>F.args_object_init_3 obj _ _) F.entry_zip_new
  (b0f x y p q) ?_
 have z1:(s.heap.push (tIt x)).objs.size=s.heap.objs.size+1:=Heap.size_push ..
 have z2:(tH2 s.heap x y).objs.size=s.heap.objs.size+2:=by rw [Heap.size_push,z1]
 have z3:(tH3 s.heap x y).objs.size=s.heap.objs.size+3:=by rw [Heap.size_push,z2]
 have z4:(tH4 s.heap x y).objs.size=s.heap.objs.size+4:=by rw [Heap.size_push,z3]
 have z5:(tH5 s.heap x y).objs.size=s.heap.objs.size+5:=by rw [Heap.size_push,z4]
 have g5:(tH5 s.heap x y).get? (tH4 s.heap x y).objs.size=ξ _:=Ae _ rfl
 have g4:(tH5 s.heap x y).get? (tH3 s.heap x y).objs.size=ξ _:=AV _ (Ae _ rfl)
 have g3:(tH5 s.heap x y).get? (tH2 s.heap x y).objs.size=ξ _:=AV _ (AV _ (Ae _ rfl))
 have g2:(tH5 s.heap x y).get? (s.heap.push (tIt x)).objs.size=ξ _:=AV _ (AV _ (AV _ (Ae _ rfl)))
 have g1:(tH5 s.heap x y).get? s.heap.objs.size=ξ _:=AV _ (AV _ (AV _ (AV _ (Ae _ rfl))))
 refine⟨⟨hx,hy⟩, ?_⟩
 show _/\_
 rw [z2,z3,z4] at g5
 rw [z1,z2] at g3
 rw [z3] at g4
 rw [z1] at g2
 rw [z4]
 exact⟨⟨_,g5,rfl⟩,h _ g5 g3 g4 ⟨_,g1,rfl,rfl⟩ ⟨_,g2,rfl,rfl⟩ z5 λc o x=>
  AV _ (AV _ (AV _ (AV _ (AV _ x))))⟩
theorem n3.turnedTupN{X:Cx}{pins:List (AB×Obj)}{σ:L2.St}{H:Hp}{s:AD}{h':Heap}{t':Nat}{ch:List AB}{xs:List V}(I:n3 X pins σ H s)(f:∀b∈ch,a5W X pins H b)
 (k:∀b o,b∉ch->s.heap.get? b=ξ o->h'.get? b=ξ o) (new:N4 X.prog X.w (B9 H s.heap.objs.size (.tup xs)) h' s.heap.objs.size (.tup xs)):
 n3 X pins σ (B9 H s.heap.objs.size (.tup xs)) {s with heap:=h',toks:=t'}:=by
 have hn:H s.heap.objs.size=ζ:=I.hok.fresh (AS _)
 have nb:∀b u,H b=ξ u->b∉ch:=λb u q z=>by rw [(f b z).1] at q;cases q
 refine I.step (g':=s.gens) (d':=s.drawn) (ch:=ch) (λb hb=>⟨(f b hb).2.2.2.1,(f b hb).2.1,(f b hb).2.2.2.2.1,(f b hb).2.2.2.2.2⟩) (λb o _ _ hc q _=>k b o hc q) (λb o _ _ hc q _=>⟨o.slots,k b o hc q⟩)
  (λb o _ q n=>by rw [l8 (Af (AU q))];exact n) (λb o hc q=>⟨o,k b o hc q⟩)
  (λb xs q=>by rw [l8 (m5 q hn)];exact q) (λb o u q=>by rw [l8 (m5 q hn)];exact q) (λb ps q=>⟨#[],by rw [l8 (m5 q hn),q];simp⟩) (λm hm=> ?_) (λb u q=> ?_) I.bare
 ·obtain⟨o,es,ep,ho,r⟩:=hm
  exact⟨o,es,ep,k _ o (λz=>(f _ z).2.1 rfl) ho,r⟩
 ·by_cases hb:b=s.heap.objs.size
  ·subst hb
   rw [r9] at q
   cases q
   exact new
  ·rw [l8 hb] at q
   refine(I.hok b u q).stay (λc v hc y=>k c v ?_ y) (λc y=>by rw [l8 (m5 y hn)];exact y) λc ys y=>by rw [l8 (m5 y hn)];exact y
   rcases hc with z|z
   ·rw [z];exact nb b u q
   ·exact nb c _ z
theorem n3.turnedN{X:Cx}{pins:List (AB×Obj)}{σ:L2.St}{H:Hp}{s:AD}{h':Heap}{t':Nat}{ch:List AB}(I:n3 X pins σ H s)(f:∀b∈ch,a5W X pins H b)
 (k:∀b o,b∉ch->s.heap.get? b=ξ o->h'.get? b=ξ o):n3 X pins σ H {s with heap:=h',toks:=t'}:=by
 have nb:∀b u,H b=ξ u->b∉ch:=λb u q z=>by rw [(f b z).1] at q;cases q
 refine I.step (g':=s.gens) (d':=s.drawn) (ch:=ch) (λb hb=>⟨(f b hb).2.2.2.1,(f b hb).2.1,(f b hb).2.2.2.2.1,(f b hb).2.2.2.2.2⟩) (λb o _ _ hc q _=>k b o hc q) (λb o _ _ hc q _=>⟨o.slots,k b o hc q⟩)
  (λ_ _ _ _ n=>n) (λb o hc q=>⟨o,k b o hc q⟩) (λ_ _ e=>e) (λ_ _ _ e=>e) (λb ps e=>⟨#[],by rw [e];simp⟩) (λm hm=> ?_) (λb u q=> ?_) I.bare
 ·obtain⟨o,es,ep,ho,r⟩:=hm
  exact⟨o,es,ep,k _ o (λz=>(f _ z).2.1 rfl) ho,r⟩
 ·refine(I.hok b u q).stay (λc v hc y=>k c v ?_ y) (λ_ y=>y) λ_ _ y=>y
  rcases hc with z|z
  ·rw [z];exact nb b u q
  ·exact nb c _ z
def Ity(K:AE)(a b:AB)(xs ys:List V):It:=⟨λi H=>(SqT K H a xs/\SqT K H b ys)/\i<xs.length/\i<ys.length,λi H v H'=>∃x y t,xs[i]?=ξ x/\ys[i]?=ξ y/\H t=ζ/\v= .ref t/\H'=B9 H t (.tup [x,y]),λi H=>(SqT K H a xs/\SqT K H b ys)/\i<=xs.length/\i<=ys.length/\(i=xs.length\/i=ys.length)⟩
def tnT(z TI TO i1 i2 l1 l2:AB)(i:Nat)(h:Heap):Prop:=
 IsZip h z TI TO .none/\IsPair h TI (.ref i1) (.ref i2)/\(∃a b,IsPair h TO a b)/\h.IsTupleIter i1 l1 i/\h.IsTupleIter i2 l2 i
theorem b9z{P:AJ}{w:AI}{K:AE}{z TI TO i1 i2 l1 l2:AB}{xs ys:List V}{elts:List AG}{x1}{pos:Pos}(D:ZA z TI TO i1 i2)(A1:LA z TO i1 i2 l1)(A2:LA z TO i1 i2 l2):
 b4r P w K (.Tuple elts x1 pos) (Ity K l1 l2 xs ys) [z,TI,TO,i1,i2] z (tnT z TI TO i1 i2 l1 l2) where
 mem:=by simp
 obj:=λi h ⟨hz,hI,⟨a,b,hO⟩,⟨o1,e1,c1,d1⟩,⟨o2,e2,c2,d2⟩⟩ b' hb=>by
  simp only [Ab,List.not_mem_nil,or_false] at hb;rcases hb with rfl|rfl|rfl|rfl|rfl
  ·exact⟨_,hz,λv z=>by cases z⟩
  ·exact⟨_,hI,λv z=>by cases z⟩
  ·exact⟨_,hO,λv z=>by cases z⟩
  ·exact⟨_,e1,λv z=>by rw [d1] at z;cases z⟩
  ·exact⟨_,e2,λv z=>by rw [d2] at z;cases z⟩
 keep:=λi h h' ⟨hz,hI,⟨a,b,hO⟩,⟨o1,e1,r1⟩,⟨o2,e2,r2⟩⟩ k=>
  ⟨k z (by simp) _ hz,k TI (by simp) _ hI,⟨a,b,k TO (by simp) _ hO⟩,⟨o1,k i1 (by simp) _ e1,r1⟩,⟨o2,k i2 (by simp) _ e2,r2⟩⟩
 item:=by
  intro X hP hw hK hc i pins s σ H E I hf ⟨hz,hI,⟨a,b,hO⟩,s1,s2⟩ hg;subst hP hw hK;have hd:X.A.handled=ζ:=I.ok.hd hc;obtain⟨⟨q1,q2⟩,m1,m2⟩:=hg;obtain⟨its1,rv1,pt1,_⟩:=I.tuple q1;obtain⟨its2,rv2,pt2,_⟩:=I.tuple q2;have e1:=rv1.length;have e2:=rv2.length;refine a8a D (λA' hh=>a46 hh A1.2.2.1 its1.toArray) (λA' hh=>a46 hh A2.2.2.2 its2.toArray) hd A1 A2 hz hI hO ⟨s1,pt1⟩ ⟨s2,pt2⟩ (by simp;lia) (by simp;lia) λv1 v2 h' tk p1 p2 a1 a2 a3 a4 a5 a6 a7=>⟨_,rfl, ?_⟩
  have g1:xs[i]?=ξ xs[i]:=by simp [m1]
  have g2:ys[i]?=ξ ys[i]:=by simp [m2]
  obtain⟨u1,f1,r1⟩:=rv1.get g1;obtain⟨u2,f2,r2⟩:=rv2.get g2;have w1:v1=u1:=by
   have:its1[i]?=ξ v1:=by simpa using p1
   rw [f1] at this;exact(Option.some.inj this).symm
  have w2:v2=u2:=by
   have:its2[i]?=ξ v2:=by simpa using p2
   rw [f2] at this;exact(Option.some.inj this).symm
  subst w1 w2;refine wpAny_letOwnedTupleGo_zip a1 λh2 hz2 hs2=> ?_;have zlt:z<s.heap.objs.size:=AU hz;have htup:h2.get? s.heap.objs.size=ξ {cls:= .type "tuple",data:= .seq #[v1,v2]}:=(hs2.2 _ (Nat.ne_of_gt zlt)).trans a5;have up:∀c o,c∉[z,TI,TO,i1,i2]->s.heap.get? c=ξ o->h2.get? c=ξ o:=λc o hc q=>by
   simp only [Ab,List.not_mem_nil,or_false,not_or] at hc;exact(hs2.2 c hc.1).trans (a7 c o hc.1 hc.2.2.1 hc.2.2.2.1 hc.2.2.2.2 q)
  have I2:n3 X pins σ (B9 H s.heap.objs.size (.tup [xs[i],ys[i]])) {s with heap:=h2,toks:=tk}:=
   n3.turnedTupN I hf up ⟨by rw [sizeLine_eq];simp,[v1,v2],.cons r1 (.cons r2 .nil),⟨_,htup,rfl,0,rfl⟩⟩
  refine⟨.ref s.heap.objs.size,_,I2,rfl,⟨xs[i],ys[i],s.heap.objs.size,g1,g2,I.hok.fresh (AS _),rfl,rfl⟩,
   ⟨hz2,(hs2.2 _ D.TIz).trans (a7 _ _ D.TIz D.TITO D.TIi1 D.TIi2 hI),⟨_,_,(hs2.2 _ D.TOz).trans a2⟩,let ⟨o,e,r⟩:=a3.1;⟨o,(hs2.2 _ D.i1z).trans e,r⟩,let ⟨o,e,r⟩:=a4.1;⟨o,(hs2.2 _ D.i2z).trans e,r⟩⟩,λb hb=> ?_⟩
  have hlt:b<s.heap.objs.size:=by
   obtain⟨o1,e1,r1⟩:=s1;obtain⟨o2,e2,r2⟩:=s2;simp only [Ab,List.not_mem_nil,or_false] at hb;rcases hb with rfl|rfl|rfl|rfl|rfl
   ·exact zlt
   ·exact AU hI
   ·exact AU hO
   ·exact AU e1
   ·exact AU e2
  rw [l8 (Af hlt)];exact(hf b hb).1
 done:=by
   intro X hP hw hK hc i pins s σ H E I hf ⟨hz,hI,⟨a,b,hO⟩,s1,s2⟩ hg;subst hP hw hK;have hd:X.A.handled=ζ:=I.ok.hd hc;obtain⟨⟨q1,q2⟩,m1,m2,m3⟩:=hg;obtain⟨its1,rv1,pt1,_⟩:=I.tuple q1;obtain⟨its2,rv2,pt2,_⟩:=I.tuple q2;have e1:=rv1.length;have e2:=rv2.length;refine a87 D (λA' hh=>a46 hh A1.2.2.1 its1.toArray) (λA' hh=>a46 hh A2.2.2.2 its2.toArray) hd A1 A2 hz hI hO ⟨s1,pt1⟩ ⟨s2,pt2⟩ (by simp;lia) (by simp;lia) (by simp;lia) λh' tk k=>⟨rfl,n3.turnedN I hf λc o hc q=> ?_⟩
   simp only [Ab,List.not_mem_nil,or_false,not_or] at hc;exact k c o hc.1 hc.2.2.1 hc.2.2.2.1 hc.2.2.2.2 q
 self:=λ_ _ _ _ _ st h=>wpAny_pyIter_zip st.1 h
theorem b9V:bootBuiltins "zip"=ξ (.type "zip"):=by decide+kernel
theorem c5K(n:Nat):ZA (n+4) (n+2) (n+3) n (n+1):=by
 exact⟨(by lia:(n+2:Nat)≠n+4),(by lia:(n+3:Nat)≠n+4),(by lia:(n:Nat)≠n+4),(by lia:(n+1:Nat)≠n+4),(by lia:(n+2:Nat)≠n+3),(by lia:(n+2:Nat)≠n),(by lia:(n+2:Nat)≠n+1),
  (by lia:(n+3:Nat)≠n),(by lia:(n+3:Nat)≠n+1),(by lia:(n:Nat)≠n+1)⟩
theorem c0P{n l:Nat}(h:l<n):LA (n+4) (n+3) n (n+1) l:=⟨(by lia:(l:Nat)≠n+4),(by lia:(l:Nat)≠n+3),(by lia:(l:Nat)≠n),(by lia:(l:Nat)≠n+1)⟩
section
variable {X:Cx}
def iZt(K:AE)(ta:TA):TI:=λσ H R=>ta σ H λvs H1=>∃a b xs ys,vs=[.ref a,.ref b]/\SqT K H1 a xs/\SqT K H1 b ys/\R (Ity K a b xs ys) H1
theorem pi_zipT{a b:AG}{ta:TA}{p pos tpos:Pos}{elts:List AG}{x1}(hg:Gl X "zip")(hm:X.mg "zip"=ζ)(ha:PA X [a,b] ta)(hs:AL [a,b] X.env=[(false,eval a X.env),(false,eval b X.env)]:=by rfl)
 (hs2:AL [b] X.env=[(false,eval b X.env)]:=by rfl):PI X (.Tuple elts x1 tpos) (.Call (.Name "zip" p) [a,b] [] pos) (iZt X.K ta):=by
 intro pins s σ H R I h
 refine Call_ (a18 I hg hm b9V (PyProof.Rows.callWith_type1 (M8 (ha pos pins s σ H _ I h) λus s1 h0=>v9 h0 λvs H1 I1 r1 q1=> ?_) (by rw [hs,hs2]) (by rw [hs2];rfl)))
 obtain⟨x,y,xs,ys,rfl,h1,h2,q⟩:=q1
 cases r1 with
 |cons r rr=>
  cases rr with
  |cons r' rr=>
   cases rr
   cases r
   cases r'
   obtain⟨its1,rv1,pt1,_⟩:=I1.tuple h1
   obtain⟨its2,rv2,pt2,_⟩:=I1.tuple h2
   have l1:x<s1.heap.objs.size:=by obtain⟨o,e,_⟩:=pt1;exact AU e
   have l2:y<s1.heap.objs.size:=by obtain⟨o,e,_⟩:=pt2;exact AU e
   refine b3e pt1 pt2 λh' hz hI hO hi1 hi2 hsz hk=> ?_
   refine wpAny_pyIter_zip (s:={s1 with heap:=h'}) hz ?_
   refine⟨s1.heap.objs.size+4,_,_,_,H1,rfl,I1.kept (t':=s1.toks) hk,b9z (c5K _) (c0P l1) (c0P l2),⟨hz,hI,⟨_,_,hO⟩,hi1,hi2⟩,λb hb=> ?_,q⟩
   have hle:s1.heap.objs.size<=b:=by
    simp only [Ab,List.not_mem_nil,or_false] at hb;rcases hb with rfl|rfl|rfl|rfl|rfl<;>lia
   exact I1.fpOk hle (I1.hok.fresh hle)
end
end ZT
namespace PU
open PySem PySem.Spec PyProof.Rows L2
theorem b6d{K:AE}{F H:Hp}{D:AB}{c:MT}{elt:M}{tg:PV->c5->Option c5}{g:TG}{σ:L2.St}{ρ:c5}{k:Nat}{ps r:List PV}{i m:Nat}{xs:List V}{H' F':Hp}{p:PV}{x:V}{done rest:List PV}
 (T:a5y K ρ.length g tg) (en:J4 K F H σ ρ) (hD:H D=ζ) (hsz:ps.length<=AM) (hm:m=ps.length - i) (ex:Ext F H F' H') (fD:F' D=ζ) (rl:n8 K F' done xs) (dl:done.length<=i) (hc:a3x c elt tg (ρ++AQ k ζ) (ps.drop i)=ξ rest) (hr:done++rest=r)
 (hx:H' D=ξ (.lst xs)) (ep:ps[i]?=ξ p) (rx:L3 K F' p x):
 g x (σ++AQ k ζ) H' λσ4 H4=>(∀(j:Nat) v,(σ++AQ k ζ)[j]?=ξ (ξ v)->σ4[j]?=ξ (ξ v))/\tMT K c σ4 H4 λb H5=>if b=true then tM K elt σ4 H5 λv H6=>H6 D=ξ (.lst xs)/\xs.length<AM/\∃m',m'<m/\WC K F H D c elt tg (ρ++AQ k ζ) ps r (i+1) m' (xs++[v]) (B9 H6 D (.lst (xs++[v])))
  else H5 D=ξ (.lst xs)/\∃m',m'<m/\WC K F H D c elt tg (ρ++AQ k ζ) ps r (i+1) m' xs H5:=by
 have hk:i<ps.length:=(Aj.mp ep).1
 have hd:ps.drop i=p::ps.drop (i+1):=by
  rw [List.drop_eq_getElem_cons hk]
  congr 1
  exact(Aj.mp ep).2
 rw [hd] at hc
 unfold a3x at hc
 obtain⟨ρ1,e1,hc⟩:=bind_some hc
 obtain⟨b,e2,hc⟩:=bind_some hc
 have en':=(en.ext ex).more k
 refine T F' H' _ _ ρ1 p x _ en' rx e1 λσ4 en4 keep=>⟨λj v e=> ?_, ?_⟩
 ·by_cases hj:j<ρ.length
  ·rw [keep j hj];exact e
  ·rw [List.getElem?_append_right (by rw [en.len];lia),List.getElem?_replicate] at e
   split at e<;>cases e
 refine⟨F',ρ1,b,en4,e2,λF5 H5 x5=> ?_⟩
 have ex5:=ex.trans x5
 have fD5:F5 D=ζ:=x5.nw D _ fD hx (λ_ h=>nomatch h)
 cases b with
 |false=>
  rw [if_neg Ac] at hc
  refine b6u ⟨x5.h _ _ hx,ps.length - (i+1),by lia,F5,done,rest,by lia,rfl,ex5,fD5,n8.mono x5.f _ rl,by lia,hc,hr⟩
 |true=>
  rw [if_pos rfl] at hc
  obtain⟨q,e3,hc⟩:=bind_some hc
  obtain⟨rt,e4,hc⟩:=bind_some hc
  cases hc
  obtain⟨re,e5,e6⟩:=bind_some e3
  refine b6v ⟨F5,ρ1,re,en4.ext x5,e5,λv F6 H6 o6=> ?_⟩
  obtain⟨F7,o7⟩:=o6.toVal e6
  have hx6:H6 D=ξ (.lst xs):=o6.x.h _ _ (x5.h _ _ hx)
  have fD7:F7 D=ζ:=o7.x.nw D _ fD5 (x5.h _ _ hx) (λ_ h=>nomatch h)
  have ex7:=ex5.trans o7.x
  have hlen:=rl.length
  refine⟨hx6,by lia,ps.length - (i+1),by lia,F7,done++[q],rt,by lia,rfl,⟨ex7.f,λa o z=> ?_,λa o z=> ?_,ex7.nw,ex7.nf⟩,fD7,n8.append (n8.mono (x5.f.trans o7.x.f) _ rl) ⟨v,[],rfl,o7.rep,rfl⟩,by simp;lia,e4,by rw [List.append_assoc];exact hr⟩
  ·rw [l8 (m5 z hD)];exact ex7.h _ _ z
  ·rw [l8 (m5 z fD7)];exact ex7.fh _ _ z
def b0S(ps qs:List PV):List PV:=List.zipWith (λp q=> .tuple [p,q]) ps qs
theorem c19(ps qs:List PV):(b0S ps qs).length=min ps.length qs.length:=by simp [b0S]
def b7E(m:MA):MI:=λρ=>(m ρ).bind λas=>match as with
 |[.tuple ps,.tuple qs]=>ξ (b0S ps qs)
 |_=>ζ
section
variable {X:Cx}
theorem b98{a b elt:AG}{ifs:List AG}{scope:Scope}{N0 ys:List Str}{m:MA}{g:TG}{c:MT}{me:M}{t:PV->c5->Option c5}{p rp pos tpos:Pos}{elts:List AG}{x1}(hx:∀e s,X.xe e s->False)(hc:X.calm=true)(S:T6 X.N N0 ys X.env scope)
 (hgl:Gl X "zip") (hm:X.mg "zip"=ζ) (ha:EA X [a,b] m)
 (hg:∀C fp pins s H,PG (K4 X N0 scope ys C fp pins s H) (.Tuple elts x1 tpos) g) (T:∀n,n=X.N.length->a5y X.K n g t) (ht:∀C fp pins s H,EC (K4 X N0 scope ys C fp pins s H) ifs c) (he:∀C fp pins s H,EE (K4 X N0 scope ys C fp pins s H) elt me)
 (hst:AL [a,b] X.env=[(false,eval a X.env),(false,eval b X.env)]:=by rfl) (hst2:AL [b] X.env=[(false,eval b X.env)]:=by rfl)
 (hs:∀x,foldedSetIterable (.Call (.Name "zip" p) [a,b] [] rp) X.env x=pure x:=by intro _;rfl):
 EE X (.ListComp elt [⟨.Tuple elts x1 tpos,.Call (.Name "zip" p) [a,b] [] rp,ifs,0⟩] scope pos) (F9 ys.length (b7E m) t c me):=by
 intro pins s σ H Q I h
 refine b7L (tc:=tMT X.K c) (te:=tM X.K me) hx hc S (ZT.pi_zipT hgl hm ha hst hst2) hg ht he hs pins s σ H Q I ?_
 obtain⟨F,ρ,r,en,e,kk⟩:=h
 obtain⟨zs,e1,e⟩:=bind_some e
 split at e
 case isFalse=>cases e
 rename_i hsz
 obtain⟨rs,e2,e⟩:=bind_some e
 cases e
 obtain⟨as,e3,e1⟩:=bind_some e1
 split at e1
 case h_2=>cases e1
 rename_i ps qs
 cases e1
 refine⟨F,ρ,_,en,e3,λvs F1 H1 x1 rl=> ?_⟩
 obtain⟨v,r1,rfl,rq,rr⟩:=rl
 obtain⟨v',r',rfl,rq',rr'⟩:=rr
 cases rr'
 obtain⟨l1,xs,rfl,t1,w1⟩:=rq
 obtain⟨l2,ys',rfl,t2,w2⟩:=rq'
 have n1:=w1.length
 have n2:=w2.length
 have zl:=c19 ps qs
 refine⟨l1,l2,xs,ys',rfl,w4 x1.fh t1.sq,w4 x1.fh t2.sq,λD hD=> ?_⟩
 have en1:=en.ext x1
 have T':a5y X.K ρ.length g t:=T _ (by rw [<-en.len,I.len])
 refine⟨WC X.K F1 H1 D c me t (ρ++AQ ys.length ζ) (b0S ps qs) rs,⟨(b0S ps qs).length,F1,[],rs,Nat.zero_le _,rfl,Ext.layH x1.fh hD,x1.fh.free hD,rfl,AS _,e2,rfl⟩,λi mm zs' H2 W hxs=> ?_⟩
 have W':=W
 obtain⟨F',done,rest,hi',hm',ex,fD,rl,dl,hcc,hr⟩:=W'
 have g1:SqT X.K H2 l1 xs:=w4 (x1.fh.trans ex.h) t1.sq
 have g2:SqT X.K H2 l2 ys':=w4 (x1.fh.trans ex.h) t2.sq
 by_cases hlt:i<(b0S ps qs).length
 ·refine .inr ⟨⟨⟨g1,g2⟩,by lia,by lia⟩,λv H3 yv=> ?_⟩
  obtain⟨x,y,d,ex1,ey1,hd,rfl,rfl⟩:=yv
  obtain⟨p',ep,rp⟩:=w1.getV ex1
  obtain⟨q',eq,rq⟩:=w2.getV ey1
  have xl:Ext F' H2 (B9 F' d (.tup [x,y])) (B9 H2 d (.tup [x,y])):=Ext.lay ex.fh hd
  have hxs':B9 H2 d (.tup [x,y]) D=ξ (.lst zs'):=xl.h _ _ hxs
  refine b6d (F':=B9 F' d (.tup [x,y])) T' en1 hD hsz hm' (ex.trans xl) (xl.nw D _ fD hxs (λ_ h=>nomatch h)) (n8.mono xl.f _ rl) dl hcc hr hxs' (p:= .tuple [p',q']) (by
   unfold b0S;rw [List.getElem?_zipWith,ep,eq]) ⟨d,[x,y],rfl,TqT.of r9,⟨x,[y],rfl,L3.mono (ex.f.trans xl.f) _ rp,y,[],rfl,L3.mono (ex.f.trans xl.f) _ rq,rfl⟩⟩
 ·have e4:i=(b0S ps qs).length:=by lia
  subst e4
  refine .inl ⟨⟨⟨g1,g2⟩,by lia,by lia,by lia⟩, ?_⟩
  obtain⟨F2,o⟩:=b4F hD W hxs
  exact kk _ F2 H2 (B2.trans x1 o)
end
def Df0(K:AE)(x:Str)(st:Stmt):Prop:=∃f fd,PySem.W.nsIn K mainGlobals x=ξ (ξ (.ref f))/\Fun K x x st f fd
def Df(K:AE)(mg:Str->Option AA)(x:Str)(st:Stmt):Prop:=∃f fd,Fun K x x st f fd/\mg x=ξ (.ref f)
theorem a9L{K:AE}{x:Str}{st:Stmt}{f:AB}{oc:AA}{od an:Option AB}{osl:Array (Option AA)}{kV doc pm cdv ct:AA}(a:PySem.W.nsIn K mainGlobals x=ξ (ξ (.ref f)))
 (l:K.lookup f=ξ ⟨oc,od,.func (PySem.W.fnOf x x (J8 st) (B8 st) (c9 st) .none kV doc pm an cdv ct),osl⟩) (c:PySem.W.codeIn K cdv x=true) (k:PySem.W.keepIn K (.ref f)=true):Df0 K x st:=⟨_,_,a,c0n l c k⟩
theorem Df0.to{K:AE}{h:Heap}{mg:Str->Option AA}{x:Str}{st:Stmt}(d:Df0 K x st)(X:K.In h)(G:h.Ns mainGlobals mg):Df K mg x st:=by obtain⟨f,fd,a,F⟩:=d;exact⟨f,fd,F,PySem.W.mg_of X G a⟩
theorem O2{N P:List Str}{sc:Scope}(h1:sc.kind= .function:=by rfl)(h2:sc.isCoroutine=false:=by rfl)(h3:sc.isGenerator=false:=by rfl)(h4:N.Nodup:=by decide+kernel)(h5:N.take P.length=P:=by rfl)
 (h6:∀x∈P,sc.names.lookup x=ξ .local\/sc.names.lookup x=ξ .cell:=by decide+kernel) (h7:∀y∈sc.names,y.2≠.free:=by decide+kernel):i8 N P sc:=⟨h1,h2,h3,h4,h5,h6,h7⟩
section
variable {P:AJ}{w:AI}{K:AE}{mg:Str->Option AA}{base:Heap}
theorem n0{x:Str}{st:Stmt}{N ps:List Str}{k:Nat}{m:MS}(D:Df K mg x st)(S:i8 N ps (c9 st))
 (hi:∀(kV doc pm:AA) (an:Option AB) (cdv ct:AA) (us:List AA),us.length=ps.length->bindArgs (PySem.W.fnOf x x (J8 st) (B8 st) (c9 st) .none kV doc pm an cdv ct) ⟨us,[]⟩=pure (ps.zip us))
 (hb:∀(f:AB) (cdv:AA) (A:AK) (outer:List Env) (s:AD) (H:Hp) (E:XK),O1 k (A.deeper (envOfC x (c9 st) s.heap.objs.size f cdv))->ESs (a9H CX0 P w K mg base N x (c9 st) f cdv A outer s H E).nox (B8 st) m):
 n5 P w K mg base x ps (k+1) (m4 (N.length - ps.length) m):=
 let ⟨f,fd,F,hm⟩:=D
 ⟨f,fd,c0i F S (hb f),hm,F.kp,F.binds hi⟩
theorem c2O{fa:AB}{st:Stmt}{x:Str}{k:Nat}{g:List PV->Option d7}(D:Df K mg "law" st)(hfa:mg "law"=ξ (.ref fa))
 (hi:∀(kV doc pm:AA) (an:Option AB) (cdv ct v:AA),bindArgs (PySem.W.fnOf "law" "law" (J8 st) (B8 st) (c9 st) .none kV doc pm an cdv ct) ⟨[v],[]⟩=pure [(x,v)])
 (main:∀ns:List Int,ns.length<=63->g [.list (ns.map .int)]=ξ (.v (.bool true)))
 (H:∀(base:Heap) (f:AB) (fd:FuncData),K.In base->Fun K "law" "law" st f fd->U7 P w K mg base CX0 k f fd [x] (spP K 1 g)):
 ∃fd:FuncData,(∀(s:AD) (v:AA),BindsTo s fd ⟨[v],[]⟩ [(x,v)])/\∀base:Heap,K.In base->base.Ns mainGlobals mg->U7 P w K mg base CX0 k fa fd [x] (b5K K):=by
 obtain⟨f,fd,F,hm⟩:=D
 have e:=hfa.symm.trans hm
 cases e
 refine⟨fd,λs v=> ?_,λbase kb _=>(H base _ fd kb F).imp (c2P main)⟩
 obtain⟨oc,od,kV,doc,pm,an,cdv,ct,osl,rfl,lk,hcd⟩:=F.ex
 exact .of_eq (hi kV doc pm an cdv ct v)
end
theorem el0{C:List AA->Prop}(h:C [])(us:List AA)(e:us.length=0):C us:=List.length_eq_zero_iff.mp e▸h
theorem el1{C:List AA->Prop}(h:∀a,C [a])(us:List AA)(e:us.length=1):C us:=by
 obtain⟨a,rfl⟩:=List.length_eq_one_iff.mp e;exact h a
theorem elS{n:Nat}{us:List AA}(e:us.length=n+1):∃a t,us=a::t/\t.length=n:=by
 cases us with
 |nil=>cases e
 |cons a t=>exact⟨a,t,rfl,Nat.succ.inj e⟩
theorem el2{C:List AA->Prop}(h:∀a b,C [a,b])(us:List AA)(e:us.length=2):C us:=by
 obtain⟨a,t,rfl,z⟩:=elS e;exact el1 (C:=λt=>C (a::t)) (h a) t z
theorem el3{C:List AA->Prop}(h:∀a b c,C [a,b,c])(us:List AA)(e:us.length=3):C us:=by
 obtain⟨a,t,rfl,z⟩:=elS e;exact el2 (C:=λt=>C (a::t)) (h a) t z
theorem el4{C:List AA->Prop}(h:∀a b c d,C [a,b,c,d])(us:List AA)(e:us.length=4):C us:=by
 obtain⟨a,t,rfl,z⟩:=elS e;exact el3 (C:=λt=>C (a::t)) (h a) t z
abbrev obV(x:Str)(es:List (PV×PV)):PV:= .dict ((.str x,.bool false)::es)
def b3k(f:Str):List (PV×PV)->Option PV
 |[]=>ζ
 |(.str g,p)::r=>if f==g then ξ p else b3k f r
 |_::_=>ζ
def c5L:List Str->List PV->List (PV×PV)
 |f::fs,q::qs=>(.str f,q)::c5L fs qs
 |_,_=>[]
section
variable {K:AE}{F:Hp}
theorem b7o{f:Str}:∀{es:List (PV×PV)} {fs:List (Str×V)} {p:PV},a6y K F es fs->b3k f es=ξ p->∃v,fs.lookup f=ξ v/\L3 K F p v
 |[],_,_,_,h=>by cases h
 |(k,q)::es,_,p,⟨g,v,t,e,z,r,rt⟩,h=>by
  subst e;subst z;unfold b3k at h;rw [List.lookup_cons];cases hg:f==g with
  |true=>rw [hg] at h;cases h;exact⟨v,rfl,r⟩
  |false=>rw [hg] at h;exact b7o rt h
theorem b4S{f:Str}:∀{es:List (PV×PV)} {fs:List (Str×V)},a6y K F es fs->b3k f es=ζ->fs.lookup f=ζ
 |[],_,h,_=>by cases h;rfl
 |(k,q)::es,_,⟨g,v,t,e,z,r,rt⟩,h=>by
  subst e;subst z;unfold b3k at h;rw [List.lookup_cons];cases hg:f==g with
  |true=>rw [hg] at h;cases h
  |false=>rw [hg] at h;exact b4S rt h
theorem b5z:∀{fs:List Str} {qs:List PV} {vs:List V},n8 K F qs vs->a6y K F (c5L fs qs) (fs.zip vs)
 |[],qs,vs,_=>rfl
 |f::fs,[],vs,h=>by cases h;rfl
 |f::fs,q::qs,vs,⟨v,t,e,r,rt⟩=>by subst e;exact⟨f,v,_,rfl,rfl,r,b5z rt⟩
theorem c37{x:Str}{es:List (PV×PV)}{v:V}(h:L3 K F (obV x es) v):∃a C dx fs,v= .ref a/\F a=ξ (.ins C dx fs)/\a1H K x C/\a6y K F es fs:=by
 rcases h with⟨a,ys,_,_,kk,w,t,_,z,_⟩|⟨a,ys,_,_,kk,w,t,_,z,_⟩|⟨y,t,e,h⟩|⟨y,m,fs,ho,hf⟩
 ·cases z
 ·cases z
 ·cases e;rcases h with⟨z,_⟩|⟨z,_⟩<;>cases z
 ·obtain⟨g,v',t,e,z,r,rt⟩:=hf;cases e;cases z;rcases ho with⟨rfl,a,C,dx,e,q,n⟩|⟨rfl,_⟩
  ·exact⟨a,C,dx,fs,e,q,n,rt⟩
  ·cases r
end
theorem c15{H:Hp}{a:AB}{o:HO}(h:H a=ξ o):B9 H a o=H:=by
 funext b;unfold B9;split
 ·rename_i e;rw [e,h]
 ·rfl
theorem b5x{f:Str}{v:V}:∀{gs:List (Str×V)},f∉gs.map (·.1)->a4D f v gs=gs++[(f,v)]
 |[],_=>rfl
 |(g,x)::r,h=>by
  simp only [AN,Ab,not_or] at h;show(if g=f then _ else _)=_
  rw [if_neg λe=>h.1 e.symm,b5x h.2];rfl
def tFl(K:AE):Nat->List Str->TS
 |_,[]=>c4e
 |i,f::r=>c6p (c6i K (a3G 0) (a3G i) f) (tFl K (i+1) r)
theorem b72{K:AE}{C:AB}(c:Cls K C){a dx:AB}{D:a3J}{σ:L2.St}(h0:σ[0]?=ξ (ξ (.ref a))):∀(fs:List Str) (i:Nat) (gs:List (Str×V)) (ws:List V) (H:Hp),
 (∀f∈fs,a0A K C f)->fs.Nodup->(∀f∈fs,f∉gs.map (·.1))->gs.length+fs.length<=1000->ws.length=fs.length->(∀j w,ws[j]?=ξ w->σ[i+j]?=ξ (ξ w))->H a=ξ (.ins C dx gs)->
 D.nx σ (B9 H a (.ins C dx (gs++fs.zip ws)))->tFl K i fs D σ H
 |[],i,gs,ws,H,_,_,_,_,_,_,hH,k=>by
  rw [List.zip_nil_left,Ag,c15 hH] at k;exact k
 |f::fs,i,gs,ws,H,hn,nd,hd,hl,hw,hs,hH,k=>by
  cases ws with
  |nil=>cases hw
  |cons w ws=>
   have hl':gs.length+(fs.length+1)<=1000:=hl;refine⟨w,hs 0 w rfl,.ref a,h0,a,C,dx,gs,rfl,hH,c,hn f AZ,by lia, ?_⟩
   have hp:=b5x (v:=w) (hd f AZ);rw [hp];rw [List.nodup_cons] at nd;refine b72 c h0 fs (i+1) (gs++[(f,w)]) ws _ (λg hg=>hn g (Aa _ hg)) nd.2 (λg hg=> ?_) (by simp only [AY,AX,Am];lia) (Nat.succ.inj hw) (λj u hj=> ?_) r9 ?_
   ·simp only [Au,AN,An,Ax,List.mem_singleton,not_or];exact⟨hd g (Aa _ hg),λe=>nd.1 (e▸hg)⟩
   ·have:=hs (j+1) u (by simpa using hj)
    rwa [show i+(j+1)=i+1+j by lia] at this
   ·rw [b76,List.append_assoc];exact k
def spI(C:AB)(fs:List Str):Sp:=λvs H Q _=>∃a dx ws,vs= .ref a::ws/\ws.length=fs.length/\H a=ξ (.ins C dx [])/\Q .non (B9 H a (.ins C dx (fs.zip ws)))
theorem c4A{P:AJ}{w:AI}{K:AE}{mg:Str->Option AA}{base:Heap}{qual:Str}{st:Stmt}{f C:AB}{fd:FuncData}{ps fs:List Str}{k:Nat}(F:Fun K "__init__" qual st f fd)(S:i8 ps ps (c9 st))(hl:ps.length=fs.length+1)
 (c:Cls K C) (na:∀f∈fs,a0A K C f) (nd:fs.Nodup) (hs:fs.length<=1000)
 (hb:∀(cdv:AA) (A:AK) (outer:List Env) (s:AD) (H:Hp) (E:XK),O1 k (A.deeper (envOfC qual (c9 st) s.heap.objs.size f cdv))->PSs (a9H CX0 P w K mg base ps qual (c9 st) f cdv A outer s H E).nox (B8 st) (tFl K 1 fs)):
 U7 P w K mg base CX0 (k+1) f fd ps (spI C fs):=by
 refine F.ok S (λvs H Q E h=> ?_) (λcdv A outer s H vs Q E hr h=> ?_)
 ·obtain⟨a,dx,ws,rfl,h2,_⟩:=h
  rw [AX,h2,hl]
 ·obtain⟨a,dx,ws,rfl,h2,hH,q⟩:=h
  refine⟨_,hb cdv A outer s H E hr, ?_⟩
  refine b72 (σ:=a4Y ps (.ref a::ws)) c rfl fs 1 [] ws H na nd (λ_ _ z=>nomatch z) (by simpa using hs) h2 (λj u hj=> ?_) hH q
  unfold L2.a4Y
  rw [Aw (by rw [AW,AX];have:=(Aj.mp hj).1;lia),Nat.add_comm,AN,List.getElem?_cons_succ,Ao,hj]
  rfl
def M9(P:AJ)(w:AI)(K:AE)(mg:Str->Option AA)(base:Heap)(x:Str)(fs:List Str)(k:Nat):Prop:=
 ∃C f fd ps,Mk K C f/\U7 P w K mg base CX0 k f fd ps (spI C fs)/\mg x=ξ (.ref C)/\a05 K fd ps []/\a1H K x C
def a6j(x:Str)(fs:List Str)(m:MA):M:=λρ=>(m ρ).bind λqs=>ξ (.v (obV x (c5L fs qs)))
section
variable {X:Cx}
theorem a35{k k':Nat}{fs:List Str}{x:Str}{p pos:Pos}{e:AG}{es:List AG}{m:MA}
 (d:M9 X.prog X.w X.K X.mg X.base x fs k) (hr:O1 k' X.A) (hk:k+1<=k') (hg:Gl X x) (hn:∀ρ qs,m ρ=ξ qs->qs.length=fs.length) (ha:EA X (e::es) m)
 (hdb:(x==("__debug__":Str))=false:=by decide) (he:AL (e::es) X.env=(false,eval e X.env)::AL es X.env:=by rfl) (hpl:(backTo pos (AL es X.env)).any (·.1)=false:=by rfl):
 EE X (.Call (.Name x p) (e::es) [] pos) (a6j x fs m):=by
 obtain⟨C,f,fd,ps,M,G,hm,hb,nm⟩:=d
 refine C6 (c3e M G (hr.mono hk) hg hm hb .nil b2v ha hdb he hpl) λσ H Q h0=>B7 h0 λF ρ r en em kk=> ?_
 obtain⟨qs,e1,e2⟩:=bind_some em
 cases e2
 refine⟨F,ρ,qs,en,e1,λvs F1 H1 x1 rl=> ?_⟩
 intro y dx hy hdx hne
 refine⟨y,dx,vs,by rw [Ag],by rw [rl.length,hn _ _ e1],r9,rfl, ?_⟩
 rw [b76]
 have x2:Ext F1 H1 F1 (B9 H1 dx (.own y)):=Ext.layH x1.fh hdx
 have hy2:B9 H1 dx (.own y) y=ζ:=by rw [l8 λz=>hne z.symm];exact hy
 have x3:Ext F1 (B9 H1 dx (.own y)) (B9 F1 y (.ins C dx (fs.zip vs))) (B9 (B9 H1 dx (.own y)) y (.ins C dx (fs.zip vs))):=Ext.lay x2.fh hy2
 refine kk _ _ _ (B2.trans (x1.trans x2) (B2.val x3 ?_))
 refine .inr (.inr (.inr ⟨x,.bl false,fs.zip vs,.inl ⟨rfl,y,C,dx,rfl,r9,nm⟩,x,.bl false,_,rfl,rfl,rfl, ?_⟩))
 exact a6y.mono x3.f _ (b5z rl)
def a0z(K:AE)(tab:List Str)(f:Str):Prop:=∀x,tab.contains x=true->∀C,a1H K x C->Cls K C/\a0A K C f
def E5(tab:List Str)(f:Str)(r:d7):Option d7:=match r with
 | .v (.dict ((.str x,.bool false)::es))=>if tab.contains x=true then(b3k f es).map .v else ζ
 |_=>ζ
theorem C8{tab:List Str}{f:Str}{e:AG}{m:M}{pos:Pos}(T:a0z X.K tab f)(ha:EE X e m)(hb:attributeBase e f X.env (eval e X.env)=eval e X.env:=by rfl):EE X (.Attribute e f pos) (m1 (E5 tab f) m):=
 C6 (c5c ha hb) λσ H Q h0=>B7 h0 λF ρ r en em k=>by
  obtain⟨rx,e1,e2⟩:=bind_some em;refine⟨F,ρ,rx,en,e1,λv F1 H1 o=> ?_⟩;unfold E5 at e2;split at e2
  ·rename_i x es;split at e2
   ·rename_i hc;cases hp:b3k f es with
    |none=>rw [hp] at e2;cases e2
    |some q=>
     rw [hp] at e2;cases e2;obtain⟨a,C,dx,fs,rfl,ha,nm,hr⟩:=c37 o.rep;obtain⟨v,hl,rv⟩:=b7o hr hp;obtain⟨c,n⟩:=T x hc C nm;exact⟨a,C,dx,fs,v,rfl,o.x.fh _ _ ha,c,n,hl,k v F1 H1 (B2.val o.x rv)⟩
   ·cases e2
  ·cases e2
def a88(X:Cx)(m:Str)(n k':Nat)(tab:List (Str×(List PV->Option d7))):Prop:=∀x g,tab.lookup x=ξ g->∀C,a1H X.K x C->∃f fd ps k,Cls X.K C/\c5M X.K C m f/\U7 X.prog X.w X.K X.mg X.base CX0 k f fd ps (spP X.K ps.length g)/\k<=k'/\a05 X.K fd ps []/\ps.length=n+1
def A5(P:AJ)(w:AI)(K:AE)(mg:Str->Option AA)(base:Heap)(f:AB)(ps:List Str)(k:Nat)(g:List PV->Option d7):Prop:=
 ∃fd,U7 P w K mg base CX0 k f fd ps (spP K ps.length g)/\PySem.W.isFn K (.ref f)=true/\PySem.W.keepIn K (.ref f)=true/\a05 K fd ps []
structure KC(K:AE)(x:Str)(C:AB):Prop where
 named:a1H K x C
 cls:Cls K C
theorem B0{m:Str}{n k':Nat}:a88 X m n k' []:=λ_ _ h=>nomatch h
theorem b5{m:Str}{n k k':Nat}{x:Str}{f C:AB}{ps:List Str}{g:List PV->Option d7}{t:List (Str×(List PV->Option d7))}(d:A5 X.prog X.w X.K X.mg X.base f ps k g)(c:KC X.K x C)(h:PySem.W.findIn X.K (.ref C) m=ξ (ξ (.ref f)))(hk:k<=k')(hn:ps.length=n+1)(T:a88 X m n k' t):a88 X m n k' ((x,g)::t):=λy g' q D nm=>by
 rw [List.lookup_cons] at q;split at q
 ·rename_i z;cases q;rw [beq_iff_eq.mp z] at nm;cases nm.uniq c.named;obtain⟨fd,G,h1,h2,h3⟩:=d;exact⟨f,fd,ps,k,c.cls,⟨h,h1,h2⟩,G,hk,h3,hn⟩
 ·exact T y g' q D nm
def U0(tab:List (Str×(List PV->Option d7)))(m:Str)(mo:M)(ma:MA):M:=λρ=>(mo ρ).bind λr=>match r with
 | .v (.dict ((.str x,.bool false)::es))=>if(b3k m es).isNone=true then(tab.lookup x).bind λg=>(ma ρ).bind λqs=>g (obV x es::qs) else ζ
 |_=>ζ
theorem c2U{tab:List (Str×(List PV->Option d7))}{m:Str}{mo:M}{ma:MA}{ρ:c5}{r:d7}(h:U0 tab m mo ma ρ=ξ r):∃x es g qs,mo ρ=ξ (.v (obV x es))/\b3k m es=ζ/\tab.lookup x=ξ g/\ma ρ=ξ qs/\g (obV x es::qs)=ξ r:=by
 unfold U0 at h;obtain⟨r1,e1,h⟩:=bind_some h;split at h
 ·rename_i x es;split at h
  ·rename_i hn;obtain⟨g,e2,h⟩:=bind_some h;obtain⟨qs,e3,h⟩:=bind_some h;exact⟨x,es,g,qs,e1,Option.isNone_iff_eq_none.mp hn,e2,e3,h⟩
  ·cases h
 ·cases h
theorem P9{tab:List (Str×(List PV->Option d7))}{m:Str}{n k':Nat}{o e:AG}{es:List AG}{mo:M}{ma:MA}{pl:Sem Bool}{apos pos:Pos}(T:a88 X m n k' tab)(hr:O1 k' X.A)(ho:EE X o mo)(hn:∀ρ qs,ma ρ=ξ qs->qs.length=n)(ha:EA X (e::es) ma)
 (hst:AL (e::es) X.env=(false,eval e X.env)::AL es X.env:=by rfl) (hpl:(backTo pos (AL es X.env)).any (·.1)=false:=by rfl)
 (ht:eval (.Call (.Attribute o m apos) (e::es) [] pos) X.env=(do
  let ov<-eval o X.env
  standAt apos.atName
  let (f,first)<-holding [ov] (getMethod ov m pl)
  callWith pos f first (backTo pos (AL (e::es) X.env)) (backToKw pos (keywordEach [] X.env))):=by rfl):
 EE X (.Call (.Attribute o m apos) (e::es) [] pos) (U0 tab m mo ma):=by
 intro pins s σ H Q I ⟨F,ρ,r,env,hm,k⟩
 obtain⟨x,fe,g,qs,e1,e2,e3,e4,e5⟩:=c2U hm
 refine PySem.W.methodCall_KW (pl:=pl) (M8 (ho pins s σ H _ I ⟨F,ρ,_,env,e1,λv F1 H1 o1=>(⟨F1,o1⟩:∃F1,B2 X.K F H F1 H1 v (.v (obV x fe)))⟩) λu s1 h0=> ?_) ht;obtain⟨v,H1,I1,rx,F1,o1⟩:=h0
 obtain⟨a,C,dx,fs,rfl,ha',nm,hf⟩:=c37 o1.rep
 obtain rfl:u=Value.ref a:=rx
 obtain⟨f,fd,ps,kk,c,hM,G,hk,hb,hl⟩:=T x g e3 C nm
 refine b6q I1 (o1.x.fh _ _ ha') c hM (b4S hf e2) ?_
 refine PySem.W.callWith_K (first:=[.ref a]) (h₀:=X.base) I.ok.mod.kin hM.kp (M8 (ha pos pins s1 σ H1 (λvs H2=>∃F2,Ext F1 H1 F2 H2/\n8 X.K F2 qs vs) I1 ⟨F1,ρ,qs,env.ext o1.x,e4,λvs F2 H2 x2 rl=>⟨F2,x2,rl⟩⟩) λus s2 ⟨vs,H2,I2,rr,F2,x2,rl⟩=>⟨I2.kIn, ?_⟩) hst hpl
 refine b35 (us:= .ref a::us) (vs:= .ref a::vs) (dvs:=[]) (ds:=[]) (sp:=spP X.K ps.length g) (E:=E0) G (hr.mono hk) hb .nil b2v I2 (.cons rfl rr) ?_
 show spP X.K ps.length g (.ref a::vs++[]) H2 Q E0
 rw [Ag]
 exact⟨F2,obV x fe::qs,r,x2.fh,⟨.ref a,vs,rfl,L3.mono x2.f _ o1.rep,rl⟩,by rw [AX,hn _ _ e4,hl],e5,λv F3 H3 o=>k v F3 H3 (B2.trans (o1.x.trans x2) o)⟩
end
section
variable {P:AJ}{w:AI}{K:AE}{mg:Str->Option AA}{base:Heap}
def Dm(K:AE)(x qual:Str)(st:Stmt)(f:AB):Prop:=PySem.W.isFn K (.ref f)=true/\∃fd,Fun K x qual st f fd
theorem c5R{x qual:Str}{st:Stmt}{f:AB}{oc:AA}{od an:Option AB}{osl:Array (Option AA)}{kV doc pm cdv ct:AA}
 (l:K.lookup f=ξ ⟨oc,od,.func (PySem.W.fnOf x qual (J8 st) (B8 st) (c9 st) .none kV doc pm an cdv ct),osl⟩) (c:PySem.W.codeIn K cdv qual=true) (k:PySem.W.keepIn K (.ref f)=true) (i:PySem.W.isFn K (.ref f)=true):Dm K x qual st f:=⟨i,_,c0n l c k⟩
theorem y0{x qual:Str}{st:Stmt}{N ps:List Str}{k:Nat}{m:MS}{f:AB}(D:Dm K x qual st f)(S:i8 N ps (c9 st))
 (hi:∀(kV doc pm:AA) (an:Option AB) (cdv ct:AA) (us:List AA),us.length=ps.length->bindArgs (PySem.W.fnOf x qual (J8 st) (B8 st) (c9 st) .none kV doc pm an cdv ct) ⟨us,[]⟩=pure (ps.zip us))
 (hb:∀(cdv:AA) (A:AK) (outer:List Env) (s:AD) (H:Hp) (E:XK),O1 k (A.deeper (envOfC qual (c9 st) s.heap.objs.size f cdv))->ESs (a9H CX0 P w K mg base N qual (c9 st) f cdv A outer s H E).nox (B8 st) m):
 A5 P w K mg base f ps (k+1) (m4 (N.length - ps.length) m):=
 let ⟨i,fd,F⟩:=D
 ⟨fd,c0i F S hb,i,F.kp,F.binds hi⟩
theorem a0u{x qual:Str}{st:Stmt}{ps fs:List Str}{k:Nat}{f C:AB}(D:Dm K "__init__" qual st f)(S:i8 ps ps (c9 st))(hl:ps.length=fs.length+1)(c:KC K x C)(hm:mg x=ξ (.ref C))(M:Mk K C f)(na:∀f∈fs,a0A K C f)(nd:fs.Nodup)(hs:fs.length<=1000)
 (hi:∀(kV doc pm:AA) (an:Option AB) (cdv ct:AA) (us:List AA),us.length=ps.length->bindArgs (PySem.W.fnOf "__init__" qual (J8 st) (B8 st) (c9 st) .none kV doc pm an cdv ct) ⟨us,[]⟩=pure (ps.zip us))
 (hb:∀(cdv:AA) (A:AK) (outer:List Env) (s:AD) (H:Hp) (E:XK),O1 k (A.deeper (envOfC qual (c9 st) s.heap.objs.size f cdv))->PSs (a9H CX0 P w K mg base ps qual (c9 st) f cdv A outer s H E).nox (B8 st) (tFl K 1 fs)):
 M9 P w K mg base x fs (k+1):=
 let ⟨i,fd,F⟩:=D
 ⟨C,f,fd,ps,M,c4A F S hl c.cls na nd hs hb,hm,F.binds hi,c.named⟩
end
theorem P0{K:AE}{f:Str}:a0z K [] f:=λ_ h=>nomatch h
theorem A9{K:AE}{f x:Str}{C:AB}{t:List Str}(c:KC K x C)(n:a0A K C f)(h:a0z K t f):a0z K (x::t) f:=λy q D nm=>by
 rw [List.contains_cons,Bool.or_eq_true] at q;rcases q with q|q
 ·rw [beq_iff_eq.mp q] at nm;cases nm.uniq c.named;exact⟨c.cls,n⟩
 ·exact h y q D nm
section
variable {X:Cx}
end
def N6(st:Stmt)(j:Nat):Stmt:=match st with
 | .ClassDef _ _ _ body _ _ _ _ _ _ _=>body.getD j st
 |_=>st
open PySem PySem.Spec PyProof.Rows L2 PySem.W
section
variable {prog:AJ}{w:AI}{A:AK}{E:AA->AD->Prop}{s:AD}
end
end PU
set_option maxHeartbeats 3200000
namespace PU
open PySem PySem.Spec PyProof.Rows L2 PySem.W
section
variable {prog:AJ}{w:AI}{A:AK}{E:AA->AD->Prop}{s:AD}
end
set_option maxHeartbeats 1000000
section
variable {prog:AJ}{w:AI}{A:AK}{E:AA->AD->Prop}{s:AD}{it a:AB}{i ep:Nat}{es:Array (Int×AA)}
end
section
variable {prog:AJ}{w:AI}{A:AK}{E:AA->AD->Prop}{s:AD}{a:AB}{ep:Nat}{es:Array (Int×AA)}
end
section
variable {X:Cx}{pins:List (AB×Obj)}{σ:L2.St}{H:Hp}{s:AD}
end
open PySem PySem.Spec PyProof.Rows L2
theorem a8h(k:u8):∀xs:List (u8×V),a2n (xs.map s1) [k]=a2n xs k
 |[]=>rfl
 |x::r=>by
  rw [AN]
  by_cases c:x.1=k
  ·rw [a2H (p:=x) c,a2H (p:=s1 x) (by show [x.1]=[k];rw [c])];rfl
  ·rw [a2G (p:=x) c,a2G (p:=s1 x) (by show ¬[x.1]=[k];intro h;exact c (List.cons.inj h).1),a8h k r]
theorem b9P(k:u8):∀xs:List (u8×V),((xs.map s1).any λkv=>decide (kv.1=[k]))=(xs.any λkv=>decide (kv.1=k))
 |[]=>rfl
 |x::r=>by
  rw [AN,List.any_cons,List.any_cons,b9P k r]
  congr 1
  show decide ([x.1]=[k])=decide (x.1=k);simp
theorem b7R(k:u8)(v:V):∀xs:List (u8×V),(xs.map λkv=>if kv.1=k then(kv.1,v) else kv).map s1=(xs.map s1).map λkv=>if kv.1=[k] then(kv.1,v) else kv
 |[]=>rfl
 |x::r=>by
  rw [AN,AN,AN,AN,b7R k v r]
  congr 1
  by_cases c:x.1=k
  ·rw [if_pos c,if_pos (show(s1 x).1=[k] by show [x.1]=[k];rw [c])];rfl
  ·rw [if_neg c,if_neg (show ¬(s1 x).1=[k] by show ¬[x.1]=[k];intro h;exact c (List.cons.inj h).1)]
theorem c5n(k:u8)(v:V)(xs:List (u8×V)):(a5s xs k v).map s1=a5s (xs.map s1) [k] v:=by
 unfold a5s;rw [b9P];split
 ·exact b7R k v xs
 ·rw [Au];rfl
theorem B2.txt{K:AE}{F H:Hp}{a:AB}(s:u4 F H)(n:H a=ζ):B2 K F H F (B9 H a (.dK [])) (.ref a) (.ow (.txt [])):=
 ⟨Ext.layH s n,⟨a,[],rfl,s.free n,r9,rfl⟩,λ_ _ _ e=>by cases e;exact n⟩
theorem a4r{K:AE}{F H:Hp}{r:d7}{x:Str}{v:V}(e:b3y r=ξ x)(h:X4 K F H v r):v=kV (.inr x):=by
 unfold b3y at e;split at e
 ·cases e;exact h
 ·cases e
section
variable {X:Cx}
def c2S:M:=λ_=>ξ (.ow (.txt []))
theorem b6g{pos:Pos}:EE X (.Dict [] [] pos) c2S:=
 C6 c1l λσ H Q h0=>B7 h0 λF ρ r en e k=>by
  cases e;exact λd hd=>k _ _ _ (B2.txt en.fh hd)
def b74(i:Nat)(ρ:c5)(p:PV)(x:Str):Option Fl:=match ρ[i]? with
 |some (ξ (.ow (.txt kvs)))=>if kvs.length<AM then ξ (.nx (ρ.set i (ξ (.ow (.txt (b6R kvs [.inr x] p)))))) else ζ
 |_=>ζ
def a3z(i:Nat)(mk mv:M):MS:=λρ=>((mv ρ).bind d7.toVal).bind λp=>((mk ρ).bind b3y).bind (b74 i ρ p)
theorem a9c(i:Nat){x:Str}{p tp2 pos:Pos}{ek e:AG}{mk mv:M}(hu:X.A.units+64<cLine)(hx:PE X (.Name x p) (a3G i))(hi:EE X ek mk)(he:EE X e mv)
 (hs:swapsWith e (ξ (.Subscript (.Name x p) ek tp2)) pos.line X.env=pure false:=by rfl):ES X (.Assign [.Subscript (.Name x p) ek tp2] e pos) (a3z i mk mv):=
 W5 (c3i (by lia) hx hi he hs) λD σ H h0=>R6 h0 λF0 H0 F ρ fl so e fin=>by
  obtain⟨q,e1,e⟩:=bind_some e;obtain⟨r,e2,e3⟩:=bind_some e1;obtain⟨k,e4,e⟩:=bind_some e;obtain⟨rk,e4,e5⟩:=bind_some e4;refine⟨F,ρ,r,so.e,e2,λv F1 H1 o=> ?_⟩;obtain⟨F2,o2⟩:=o.toVal e3;have so2:=so.ext o2.x;unfold b74 at e;split at e
  ·rename_i kvs eo;split at e
   ·rename_i hl;cases e;obtain⟨w,hw1,a,xs,rfl,fa,ha',rl⟩:=so2.e.at_ i _ eo;refine⟨.ref a,hw1,F2,ρ,rk,so2.e,e4,λy F3 H3 o3=> ?_⟩;cases a4r e5 o3.rep;have ha3:=o3.x.h _ _ ha';have so3:=so2.ext o3.x;have hlen:xs.length=kvs.length:=by have:=rl.length;rwa [AW] at this
    refine⟨a,_,rfl,b9C.k (k:= .inr k) ha3 (by rw [hlen];exact hl), ?_⟩
    refine fin σ _ _ (o2.x.f.trans o3.x.f) (so3.putT eo hw1 ?_);rw [c5n];exact(E9.mono o3.x.f _ rl).put (L3.mono o3.x.f _ o2.rep)
   ·cases e
  ·cases e
def c6t(neg:Bool)(i:Nat)(ρ:c5)(x:Str):Option d7:=match ρ[i]? with
 |some (ξ (.ow (.txt kvs)))=>ξ (.v (.bool (if neg then !(O4 kvs [.inr x]).isSome else(O4 kvs [.inr x]).isSome)))
 |_=>ζ
def b1o(neg:Bool)(i:Nat)(mk:M):M:=λρ=>((mk ρ).bind b3y).bind (c6t neg i ρ)
theorem b73{i:Nat}{mk:M}{neg:Bool}{σ:L2.St}{H:Hp}{Q:VK}(h:tM X.K (b1o neg i mk) σ H Q):
 tM X.K mk σ H λy H1=>a3G i σ H1 λx H2=>∃a o,x= .ref a/\a3H H2 a y o/\Q (.bl (if neg then !o.isSome else o.isSome)) H2:=by
 obtain⟨F,ρ,r,en,e,k⟩:=h
 obtain⟨kk,e4,e⟩:=bind_some e
 obtain⟨rk,e4,e5⟩:=bind_some e4
 unfold c6t at e
 split at e
 ·rename_i kvs eo
  cases e
  refine⟨F,ρ,rk,en,e4,λy F3 H3 o3=> ?_⟩
  cases a4r e5 o3.rep
  obtain⟨w,hw1,a,xs,rfl,fa,ha',rl⟩:=(en.ext o3.x).at_ i _ eo
  refine⟨.ref a,hw1,a,a2n xs (.inr kk),rfl,a3H.k ha', ?_⟩
  have:=rl.isSome (k:=[.inr kk])
  rw [a8h] at this
  rw [this]
  exact k _ _ _ (B2.val o3.x rfl)
 ·cases e
theorem c4y(i:Nat){x:Str}{p pos:Pos}{ek:AG}{mk:M}(hu:X.A.units+64<cLine)(hx:PE X (.Name x p) (a3G i))(hi:EE X ek mk)(hm:behindInMarks .In (.Name x p)=false):ET X (.Compare ek [.In] [.Name x p] pos) (u6 (b1o false i mk)):=
 a79 (b6Q (c5a (by lia) hi hx) hm) λσ H Q h=>c1W (λ_ _ _ h=>b73 h) h
theorem b8y(i:Nat){x:Str}{p pos:Pos}{ek:AG}{mk:M}(hu:X.A.units+64<cLine)(hx:PE X (.Name x p) (a3G i))(hi:EE X ek mk)(hm:behindInMarks .NotIn (.Name x p)=false):ET X (.Compare ek [.NotIn] [.Name x p] pos) (u6 (b1o true i mk)):=
 a79 (b6Q (b2w (by lia) hi hx) hm) λσ H Q h=>c1W (λ_ _ _ h=>b73 h) h
end
section
variable {prog:AJ}{w:AI}{K:Type}[DecidableEq K]{knd:KeyKind prog w K}{A:AK}{E:AA->AD->Prop}{s:AD}
end
section
variable {prog:AJ}{w:AI}{A:AK}{E:AA->AD->Prop}{s:AD}
end
end PU
namespace TS
open PySem PySem.Spec PyProof.Rows L2 PU
section
variable {prog:AJ}{w:AI}{A:AK}{E:AA->AD->Prop}{s:AD}
variable {κ:SortKind}{S:Heap->Keyed->Prop}{R:Heap->Keyed->Keyed->Bool}
end
end TS
namespace PU
open PySem PySem.Spec PyProof.Rows L2 PySem.W
section
variable {X:Cx}{pins:List (AB×Obj)}{σ:L2.St}{H H':Hp}{s:AD}{h':Heap}
end
section
variable {X:Cx}
end
open PySem PySem.Spec PyProof.Rows L2
section
variable {X:Cx}{pins:List (AB×Obj)}{σ:L2.St}{H:Hp}{s:AD}{a:AB}{kvs:List (u8×V)}{k:u8}{v:V}{u r:AA}{A:AK}{E:AA->AD->Prop}
end
section
variable {X:Cx}{pins:List (AB×Obj)}{σ:L2.St}{A:AK}{R:Result->AD->Prop}
end
section
variable {X:Cx}
end
abbrev tv(kvs:List (List u8×PV)):PV:= .dict (kvs.map λkv=>(PyData.tuple (kv.1.map kP),kv.2))
def b5s(kvs:List (List u8×PV)):Bool:=kvs.all λkv=>kv.1.length==1
def tvw(i:Nat)(ρ:c5):Option (List (List u8×PV)):=match ρ[i]? with
 |some (ξ (.v (.dict es)))=>(unE es).bind λkvs=>if b5s kvs=true then ξ kvs else ζ
 |_=>ζ
theorem b4f{i:Nat}{ρ:c5}{kvs:List (List u8×PV)}(h:ρ[i]?=ξ (ξ (.v (tv kvs))))(ho:b5s kvs=true):tvw i ρ=ξ kvs:=by
 unfold tvw;rw [h];show(unE _).bind _=_;rw [b66,AO,if_pos ho]
theorem b65{K:AE}{F H:Hp}{σ:L2.St}{ρ:c5}(en:J4 K F H σ ρ){i:Nat}{kvs:List (List u8×PV)}(h:tvw i ρ=ξ kvs):∃a xs,σ[i]?=ξ (ξ (.ref a))/\F a=ξ (.dK xs)/\E9 K F kvs (xs.map s1):=by
 unfold tvw at h;split at h
 ·rename_i es eo;obtain⟨kvs',e1,h⟩:=bind_some h;split at h
  ·rename_i ho;cases h;obtain⟨v,hv,hr⟩:=en.at_ i _ eo;rcases hr with⟨a,ys,rfl,ha,hr⟩|⟨a,xs,rfl,ha,hr⟩|⟨x,t,e,_⟩|⟨x,m,fs,_,hr⟩
   ·obtain⟨kvs',h1,h2⟩:=a7L hr;rw [e1] at h1;cases h1;exact⟨a,ys,hv,ha,h2⟩
   ·exfalso
    obtain⟨kvs',h1,h2⟩:=a7L hr;rw [e1] at h1;cases h1;cases kvs with
    |nil=>cases h2
    |cons f fs=>
     obtain⟨k,p⟩:=f;obtain⟨v,t,e,_⟩:=h2;cases e;simp [b5s] at ho
   ·subst e;simp [unE] at e1
   ·cases es with
    |nil=>cases hr
    |cons f es=>obtain⟨k,p⟩:=f;obtain⟨_,_,_,_,z,_⟩:=hr;subst z;simp [unE] at e1
  ·cases h
 ·cases h
section
variable {X:Cx}
def a3b(i:Nat)(mk:M):M:=λρ=>((mk ρ).bind b3y).bind λx=>(tvw i ρ).bind λkvs=>(O4 kvs [.inr x]).map .v
theorem a9S(i:Nat){x:Str}{p pos:Pos}{ek:AG}{mk:M}(hu:X.A.units+64<cLine)(hx:PE X (.Name x p) (a3G i))(hi:EE X ek mk)(hs:c2d ek:=by intro _ _;rfl):EE X (.Subscript (.Name x p) ek pos) (a3b i mk):=
 C6 (c3d (by lia) hx hi hs) λσ H Q h0=>B7 h0 λF ρ r en e k=>by
  obtain⟨kk,e4,e⟩:=bind_some e;obtain⟨rk,e4,e5⟩:=bind_some e4;obtain⟨kvs,e3,e⟩:=bind_some e;cases hv:O4 kvs [.inr kk] with
  |none=>rw [hv] at e;cases e
  |some q=>
   rw [hv] at e;cases e;obtain⟨a,xs,hw1,ha',rl⟩:=b65 en e3;obtain⟨y,hy,ry⟩:=(rl.val (k:=[.inr kk])).1 q hv;rw [a8h] at hy;refine⟨.ref a,hw1,F,ρ,rk,en,e4,λz F3 H3 o3=> ?_⟩;cases a4r e5 o3.rep;exact⟨a,y,rfl,by rw [<-hy];exact a3H.k (o3.x.h _ _ (en.fh _ _ ha')),k _ _ _ (B2.val o3.x (L3.mono o3.x.f _ ry))⟩
end
mutual
def nk:PV->Bool
 | .list ps=>nkL ps
 | .tuple ps=>nkL ps
 | .dict _=>false
 |_=>true
def nkL:List PV->Bool
 |[]=>true
 |p::ps=>nk p && nkL ps
end
def nkD:List (List u8×PV)->Bool
 |[]=>true
 |(_,p)::r=>nk p && nkD r
def d7.noK:d7->Bool
 | .v p=>nk p
 | .ow (.lst ps)=>nkL ps
 | .ow (.dct kvs)=>nkD kvs
 | .ow (.txt kvs)=>nkD kvs
 | .bo _=>false
section
variable {K:AE}{F:Hp}{a:AB}{xs:List (u8×V)}
mutual
theorem b0y(ha:F a=ξ (.dK xs)):∀(p:PV) {v:V},L3 K F p v->nk p=true->L3 K (drp F a) p v
 | .none,_,h,_=>h
 | .bool _,_,h,_=>h
 | .int _,_,h,_=>h
 | .str _,_,h,_=>h
 | .list ps,_,⟨b,ys,e,q,r⟩,n=>⟨b,ys,e,(by
  rcases q with(q|⟨o,q⟩)|q
  ·exact .inl (.inl (by rw [a58 (b7I q ha (λz=>nomatch z))];exact q))
  ·exact .inl (.inr ⟨o,by rw [a58 (b7I q ha (λz=>nomatch z))];exact q⟩)
  ·exact .inr q),a5g ha ps r (by simpa [nk] using n)⟩
 | .tuple ps,_,⟨b,ys,e,q,r⟩,n=>⟨b,ys,e,(by
  rcases q with q|q
  ·exact .inl (by rw [a58 (b7I q ha (λz=>nomatch z))];exact q)
  ·exact .inr q),a5g ha ps r (by simpa [nk] using n)⟩
 | .dict kvs,_,h,n=>by simp [nk] at n
theorem a5g(ha:F a=ξ (.dK xs)):∀(ps:List PV) {vs:List V},n8 K F ps vs->nkL ps=true->n8 K (drp F a) ps vs
 |[],_,h,_=>h
 |p::ps,_,⟨v,r,e,q,t⟩,n=>by
  simp only [nkL,Bool.and_eq_true] at n;exact⟨v,r,e,b0y ha p q n.1,a5g ha ps t n.2⟩
end
theorem a8c(ha:F a=ξ (.dK xs)):∀(kvs:List (List u8×PV)) {ys:List (List u8×V)},E9 K F kvs ys->nkD kvs=true->E9 K (drp F a) kvs ys
 |[],_,h,_=>h
 |(k,p)::r,_,⟨v,t,e,q,h⟩,n=>by
  simp only [nkD,Bool.and_eq_true] at n;exact⟨v,t,e,b0y ha p q n.1,a8c ha r h n.2⟩
theorem b9m{H:Hp}{v:V}(ha:F a=ξ (.dK xs)):∀{r:d7},X4 K F H v r->r.noK=true->X4 K (drp F a) H v r
 | .v p,h,n=>b0y ha p h n
 | .ow (.lst ps),⟨b,ys,e,f,q,r⟩,n=>⟨b,ys,e,a9N f,q,a5g ha ps r n⟩
 | .ow (.dct kvs),⟨b,ys,e,f,q,r⟩,n=>⟨b,ys,e,a9N f,q,a8c ha kvs r n⟩
 | .ow (.txt kvs),⟨b,ys,e,f,q,r⟩,n=>⟨b,ys,e,a9N f,q,a8c ha kvs r n⟩
 | .bo _,_,n=>nomatch n
end
theorem a99{K:AE}{F2 H1 F3 H3:Hp}{a:AB}{xs:List (u8×V)}{u:V}{r:d7}(fa:F2 a=ζ)(o3:B2 K (B9 F2 a (.dK xs)) H1 F3 H3 u r)(c:r.noK=true):B2 K F2 H1 (drp F3 a) H3 u r:=by
 have up:u4 F2 (B9 F2 a (.dK xs)):=X1 fa;refine⟨⟨λb o z=> ?_,o3.x.h,λb o z=> ?_,λb o z y t=> ?_,λb w u z=> ?_⟩,b9m (o3.x.f _ _ r9) o3.rep c,o3.fr⟩
 ·have hb:b≠a:=m5 z fa;rw [a58 hb];exact o3.x.f _ _ (up _ _ z)
 ·by_cases hb:b=a
  ·subst hb;rw [a9O] at z;cases z
  ·rw [a58 hb] at z;exact o3.x.fh _ _ z
 ·by_cases hb:b=a
  ·subst hb;exact a9O
  ·rw [a58 hb];exact o3.x.nw b o (by rw [l8 hb];exact z) y t
 ·by_cases hb:b=a
  ·subst hb;rw [a9O] at z;cases z
  ·rw [a58 hb] at z;have:=o3.x.nf _ _ _ z;rw [l8 hb] at this;exact this
theorem c0T{F2 H1:Hp}{a:AB}{xs:List (u8×V)}(fh:u4 F2 H1)(ha:H1 a=ξ (.dK xs)):u4 (B9 F2 a (.dK xs)) H1:=λb o z=>by
 by_cases hb:b=a
 ·subst hb;rw [r9] at z;cases z;exact ha
 ·rw [l8 hb] at z;exact fh _ _ z
theorem b2p{K:AE}{F2:Hp}{a:AB}{xs:List (u8×V)}{kvs:List (List u8×PV)}(fa:F2 a=ζ)(rl:E9 K F2 kvs (xs.map s1)):L3 K (B9 F2 a (.dK xs)) (tv kvs) (.ref a):=Or.inl ⟨a,xs,rfl,r9,a5m.of (X1 fa) rl⟩
def W2(g:List PV->Option d7)(i:Nat)(m:M):M:=λρ=>((m ρ).bind d7.toVal).bind λp=>match ρ[i]? with
 |some (ξ (.ow (.txt kvs)))=>(g [p,tv kvs]).bind λr=>if r.noK=true then ξ r else ζ
 |_=>ζ
section
variable {X:Cx}
theorem a9R(i:Nat){k k':Nat}{pa pb:Str}{g:List PV->Option d7}{x y:Str}{p py pos:Pos}{e:AG}{m:M}
 (d:n5 X.prog X.w X.K X.mg X.base x [pa,pb] k g) (hr:O1 k' X.A) (hk:k<=k') (hg:Gl X x) (ha:EE X e m) (hy:PE X (.Name y py) (a3G i))
 (hdb:(x==("__debug__":Str))=false:=by decide) (he:AL [e,.Name y py] X.env=(false,eval e X.env)::AL [.Name y py] X.env:=by rfl) (he2:AL [.Name y py] X.env=(false,eval (.Name y py) X.env)::AL [] X.env:=by rfl)
 (hpl:(backTo pos (AL [.Name y py] X.env)).any (·.1)=false:=by rfl):
 EE X (.Call (.Name x p) [e,.Name y py] [] pos) (W2 g i m):=by
 obtain⟨f,fd,G,h1,h2,h3⟩:=d
 refine C6 (b7K G (hr.mono hk) hg h1 h2 h3 .nil b2v (Q5 ha (Q5 hy a2d he2) he) hdb he hpl) λσ H Q h0=>B7 h0 λF ρ r en hm kq=> ?_
 obtain⟨q,e1,hm⟩:=bind_some hm
 obtain⟨rq,e2,e3'⟩:=bind_some e1
 split at hm
 ·rename_i kvs eo
  obtain⟨r',e7,hm⟩:=bind_some hm
  split at hm
  ·rename_i c
   cases hm
   refine⟨F,ρ,rq,en,e2,λv F1 H1 o1=> ?_⟩
   obtain⟨F2,o2⟩:=o1.toVal e3'
   have en2:=en.ext o2.x
   obtain⟨w,hw,a,xs,rfl,fa,ha',rl⟩:=en2.at_ i _ eo
   refine⟨.ref a,hw, ?_⟩
   show spP X.K 2 g ([v,.ref a]++[]) H1 Q E0
   rw [Ag]
   have up:u4 F2 (B9 F2 a (.dK xs)):=X1 fa
   exact⟨B9 F2 a (.dK xs),[q,tv kvs],_,c0T o2.x.fh ha',⟨v,[.ref a],rfl,L3.mono up _ o2.rep,.ref a,[],rfl,b2p fa rl,rfl⟩,rfl,e7,λu F5 H5 o5=>kq u (drp F5 a) H5 (B2.trans o2.x (a99 fa o5 c))⟩
  ·cases hm
 ·cases hm
end
theorem b44(g:List PV->Option d7)(i:Nat)(m:M)(ρ:c5)(kvs:List (List u8×PV))(h:ρ[i]?=ξ (ξ (.ow (.txt kvs)))):W2 g i m ρ=((m ρ).bind d7.toVal).bind λp=>(g [p,tv kvs]).bind λr=>if r.noK=true then ξ r else ζ:=by unfold W2;rw [h]
section
variable {prog:AJ}{w:AI}{A:AK}{E:AA->AD->Prop}{s:AD}{z TI TO i1 i2:AB}{n1 n2 i:Nat}{P1 P2:Nat->AA->Prop}{St1 St2:Nat->Heap->Prop}{a b:AA}
end
section
variable {X:Cx}
end
section
variable {prog:AJ}{w:AI}{K:Type}[DecidableEq K]{knd:KeyKind prog w K}{A:AK}{E:AA->AD->Prop}{s:AD}
end
section
variable {X:Cx}
end
section
variable {X:Cx}{tg:AG}
end
set_option maxHeartbeats 3200000
section
variable {prog:AJ}{w:AI}{A:AK}{E:AA->AD->Prop}{s:AD}
end
end PU
set_option maxHeartbeats 1000000
namespace PU
open PySem PySem.Spec PyProof.Rows L2
section
variable {X:Cx}
def a8y:List PV->Option (List Int)
 |[]=>ξ []
 | .int i::r=>(a8y r).map (i::·)
 |_=>ζ
def a2s(is:List Int):Int:=is.getD (argBest (λi j=>decide (is.getD i 0>is.getD j 0)) (is.length - 1)) 0
def c0v(x:d7):Option d7:=match x with
 | .ow (.lst ps)=>(a8y ps).bind λis=>if 0<is.length then ξ (.v (.int (a2s is))) else ζ
 |_=>ζ
theorem a6i{K:AE}{F:Hp}:∀{ps:List PV} {is:List Int} {xs:List V},a8y ps=ξ is->n8 K F ps xs->xs=is.map V.int
 |[],_,_,h,r=>by cases h;cases r;rfl
 |p::ps,is,xs,h,⟨v,vs,e,rv,rt⟩=>by
  subst e;cases p with
  |int z=>
   cases hs:a8y ps with
   |none=>simp [a8y,hs] at h
   |some is'=>
    have h:is=z::is':=by simpa [a8y,hs] using h.symm
    subst h;have e1:=a6i hs rt;cases rv;rw [e1];rfl
  |_=>simp [a8y] at h
theorem a6v:∀{is:List Int} {its:List AA},u9 (is.map V.int) its->∃xs:List (Int×Tok),xs.map (·.1)=is/\its=xs.map λp=>Value.int p.1 p.2
 |[],_,.nil=>⟨[],rfl,rfl⟩
 |i::is,_,.cons r t=>by
  obtain⟨xs,h1,h2⟩:=a6v t;obtain⟨u,rfl⟩:=r;exact⟨(i,u)::xs,by rw [AN,h1],by rw [AN,h2]⟩
theorem c2k(hc:X.calm=true):T5 X (.builtin "max") (rC1 X.K c0v):=by
 ext f
 obtain⟨u,rfl,ru⟩:=a2I rv;unfold c0v at h2;split at h2
 ·rename_i ps;obtain⟨is,e1,h2⟩:=bind_some h2;split at h2
  ·rename_i c;cases h2;obtain⟨a,ys,rfl,fa,ha,rl⟩:=h1;cases ru;have ey:=a6i e1 rl;subst ey;obtain⟨_,its,n,vv,e⟩:=(show N4 X.prog X.w H s.heap a (.lst (is.map V.int)) from I.hok a _ ha);obtain⟨zs,hz1,hz2⟩:=a6v vv;have hit:its.toArray=intItems zs.toArray:=by rw [hz2];simp [intItems]
   have hat:∀i,numAt zs.toArray i=is.getD i 0:=λi=>by
    unfold numAt;rw [<-hz1,List.getD_eq_getElem?_getD,Ao];simp
   have hlen:zs.length=is.length:=by rw [<-hz1,AW]
   refine max_intList (l:=a) (xs:=zs.toArray) (I.ok.hd hc) ⟨_,e,rfl,n,by rw [hit]⟩ (by simp;lia) λv h' tk hv hk=> ?_
   obtain⟨t,rfl⟩:=intItems_at hv;have hb:numAt zs.toArray (argBest (λi j=>decide (numAt zs.toArray i>numAt zs.toArray j)) (zs.toArray.size - 1))=a2s is:=by
    unfold a2s;rw [hat,show zs.toArray.size=is.length by simp [hlen]]
    congr 2
    funext i j
    rw [hat,hat]
   rw [hb];exact⟨.int (a2s is),H,I.kept (t':=tk) hk,⟨t,rfl⟩,k _ F H (B2.here s0 rfl)⟩
  ·cases h2
 ·cases h2
end
def a3a:MS:=λ_=>ζ
theorem a0p{X:Cx}{st:Stmt}:ES X st a3a:=W5 c1v λD σ H h0=>R6 h0 λF0 H0 F ρ fl so e fin=>by cases e
section
variable {X:Cx}
theorem A8{st:List Stmt}:ESs X st (λ_=>ζ):=λpins s σ H D I h=>by
 obtain⟨F0,H0,F,ρ,fl,so,e,fin⟩:=h;cases e
end
theorem el5{C:List AA->Prop}(h:∀a b c d e,C [a,b,c,d,e])(us:List AA)(e:us.length=5):C us:=by
 obtain⟨a,t,rfl,z⟩:=elS e;exact el4 (C:=λt=>C (a::t)) (h a) t z
end PU
set_option maxHeartbeats 2000000
namespace PU
open PySem PySem.Spec PyProof.Rows L2 PySem.W
section
variable {prog:AJ}{w:AI}{A:AK}{E:AA->AD->Prop}{s:AD}
end
section
variable {X:Cx}
def a9j(i:Nat)(mk md:M):M:=λρ=>((mk ρ).bind b3y).bind λx=>((md ρ).bind d7.toVal).bind λd=>(tvw i ρ).bind λkvs=>ξ (.v ((O4 kvs [.inr x]).getD d))
theorem b8t(i:Nat){x:Str}{p apos cpos:Pos}{ek f:AG}{mk:M}{md:M}(hu:X.A.units+64<cLine)(hx:PE X (.Name x p) (a3G i))(hi:EE X ek mk)(hf:EE X f md)
 (m:M2 X (.Name x p) "get" apos ek f cpos:=by exact⟨rfl,rfl,rfl,rfl⟩):EE X (.Call (.Attribute (.Name x p) "get" apos) [ek,f] [] cpos) (a9j i mk md):=
 C6 (c1k (by lia) hx hi hf m) λσ H Q h0=>B7 h0 λF ρ r en e k=>by
  obtain⟨kk,e4,e⟩:=bind_some e;obtain⟨rk,e4,e5⟩:=bind_some e4;obtain⟨d,e6,e⟩:=bind_some e;obtain⟨rd,e6,e7⟩:=bind_some e6;obtain⟨kvs,e3,e⟩:=bind_some e;cases e;obtain⟨a,xs,hw1,ha',rl⟩:=b65 en e3;have hH:=en.fh _ _ ha';refine⟨.ref a,hw1,a,rfl,.inl ⟨xs,.inl hH⟩,F,ρ,rk,en,e4,λy F3 H3 o3=> ?_⟩;cases a4r e5 o3.rep;refine⟨_,ρ,rd,en.ext o3.x,e6,λz F4 H4 o4=> ?_⟩;obtain⟨F5,o5⟩:=o4.toVal e7;have x5:=o3.x.trans o5.x;refine⟨_,a3H.k (k:= .inr kk) (o5.x.h _ _ (o3.x.h _ _ hH)),k _ _ _ (B2.val x5 ?_)⟩;cases hv:O4 kvs [.inr kk] with
  |none=>
   have:=(rl.val (k:=[.inr kk])).2 hv;rw [a8h] at this;rw [this];exact o5.rep
  |some q=>
   obtain⟨y,hy,ry⟩:=(rl.val (k:=[.inr kk])).1 q hv;rw [a8h] at hy;rw [hy];exact L3.mono x5.f _ ry
end
section
variable {P:AJ}{w:AI}{K:AE}{mg:Str->Option AA}{base:Heap}
end
theorem c6x{l:PySem.W.OpenLaw}{q:AJ}{loose:List Str}{XP:(Str->Option AA)->Heap->Prop}{YP:AI->Heap->Prop}{d:DefRec}{K:Params->AE}{x:Str}{k:Nat}(hk:k<=200)(hn:l.most=ξ 63)(hdf:d.params.defaults=[])
 (hY:∀(w:AI) (h:Heap),YP w h->(K w.params).In h)
 (F:∀(w:AI) (mg:Str->Option AA) (fa:AB) (h:Heap),(K w.params).In h->h.Ns mainGlobals mg->mg d.name=ξ (.ref fa)->
  ∃fd:FuncData,(∀(s:AD) (u:AA),BindsTo s fd ⟨[u],[]⟩ [(x,u)])/\∀base:Heap,(K w.params).In base->base.Ns mainGlobals mg->U7 l.prog w (K w.params) mg base CX0 k fa fd [x] (b5K (K w.params))):
 PySem.W.WalkO q loose XP YP l.row.toRowW d [] (λf vs=>PySem.call f vs):=
 L2.c3P (n:=63) (k:=200) (x:=x) (CX:=λ_=>CX0) (sp:=λw=>b5K (K w.params)) hn (by decide) hdf ⟨rfl,by decide,by decide⟩ hY (λw mg fa h a b c=>let ⟨fd,h1,h2⟩:=F w mg fa h a b c;⟨fd,h1,λbase x y=>(h2 base x y).mono hk⟩) (λ_ _ a ns hl _ hS=>⟨a,ns,rfl,hS,hl,λ_=>rfl⟩) λ_ _ _ _ _ z=>z
theorem c5Y{K:AE}{x:Str}{C:AB}(e:PySem.W.nsIn K mainGlobals x=ξ (ξ (.ref C)))(q:b6I K C x=true)(o1:PySem.W.plainGet K C Str.empty=true)(o2:PySem.W.hasDictIn K C=true)(o3:PySem.W.plainOver K C=true)
 (o4:PySem.W.findIn K (.ref C) "__setattr__"=ξ (ξ (.builtin "object.__setattr__"))):KC K x C:=by
 refine⟨⟨e, ?_⟩,o1,o2,o3,o4⟩
 unfold b6I at q
 split at q
 ·rename_i oc od cd sl hk
  exact⟨oc,od,cd,sl,hk,beq_iff_eq.mp q⟩
 ·cases q
open PySem PySem.Spec PyProof.Rows L2
end PU
set_option maxHeartbeats 1000000
namespace ZL
open PySem PySem.Spec PyProof.Rows L2 PU ZT
section
variable {X:Cx}
end
end ZL
namespace PU
open PySem PySem.Spec PyProof.Rows L2
section
variable {X:Cx}
end
def a2A(x:d7):Option d7:=match x with
 | .v (.tuple ps)=>(a8y ps).bind λis=>if 0<is.length then ξ (.v (.int (a2s is))) else ζ
 |x=>c0v x
theorem c2T{prog:AJ}{w:AI}{A:AK}{E:AA->AD->Prop}{s:AD}{t:AB}{xs:Array (Int×Tok)}{Q:AA->AD->Prop}(hh:A.handled=ζ)(ht:s.heap.IsTuple t (intItems xs))(hn:0<xs.size)
 (h:∀v h' tk,(intItems xs)[argBest (λi j=>decide (numAt xs i>numAt xs j)) (xs.size - 1)]?=ξ v->(∀b o,s.heap.get? b=ξ o->h'.get? b=ξ o)->Q v {s with heap:=h',toks:=tk}):
 AH (model prog w) A (call (.builtin "max") [.ref t]) Q E s:=by
 obtain⟨o,ho,_⟩:=id ht
 have ne:t≠s.heap.objs.size:=Af (AU ho)
 have hz:(intItems xs).size=xs.size:=by simp [intItems]
 refine call_max_walk (wpAny_pyIter_tuple ht ⟨s.heap.objs.size,_,_,_,_,_,_,rfl,Walks.tuple (A:=A.in1) hh s.heap.objs.size t ne (intItems xs),⟨⟨_,Ae _ rfl,rfl,rfl⟩,ht.at λo e=>AV _ e⟩,λb hb=> ?_,by rw [hz];exact hn,CmpOf.ints_gt (numAt xs) (λ_ _=>intItems_at),λv h' tk hP hk=> ?_⟩)
 ·rcases Ab.mp hb with rfl|hb
  ·exact AU (Ae _ rfl)
  ·rw [List.mem_singleton.mp hb];exact AU (AV _ ho)
 ·exact h v h' tk (by rw [hz] at hP;exact hP) λb o e=>hk b o (λhb=>absurd (AU e) (List.mem_singleton.mp hb▸Nat.lt_irrefl _)) (AV _ e)
section
variable {X:Cx}
theorem a9a(hc:X.calm=true):T5 X (.builtin "max") (rC1 X.K a2A):=by
 ext f
 unfold a2A at h2;split at h2
 ·rename_i ps;obtain⟨u,rfl,ru⟩:=a2I rv;obtain⟨is,e1,h2⟩:=bind_some h2;split at h2
  ·rename_i c;cases h2;obtain⟨a,ys,rfl,hq,rl⟩:=(show L3 X.K F (.tuple ps) x from h1);cases ru;have ey:=a6i e1 rl;subst ey;obtain⟨its,rvs,pt,_⟩:=I.tuple (w4 s0 hq.sq);obtain⟨zs,hz1,hz2⟩:=a6v rvs;have hit:its.toArray=intItems zs.toArray:=by rw [hz2];simp [intItems]
   have hat:∀i,numAt zs.toArray i=is.getD i 0:=λi=>by
    unfold numAt;rw [<-hz1,List.getD_eq_getElem?_getD,Ao];simp
   have hlen:zs.length=is.length:=by rw [<-hz1,AW]
   rw [hit] at pt;refine c2T (t:=a) (xs:=zs.toArray) (I.ok.hd hc) pt (by simp;lia) λv h' tk hv hk=> ?_
   obtain⟨t,rfl⟩:=intItems_at hv;have hb:numAt zs.toArray (argBest (λi j=>decide (numAt zs.toArray i>numAt zs.toArray j)) (zs.toArray.size - 1))=a2s is:=by
    unfold a2s;rw [hat,show zs.toArray.size=is.length by simp [hlen]]
    congr 2
    funext i j
    rw [hat,hat]
   rw [hb];exact⟨.int (a2s is),H,I.kept (t':=tk) hk,⟨t,rfl⟩,k _ F H (B2.here s0 rfl)⟩
  ·cases h2
 ·exact c2k hc pins s σ H _ us Q I rv ⟨F,x,_,rz,rfl,s0,h1,h2,k⟩
end
def ckC(K:AE)(C:AB)(x:Str)(f:AB)(fs:List Str):Bool:=b6I K C x &&(PySem.W.plainGet K C Str.empty &&(PySem.W.hasDictIn K C &&(PySem.W.plainOver K C &&(PySem.W.findIn K (.ref C) "__setattr__"==ξ (ξ (.builtin "object.__setattr__"))
 &&(PySem.W.makesIn K C &&(PySem.W.isFn K (.ref f)&&(PySem.W.keepIn K (.ref C)&&(PySem.W.findIn K (.ref C) "__class__"==ξ (ξ (.builtin "object.__class__"))&&(PySem.W.mroIn K C (.type "object")==ξ true
 && fs.all λg=>PySem.W.findIn K (.ref C) g==ξ ζ)))))))))
section
variable {K:AE}{C f:AB}{x:Str}{fs:List Str}
structure CkC(K:AE)(C:AB)(x:Str)(f:AB)(fs:List Str):Prop where
 kc:KC K x C
 mo:Mk K C f
 h8:PySem.W.findIn K (.ref C) "__class__"=ξ (ξ (.builtin "object.__class__"))
 h9:PySem.W.mroIn K C (.type "object")=ξ true
 na:∀g∈fs,a0A K C g
theorem a8t(e:PySem.W.nsIn K mainGlobals x=ξ (ξ (.ref C)))(i:PySem.W.findIn K (.ref C) "__init__"=ξ (ξ (.ref f)))(h:ckC K C x f fs=true):CkC K C x f fs:=by
 unfold ckC at h;simp only [Bool.and_eq_true,beq_iff_eq,List.all_eq_true] at h;obtain⟨h0,h1,h2,h3,h4,h5,h6,h7,h8,h9,h10⟩:=h;exact⟨c5Y e h0 h1 h2 h3 h4,⟨h5,i,h6,h7⟩,h8,h9,h10⟩
end
section
variable {X:Cx}
theorem k9{a b:AG}{ma mb:M}{pos:Pos}{op:CmpOp}{g:d7->d7->Option d7}(ho:OpM X (compareOp op) g)(ha:EE X a ma)(hb:EE X b mb)(hm:behindInMarks op b=false:=by first|rfl|exact nomark _):ET X (.Compare a [op] [b] pos) (u6 (m2 g ma mb)):=c4x ho ha hb hm
theorem b7j{a b:AG}{ma mb:M}{pos:Pos}{op:CmpOp}{g:d7->d7->Option d7}(ho:OpM X (compareOp op) g)(ha:EE X a ma)(hb:EE X b mb)(hm:behindInMarks op b=false:=by first|rfl|exact nomark _):EE X (.Compare a [op] [b] pos) (m2 g ma mb):=c4t ho ha hb hm
theorem d6(i:Nat){x:Str}{pos:Pos}(hN:X.N[i]?=ξ x:=by rfl)(hv:Vis X.env.scope x:=by first|exact Or.inl rfl|exact Or.inr (Or.inl rfl)|exact Or.inr (Or.inr rfl))(hd:(x==("__debug__":Str))=false:=by decide)(hcd:(x==("__classdict__":Str))=false:=by decide):EE X (.Name x pos) (b0 i):=c4w i (pv i hN hv hd hcd)
end
structure FnV(K:AE)(mg:Str->Option AA)(x:Str)(f:AB):Prop where
 mg:mg x=ξ (.ref f)
 at_:b67 K x (.ref f)
 one:∀a,b67 K x (.ref a)->a=f
def a6l(K:AE)(x:Str)(f:AB):Bool:=K.all λp=>match p.2.data with
 | .func fd=> !(fd.name==x)||p.1==f
 |_=>true
theorem a0x{K:AE}{a:AB}{o:Obj}:K.lookup a=ξ o->(a,o)∈K:=by
 induction K with
 |nil=>intro h;cases h
 |cons p r ih=>
  intro h;obtain⟨b,u⟩:=p;rw [List.lookup_cons] at h;split at h
  ·rename_i z;cases h;rw [beq_iff_eq.mp z];exact AZ
  ·exact Aa _ (ih h)
theorem a7W{K:AE}{mg:Str->Option AA}{x:Str}{f:AB}{oc:AA}{od:Option AB}{fd:FuncData}{sl:Array (Option AA)}(hm:mg x=ξ (.ref f))(l:K.lookup f=ξ ⟨oc,od,.func fd,sl⟩)(hn:fd.name=x)(q:a6l K x f=true):FnV K mg x f:=by
 refine⟨hm,⟨f,oc,od,fd,sl,rfl,l,hn⟩,λa h=> ?_⟩;obtain⟨b,oc',od',fd',sl',e,l',hn'⟩:=h;cases e;have:=List.all_eq_true.mp q _ (a0x l');simp only [hn',beq_self_eq_true,Bool.not_true,Bool.false_or] at this;exact beq_iff_eq.mp this
abbrev a0L(x:Str):PV:= .dict [(.str x,.none)]
section
variable {X:Cx}
theorem b2d{x:Str}{f:AB}{pos:Pos}(v:FnV X.K X.mg x f)(hg:Gl X x:=by rfl)(hd:(x==("__debug__":Str))=false:=by decide):EE X (.Name x pos) (mC (a0L x)):=
 a2u (v:= .ref f) (b7M hg v.mg rfl hd) λH=>Or.inr (Or.inr (Or.inl ⟨x,_,rfl,.inl ⟨rfl,v.at_⟩⟩))
def b68(X:Cx)(n k':Nat)(tab:List (Str×(List PV->Option d7))):Prop:=∀x g,tab.lookup x=ξ g->∃f fd ps k,U7 X.prog X.w X.K X.mg X.base CX0 k f fd ps (spP X.K ps.length g)/\k<=k'/\PySem.W.keepIn X.K (.ref f)=true/\a05 X.K fd ps []/\ps.length=n/\∀a,b67 X.K x (.ref a)->a=f
theorem a7V{n k':Nat}:b68 X n k' []:=λ_ _ h=>nomatch h
theorem Y3{n k k':Nat}{x:Str}{f:AB}{ps:List Str}{g:List PV->Option d7}{t:List (Str×(List PV->Option d7))}(d:n5 X.prog X.w X.K X.mg X.base x ps k g)(v:FnV X.K X.mg x f)(hk:k<=k')(hn:ps.length=n)(h:b68 X n k' t):b68 X n k' ((x,g)::t):=λy g' q=>by
 rw [List.lookup_cons] at q;split at q
 ·rename_i z;cases q;obtain⟨f',fd,G,h1,h2,h3⟩:=d;have e:=v.mg.symm.trans h1;cases e;refine⟨f,fd,ps,k,G,hk,h2,h3,hn, ?_⟩;rw [beq_iff_eq.mp z];exact v.one
 ·exact h y g' q
def a4z(tab:List (Str×(List PV->Option d7)))(i:Nat)(m:MA):M:=λρ=>match ρ[i]? with
 |some (ξ (.v (.dict [(.str x,.none)])))=>(tab.lookup x).bind λg=>(m ρ).bind g
 |_=>ζ
theorem a9Q(i:Nat){n k':Nat}{y:Str}{p pos:Pos}{tab:List (Str×(List PV->Option d7))}{e:AG}{es:List AG}{m:MA}(T:b68 X n k' tab)(hr:O1 k' X.A)(hv:PE X (.Name y p) (a3G i))(hn:∀ρ qs,m ρ=ξ qs->qs.length=n)(ha:EA X (e::es) m)
 (he:AL (e::es) X.env=(false,eval e X.env)::AL es X.env:=by rfl) (hpl:(backTo pos (AL es X.env)).any (·.1)=false:=by rfl):
 EE X (.Call (.Name y p) (e::es) [] pos) (a4z tab i m):=by
 intro pins s σ H Q I ⟨F,ρ,r,env,hm,k⟩
 unfold a4z at hm
 split at hm
 ·rename_i x hρ
  cases hl:tab.lookup x with
  |none=>rw [hl] at hm;cases hm
  |some g=>
   rw [hl,AO] at hm
   obtain⟨f,fd,ps,kk,G,hk,h2,h3,h4,one⟩:=T x g hl
   obtain⟨v,hσ,hrep⟩:=env.at_ i _ hρ
   have hvf:v= .ref f:=by
    rcases hrep with⟨_,_,_,_,kk1,w1,t1,_,zz,_⟩|⟨_,_,_,_,kk1,w1,t1,_,zz,_⟩|⟨z,t,e,hz⟩|⟨_,_,_,ho,hf⟩
    ·cases zz
    ·cases zz
    ·cases e;rcases hz with⟨_,hz⟩|⟨e,_⟩
     ·obtain⟨a,_,_,_,_,ea,_⟩:=id hz;subst ea;rw [one a hz]
     ·cases e
    ·rcases(c2Z ho hf).2.1 with e|e<;>cases e
   subst hvf
   refine wpAny_Call_Name_kw (M8 (hv pins s σ H (λv H1=>v= .ref f/\H1=H) I ⟨.ref f,hσ,rfl,rfl⟩) λu s1 h0=>a9d h0 λv H1 I1 rv hv1 hH=> ?_)
   subst hv1 hH
   cases(show u=Value.ref f from rv)
   obtain⟨qs,e1,e2⟩:=bind_some hm
   refine PySem.W.callWith_K (h₀:=X.base) I1.ok.mod.kin h2 (M8 (ha pos pins s1 σ H1 (λvs H2=>∃F2,Ext F H1 F2 H2/\n8 X.K F2 qs vs) I1 ⟨F,ρ,qs,env,e1,λvs F2 H2 x rl=>⟨F2,x,rl⟩⟩) λus s2 ⟨vs,H2,I2,rr,F2,x2,rl⟩=>⟨I2.kIn, ?_⟩) he hpl
   refine b35 (dvs:=[]) (ds:=[]) (sp:=spP X.K ps.length g) (E:=E0) G (hr.mono hk) h3 .nil b2v I2 rr ?_
   show spP X.K ps.length g (vs++[]) H2 Q E0
   rw [Ag]
   exact⟨F2,qs,r,x2.fh,rl,(hn _ _ e1).trans h4.symm,e2,λv F3 H3 o=>k v F3 H3 (B2.trans x2 o)⟩
 ·cases hm
end
def a17:List PV->Option (List Int)
 |[]=>ξ []
 | .int i::ps=>(a17 ps).map (i::·)
 |_::_=>ζ
theorem b4Y{K:AE}{H:Hp}:∀{ps:List PV} {xs:List V} {its:List AA} {ns:List Int},n8 K H ps xs->u9 xs its->a17 ps=ξ ns->IntsAre its ns
 |[],_,_,_,h,r,e=>by
  cases h;cases e;cases r;exact .nil
 |p::ps,_,_,ns,⟨v,t,e0,a,rl⟩,r,e=>by
  subst e0;cases p with
  |int i=>
   cases h:a17 ps with
   |none=>rw [a17,h] at e;cases e
   |some ms=>
    rw [a17,h] at e;cases e;cases r with
    |cons r1 r2=>
     cases a;obtain⟨t,rfl⟩:=r1;exact .cons _ _ (b4Y rl r2 h)
  |_=>cases e
def c0z(x:d7):Option d7:=match x.rd with
 | .list ps=>(a17 ps).map λns=> .v (.int ns.sum)
 |_=>ζ
section
variable {X:Cx}
theorem b92(hc:X.calm=true):T5 X (.builtin "sum") (rC1 X.K c0z):=by
 ext f
 obtain⟨u,rfl,ru⟩:=a2I rv;unfold c0z at h2;split at h2
 ·rename_i ps ep;cases e:a17 ps with
  |none=>rw [e] at h2;cases h2
  |some ns=>
   rw [e] at h2;cases h2;have rr:=h1.rd s0;rw [ep] at rr;obtain⟨a,ys,rfl,hq,rl⟩:=rr;cases ru;obtain⟨its,r,pl,_⟩:=I.list hq;have hi:=b4Y rl r e;obtain⟨zs,hx⟩:=hi.allInts.items;have hl:s.heap.IsList a (intItems zs):=hx▸pl.isList;refine sum_intListG (I.ok.hd hc) hl λh' tk t' hk=> ?_;have e1:ns=zs.toList.map (·.1):=by
    have z:=nums_intItems zs;rw [<-hx] at z;rw [<-z];exact hi.numsOf.symm
   have e2:preSum (numAt zs) zs.size=ns.sum:=by
    have z:=preSum_eq zs zs.size;have y:(zs.toList.map (·.1)).take zs.size=zs.toList.map (·.1):=List.take_of_length_le (by simp)
    rw [z,y,<-e1]
   rw [e2];exact⟨.int _,H,I.kept (t':=tk) hk,⟨_,rfl⟩,k _ F H (B2.here s0 rfl)⟩
 ·cases h2
end
section
variable {X:Cx}
variable {Φ:L2.St->Hp->Prop}{I:List Nat}
end
theorem c49{K:AE}{F H:Hp}{v:V}:∀{c:a06},a1C K F H v c->∃a o,v= .ref a/\F a=ζ/\H a=ξ o/\NT o
 | .lst _,⟨a,_,e,n,q,_⟩=>⟨a,_,e,n,q,λ_ h=>nomatch h⟩
 | .dct _,⟨a,_,e,n,q,_⟩=>⟨a,_,e,n,q,λ_ h=>nomatch h⟩
 | .txt _,⟨a,_,e,n,q,_⟩=>⟨a,_,e,n,q,λ_ h=>nomatch h⟩
theorem c3o{K:AE}{F H F' H':Hp}{a:AB}:∀{c:a06},a1C K F H (.ref a) c->u4 F F'->F' a=ζ->(∀o,H a=ξ o->H' a=ξ o)->a1C K F' H' (.ref a) c
 | .lst _,⟨a',xs,e,n,q,r⟩,s,f,h=>by cases e;exact⟨_,xs,rfl,f,h _ q,n8.mono s _ r⟩
 | .dct _,⟨a',xs,e,n,q,r⟩,s,f,h=>by cases e;exact⟨_,xs,rfl,f,h _ q,E9.mono s _ r⟩
 | .txt _,⟨a',xs,e,n,q,r⟩,s,f,h=>by cases e;exact⟨_,xs,rfl,f,h _ q,E9.mono s _ r⟩
theorem b60{ρ:c5}{i j:Nat}{r:Option d7}{q:d7}(h:(ρ.set i r)[j]?=ξ (ξ q)):(j=i/\r=ξ q)\/(j≠i/\ρ[j]?=ξ (ξ q)):=by
 rw [List.getElem?_set] at h;split at h
 ·rename_i z;split at h
  ·exact .inl ⟨z.symm,Option.some.inj h⟩
  ·cases h
 ·rename_i z;exact .inr ⟨λy=>z y.symm,h⟩
theorem a9Z{σ:L2.St}{i j:Nat}{v:Option V}(h:j≠i):(σ.set i v)[j]?=σ[j]?:=List.getElem?_set_ne (λz=>h z.symm)
section
variable {X:Cx}
end
section
open PySem.AutoSeq1 (wpAny_loadPart')
open PySem.MeetsSeq3 (plain_eq_loop entry_eq_loop)
variable {A:AK}{s:AD}
end
open PySem PySem.Spec PyProof.Rows L2 PySem.W
section
variable {X:Cx}{pins:List (AB×Obj)}{σ:L2.St}{H:Hp}{s:AD}
end
section
variable {X:Cx}
end
theorem c4k{α:Type}(x:α)(xs:List α):L2.atI (x::xs) 0=ξ x:=by
 unfold L2.atI L2.ixN;rw [if_pos (by lia)]
 simp
section
variable {K:AE}{H J J':Hp}{ah a0 a3 b1 b2 b3 c:AB}{z0 z3 y1 y2 y3:List V}{n:Nat}
end
section
variable {X:Cx}
end
section
variable {X:Cx}{tg:AG}
end
theorem b1Z(l:AB)(items:Array AA)(n:Nat)(dd:Option AB)(sl:Array (Option AA))(u:Tok):
 Meets (Builtin.«tuple.__mul__» ⟨[.ref l,.int 1 u],[]⟩) (λ_ R s=>s.heap.get? l=ξ {cls:= .type "tuple",dict:=dd,data:= .seq items n,slots:=sl}/\R (.ok (.ret (.ref l))) s):=
 .of_wp λprog w A R s h=>by
  obtain⟨hp,g,d,tk,os⟩:=s;obtain⟨hl,h⟩:=h
  wp_walk
  exact⟨_,rfl,h⟩
def a8v:d7->d7->Option d7
 | .v (.tuple ps),.v (.int 1)=>ξ (.v (.tuple ps))
 |x,y=>r6 x y
section
variable {X:Cx}
theorem b5u:OpM X (binaryOp .Mult) a8v:=by
 ext o
 obtain⟨F1,ra,rb,rz,s0,h1,h2,h3,k⟩:=h;unfold a8v at h3;split at h3
 ·rename_i ps;cases h3;cases h2;have h1':L3 X.K F1 (.tuple ps) x:=h1;obtain⟨a,xs,rfl,hq,rl⟩:=h1;cases rx;obtain⟨t,rfl⟩:=ry;obtain⟨its,r,ht,_⟩:=I.tuple (w4 s0 hq.sq);obtain⟨⟨cls,dd,data,sl⟩,ho,hc',m,hd⟩:=id ht;simp only at hc' hd;subst hc' hd;exact wpAny_binaryOp_repeat_ref (T:="tuple") (U:="int") (by decide) ht.typeIs (λs'=>typeIs_int s' 1 t) a2D F.fills_int_mul F.slot_int_rmul a7v F.slot_int_index.lookup
   (call_meets F.slot_int_rmul (typeIs_int s 1 t) F.entry_int_rmul (F.args_int_rmul_2 _ _) (a4q 1 t a its.toArray m dd sl)
    ⟨ho,rfl,ht.typeIs,call_meets PySem.F.slot_tuple_mul ht.typeIs PySem.F.entry_tuple_mul (PySem.F.args_tuple_mul_2 _ _) (b1Z a its.toArray m dd sl t) ⟨ho,.ref a,H,I,rfl,k _ F1 H (B2.here s0 h1')⟩⟩)
 ·exact u0 pins s σ H x y v u Q I rx ry ⟨F1,_,_,rz,s0,h1,h2,h3,k⟩
end
section
variable {prog:AJ}{w:AI}{A:AK}{E:AA->AD->Prop}{h:Heap}{g:Array GenState}{d:Drawn}{t:Nat}{os:OsState}
variable {nm q:Str}{C N:AB}{bs bm bmB:List AA}{hdct:Bool}{sn:List Str}{sub:List AA}{ab:Bool}{col:Option Bool}{dd:Option AB}{k0 k1 k2 k3 k5:Option AA}{B newId initId:String}
end
section
variable {prog:AJ}{w:AI}{A:AK}{E:AA->AD->Prop}{s:AD}{env:Env}
variable {nm q:Str}{C N:AB}{bs bm bmB:List AA}{hdct:Bool}{sn:List Str}{sub:List AA}{ab:Bool}{col:Option Bool}{dd:Option AB}{k0 k1 k2 k3 k5:Option AA}{B newId initId:String}
end
open PySem PySem.Spec PyProof.Rows L2 PySem.W Builtin Builtin.ObjectAttr
section
variable {prog:AJ}{w:AI}{A:AK}{E:AA->AD->Prop}{s:AD}{K:Frag}{x C:AB}
end
section
variable {X:Cx}{pins:List (AB×Obj)}{σ:L2.St}{H:Hp}{s:AD}{a C d:AB}
end
section
variable {X:Cx}
end
section
variable {X:Cx}{pins:List (AB×Obj)}{σ:L2.St}{H:Hp}{s:AD}
end
section
variable {X:Cx}{x:Str}{C:AB}{np cpos pos:Pos}{e₀:AG}{rest:List AG}{t:TA}{W:Option AB->Hp->Prop}
end
section
variable {X:Cx}
end
section
variable {P:AJ}{w:AI}{K:Frag}{mg:Str->Option AA}{base:Heap}
end
section
variable {K:AE}{mg:Str->Option AA}{E:L2.St->XK}{F0 H0 F1:Hp}{body:MX}{tg:PV->c5->Option c5}{g:TG}{ps:List PV}{fl:FX}{D:a3J}{k:Nat}{p:PV}{x:V}{σ σ0:L2.St}{H:Hp}
end
section
variable {X:Cx}{E:L2.St->XK}
end
section
variable {X:Cx}
end
def tvr(r:d7):Option (List (List u8×PV)):=match r with
 | .v (.dict es)=>(unE es).bind λkvs=>if b5s kvs=true then ξ kvs else ζ
 | .ow (.txt kvs)=>ξ kvs
 | .bo (.txt kvs)=>ξ kvs
 |_=>ζ
def k1(k:List u8):PV:=match k with
 |[x]=>kP x
 |_=> .none
theorem c13{kvs:List (List u8×PV)}(ho:b5s kvs=true):tvr (.v (tv kvs))=ξ kvs:=by
 show(unE _).bind _=_;rw [b66,AO,if_pos ho]
section
variable {K:AE}{F H:Hp}
theorem c12{v:V}{r:d7}{kvs:List (List u8×PV)}(s:u4 F H)(hr:X4 K F H v r)(h:tvr r=ξ kvs):∃a xs,v= .ref a/\H a=ξ (.dK xs)/\E9 K F kvs (xs.map s1):=by
 unfold tvr at h;split at h
 ·rename_i es;obtain⟨kvs',e1,h⟩:=bind_some h;split at h
  ·rename_i ho;cases h;rcases hr with⟨a,ys,rfl,ha,hr⟩|⟨a,xs,rfl,ha,hr⟩|⟨x,t,e,_⟩|⟨x,m,fs,_,hr⟩
   ·obtain⟨kvs',h1,h2⟩:=a7L hr;rw [e1] at h1;cases h1;exact⟨a,ys,rfl,s _ _ ha,h2⟩
   ·exfalso
    obtain⟨kvs',h1,h2⟩:=a7L hr;rw [e1] at h1;cases h1;cases kvs with
    |nil=>cases h2
    |cons f fs=>
     obtain⟨k,p⟩:=f;obtain⟨v,t,e,_⟩:=h2;cases e;simp [b5s] at ho
   ·subst e;simp [unE] at e1
   ·cases es with
    |nil=>cases hr
    |cons f es=>obtain⟨k,p⟩:=f;obtain⟨_,_,_,_,z,_⟩:=hr;subst z;simp [unE] at e1
  ·cases h
 ·cases h;obtain⟨a,xs,rfl,_,ha,rl⟩:=hr;exact⟨a,xs,rfl,ha,rl⟩
 ·cases h;obtain⟨a,xs,rfl,_,ha,rl⟩:=hr;exact⟨a,xs,rfl,ha,rl⟩
 ·cases h
theorem b5A:∀{kvs:List (List u8×PV)} {xs:List (u8×V)},E9 K F kvs (xs.map s1)->n8 K F (kvs.map λkv=>k1 kv.1) (xs.map λx=>kV x.1)
 |[],[],_=>rfl
 |[],_::_,r=>by cases r
 |_::_,[],⟨_,_,e,_⟩=>by cases e
 |(k,q)::es,y::ys,⟨v,t,e,rv,rt⟩=>by
  injection e with e1 e2
  subst e2;have ek:k=[y.1]:=(congrArg Prod.fst e1).symm;subst ek;refine⟨_,_,rfl, ?_,b5A rt⟩;show L3 K F (kP y.1) (kV y.1);cases y.1<;>rfl
end
theorem b8R{k:u8}{v:AA}(h:a7a k v=true):L2.w6 (kV k) v:=by
 unfold a7a at h;cases k with
 |inl i=>
  cases v<;>first|cases h|skip
  rename_i j t;have:j=i:=beq_iff_eq.mp h;subst this;exact⟨t,rfl⟩
 |inr x=>
  cases v<;>first|cases h|skip
  rename_i y t;have:y=x:=beq_iff_eq.mp h;subst this;exact⟨t,rfl⟩
def a20(r:d7):Option d7:=(tvr r).bind λkvs=>if kvs.length<=AM then ξ (.own (kvs.map λkv=>k1 kv.1)) else ζ
def a7Y(r:d7):Option d7:=(tvr r).bind λkvs=>if kvs.length<=AM then ξ (.ow (.txt kvs)) else ζ
section
variable {X:Cx}
theorem b7z:∀{ys:List (u8×V)} {vs:List (u8×AA)} {us:List AA},KV ys vs->us.length=vs.length->(∀(j:Nat) (v:AA),us[j]?=ξ v->∃k x,vs[j]?=ξ (k,x)/\a7a k v=true)->u9 (ys.map λy=>kV y.1) us
 |_,_,[],.nil,_,_=> .nil
 |_,_,_::_,.nil,e,_=>nomatch e
 |_,_,[],.cons _ _,e,_=>nomatch e
 |_,_,u::us,.cons (a:=y) (b:=z) r t,e,h=>by
  refine .cons ?_ (b7z t (by simpa using e) λj v q=>h (j+1) v q)
  obtain⟨k,x,e1,e2⟩:=h 0 u rfl;have e1:ξ z=ξ (k,x):=e1;cases e1;show L2.w6 (kV y.1) u;rw [show y.1=k from r.1];exact b8R e2
theorem b4G(hc:X.calm=true):T5 X (.type "list") (rC1 X.K a20):=by
 ext f
 obtain⟨u,rfl,ru⟩:=a2I rv;unfold a20 at h2;obtain⟨kvs,e1,h2⟩:=bind_some h2;split at h2
 ·rename_i hl;cases h2;obtain⟨a,ys,rfl,ha,rl⟩:=c12 s0 h1 e1;cases ru;obtain⟨z,hd,vals,rel,dd⟩:=b95 I.hok ha;obtain⟨ep,hat⟩:=dd.dictAt;have hz:ys.length<=AM:=by have:=rl.length;rw [AW] at this;lia
  refine kdl_call (kdl_dict (d:=a) (kvs:=vals) (ep:=ep) (knd:=B1 X.prog X.w) hd) (I.ok.hd hc) hat (by rw [<-Paired.length rel];exact hz) λh' tk acc' c' kp hS hacc=> ?_
  have hw:u9 (ys.map λy=>kV y.1) acc'.toList:=b7z rel (by rw [Array.length_toList];exact hacc.1) λj v e=>hacc.2 j v (by rw [<-Array.getElem?_toList];exact e)
  exact⟨.ref s.heap.objs.size,_,I.laid (t':=tk) (o:= .lst (ys.map λy=>kV y.1)) kp (AS _) ⟨by rw [AW];exact hz,acc'.toList,c',hw,by rw [hS]⟩,rfl,k _ F _ (B2.lst s0 (I.hok.fresh (AS _)) (b5A rl))⟩
 ·cases h2
theorem b91:T5 X (.type "dict") (rC1 X.K a7Y):=by
 ext f
 obtain⟨u,rfl,ru⟩:=a2I rv;unfold a7Y at h2;obtain⟨kvs,e1,h2⟩:=bind_some h2;split at h2
 ·rename_i hl;cases h2;obtain⟨a,ys,rfl,ha,rl⟩:=c12 s0 h1 e1;cases ru;obtain⟨z,hd,vals,rel,dd⟩:=b95 I.hok ha;have hn:=I.hok.fresh (AS s.heap.objs.size);refine kt_call_dict hd dd (by rw [<-Paired.length rel];exact z) λh' dd' hs=> ?_
  refine⟨.ref s.heap.objs.size,_,I.laid (a:=s.heap.objs.size) (t':=s.toks) (o:= .dK ys) (λb o e=>(hs.2 b (Af (AU e))).trans (AV _ e)) (AS _) ⟨z, ?_,vals,rel,dd'⟩,rfl,k _ F _ ⟨Ext.layH s0 hn,⟨_,_,rfl,s0.free hn,r9,rl⟩,λ_ _ _ e=>by cases e;exact hn⟩⟩
  exact(b4J (P:=X.prog) (w:=X.w) (H:=H) s.heap I.big).2.1
 ·cases h2
def b47(neg:Bool)(i:Nat)(mk:M):M:=λρ=>((mk ρ).bind b3y).bind λx=>(tvw i ρ).bind λkvs=>ξ (.v (.bool (if neg then !(O4 kvs [.inr x]).isSome else(O4 kvs [.inr x]).isSome)))
theorem c1Z{i:Nat}{mk:M}{neg:Bool}{σ:L2.St}{H:Hp}{Q:VK}(h:tM X.K (b47 neg i mk) σ H Q):
 tM X.K mk σ H λy H1=>a3G i σ H1 λx H2=>∃a o,x= .ref a/\a3H H2 a y o/\Q (.bl (if neg then !o.isSome else o.isSome)) H2:=by
 obtain⟨F,ρ,r,en,e,k⟩:=h
 obtain⟨kk,e4,e⟩:=bind_some e
 obtain⟨rk,e4,e5⟩:=bind_some e4
 obtain⟨kvs,e3,e⟩:=bind_some e
 cases e
 refine⟨F,ρ,rk,en,e4,λy F3 H3 o3=> ?_⟩
 cases a4r e5 o3.rep
 obtain⟨a,xs,hw1,ha',rl⟩:=b65 en e3
 refine⟨.ref a,hw1,a,a2n xs (.inr kk),rfl,a3H.k (o3.x.h _ _ (en.fh _ _ ha')), ?_⟩
 have:=rl.isSome (k:=[.inr kk])
 rw [a8h] at this
 rw [this]
 exact k _ _ _ (B2.val o3.x rfl)
theorem b6k(i:Nat){x:Str}{p pos:Pos}{ek:AG}{mk:M}(hu:X.A.units+64<cLine)(hx:PE X (.Name x p) (a3G i))(hi:EE X ek mk)(hm:behindInMarks .NotIn (.Name x p)=false):ET X (.Compare ek [.NotIn] [.Name x p] pos) (u6 (b47 true i mk)):=
 a79 (b6Q (b2w (by lia) hi hx) hm) λσ H Q h=>c1W (λ_ _ _ h=>c1Z h) h
end
theorem SOk.move{K:AE}{F0 H0 F H:Hp}{σ:L2.St}{ρ:c5}{i j:Nat}{c:a06}{a:AB}(so:SOk K F0 H0 F H σ ρ)(hij:i≠j)(e:ρ[j]?=ξ (ξ (.ow c)))(ea:σ[j]?=ξ (ξ (.ref a))):
 SOk K F0 H0 F H (σ.set i (ξ (.ref a))) ((ρ.set j ζ).set i (ξ (.ow c))):=by
 have at_:∀{k:Nat} {r:d7},((ρ.set j ζ).set i (ξ (.ow c)))[k]?=ξ (ξ r)->(k=i/\r= .ow c)\/(k≠i/\k≠j/\ρ[k]?=ξ (ξ r)):=λ {k r} h=>by
  rcases b60 h with⟨h1,z⟩|⟨h1,z⟩
  ·cases z;exact .inl ⟨h1,rfl⟩
  ·rcases b60 z with⟨_,z⟩|⟨h2,z⟩
   ·cases z
   ·exact .inr ⟨h1,h2,z⟩
 have len:∀{k:Nat} {r:d7},((ρ.set j ζ).set i (ξ (.ow c)))[k]?=ξ (ξ r)->k<σ.length:=λ {k r} h=>by
  obtain⟨z,_⟩:=Aj.mp h;rw [List.length_set,List.length_set,<-so.e.len] at z;exact z
 have gi:∀{k:Nat},k=i->k<σ.length->(σ.set i (ξ (.ref a)))[k]?=ξ (ξ (.ref a)):=λ {k} h z=>by
  subst h;rw [BF z]
 refine⟨so.x,⟨so.e.fh,by simp only [List.length_set];exact so.e.len,λk r h=> ?_,λk d h=> ?_,λk l d d' b hne h1 h2 h3 h4=> ?_⟩,λk d b h1 h2=> ?_⟩
 ·rcases at_ h with⟨hk,hr⟩|⟨h1,h2,h3⟩
  ·subst hr
   obtain⟨v,g1,g2⟩:=so.e.at_ j _ e
   rw [ea] at g1
   cases g1
   exact⟨_,gi hk (len h),g2⟩
  ·obtain⟨v,g1,g2⟩:=so.e.at_ k r h3
   exact⟨v,by rw [a9Z h1];exact g1,g2⟩
 ·rcases at_ h with⟨_,hr⟩|⟨_,_,h3⟩
  ·cases hr
  ·exact so.e.nb k d h3
 ·rcases at_ h1 with⟨hk,_⟩|⟨k1,k2,k3⟩
  ·rcases at_ h2 with⟨hl,_⟩|⟨l1,l2,l3⟩
   ·exact hne (hk.trans hl.symm)
   ·rw [gi hk (len h1)] at h3
    cases h3
    rw [a9Z l1] at h4
    exact so.e.ap j l _ _ a (Ne.symm l2) e l3 ea h4
  ·rw [a9Z k1] at h3
   rcases at_ h2 with⟨hl,_⟩|⟨l1,l2,l3⟩
   ·rw [gi hl (len h2)] at h4
    cases h4
    exact so.e.ap j k _ _ a (Ne.symm k2) e k3 ea h3
   ·rw [a9Z l1] at h4
    exact so.e.ap k l _ _ b hne k3 l3 h3 h4
 ·rcases at_ h1 with⟨hk,_⟩|⟨k1,k2,k3⟩
  ·rw [gi hk (len h1)] at h2
   cases h2
   exact so.nw j c a e ea
  ·rw [a9Z k1] at h2
   exact so.nw k d b k3 h2
def b2s(i j:Nat):MS:=λρ=>match ρ[j]? with
 |some (ξ (.ow c))=>ξ (.nx ((ρ.set j ζ).set i (ξ (.ow c))))
 |_=>ζ
theorem b8Z{i j:Nat}{ρ:c5}{c:a06}(h:ρ[j]?=ξ (ξ (.ow c))):b2s i j ρ=ξ (.nx ((ρ.set j ζ).set i (ξ (.ow c)))):=by
 unfold b2s;rw [h]
section
variable {X:Cx}
theorem c2v{i j:Nat}{x y:Str}{q pos pos':Pos}(hN:X.N.Nodup)(hij:i≠j)(h:PE X (.Name y q) (a3G j))(hi:X.N[i]?=ξ x:=by rfl)(hx:Loc X.env.scope x:=by exact Or.inl rfl)(hs:swapsWith (.Name y q) (ξ (.Name x pos')) pos.line X.env=pure false:=by rfl)(hf:X.fn x=true\/X.env.scope.names.lookup x=ξ .local:=by first|exact .inl rfl|exact .inr rfl|assumption):
 ES X (.Assign [.Name x pos'] (.Name y q) pos) (b2s i j):=
 W5 (c1x hN hi hx h hs hf) λD σ H h0=>R6 h0 λF0 H0 F ρ fl so e fin=>by
  unfold b2s at e;split at e
  ·rename_i c eo;cases e;obtain⟨v,hv,hr⟩:=so.e.at_ j _ eo;obtain⟨a,rfl⟩:∃a,v= .ref a:=by
    cases c<;>obtain⟨a,_,e,_⟩:=hr<;>exact⟨a,e⟩
   exact⟨_,hv,fin _ F H (PU.u4.refl F) (so.move hij eo hv)⟩
  ·cases e
end
theorem J4.lend{K:AE}{F H:Hp}{σ:L2.St}{ρ:c5}{i:Nat}{c:a06}{a:AB}{o:HO}{p:PV}(en:J4 K F H σ ρ)(e:ρ[i]?=ξ (ξ (.ow c)))(ea:σ[i]?=ξ (ξ (.ref a)))(fa:F a=ζ)(ha:H a=ξ o)(rp:L3 K (B9 F a o) p (.ref a)):
 J4 K (B9 F a o) H σ (ρ.set i (ξ (.v p))):=by
 have up:u4 F (B9 F a o):=X1 fa
 have cl:∀(j:Nat) (q:d7),(ρ.set i (ξ (.v p)))[j]?=ξ (ξ q)->(j=i/\q= .v p)\/(j≠i/\ρ[j]?=ξ (ξ q)):=λj q z=>by
  rcases b60 z with⟨y,y'⟩|y
  ·exact .inl ⟨y,(Option.some.inj y').symm⟩
  ·exact .inr y
 refine⟨λb u z=> ?_,by rw [List.length_set];exact en.len,λj q z=> ?_,λj d z=> ?_,λj k d d' b hne z1 z2=> ?_⟩
 ·by_cases hb:b=a
  ·subst hb;rw [r9] at z;cases z;exact ha
  ·rw [l8 hb] at z;exact en.fh _ _ z
 ·rcases cl j q z with⟨rfl,rfl⟩|⟨hj,w⟩
  ·exact⟨.ref a,ea,rp⟩
  ·obtain⟨v,v1,v2⟩:=en.at_ j q w
   refine⟨v,v1, ?_⟩
   cases q with
   |v r=>exact L3.mono up _ v2
   |ow d=>
    have v2:a1C K F H v d:=v2
    obtain⟨a',u,rfl,f1,h1,nt⟩:=c49 v2
    have hne:a'≠a:=λy=>by subst y;exact en.ap j i d c a' hj w e v1 ea
    exact show a1C K (B9 F a o) H (.ref a') d from c3o v2 up (by rw [l8 hne];exact f1) λ_ h=>h
   |bo d=>exact absurd w (en.nb j d)
 ·rcases cl j _ z with⟨_,y⟩|⟨_,w⟩
  ·cases y
  ·exact en.nb j d w
 ·rcases cl j _ z1 with⟨_,y⟩|⟨_,w⟩
  ·cases y
  ·rcases cl k _ z2 with⟨_,y⟩|⟨_,w'⟩
   ·cases y
   ·exact en.ap j k d d' b hne w w'
def W3(i:Nat)(m:M):M:=λρ=>match ρ[i]? with
 |some (ξ (.ow (.txt kvs)))=>(m (ρ.set i (ξ (.v (tv kvs))))).bind λr=>if r.noK=true then ξ r else ζ
 |_=>ζ
section
variable {X:Cx}
theorem a6X(i:Nat){e:AG}{m:M}(he:EE X e m):EE X e (W3 i m):=
 C6 he λσ H Q h0=>B7 h0 λF ρ r en hm kq=>by
  unfold W3 at hm;split at hm
  ·rename_i kvs eo;obtain⟨r',e1,hm⟩:=bind_some hm;split at hm
   ·rename_i c;cases hm;obtain⟨w,hw,a,xs,rfl,fa,ha,rl⟩:=en.at_ i _ eo;exact⟨B9 F a (.dK xs),_,_,en.lend eo hw fa ha (b2p fa rl),e1,λu F5 H5 o5=>kq u (drp F5 a) H5 (a99 fa o5 c)⟩
   ·cases hm
  ·cases hm
end
section
variable {K:AE}{F H H':Hp}
end
section
variable {X:Cx}
end
end PU
set_option maxHeartbeats 4000000
namespace LW
open PySem PySem.Spec PyProof.Rows L2 PU
def E1:PV:=(.int 24)
def a5l:List (u8×PV):=[((.inr "stay"),(.tuple [])),((.inr "turn"),(.tuple [(.str "cross"),(.str "side")])),((.inr "half"),(.tuple [(.str "side"),(.str "flip")])),((.inr "back"),(.tuple [(.str "cross"),(.str "flip")])),((.inr "side"),(.tuple [(.str "side")])),((.inr "flip"),(.tuple [(.str "flip")])),((.inr "cross"),(.tuple [(.str "cross")])),((.inr "other"),(.tuple [(.str "cross"),(.str "side"),(.str "flip")]))]
def Q9:PV:=(.tuple [(.str "turn"),(.str "back"),(.str "cross"),(.str "other")])
def a6O:MS:=
 (l0 (m2 y8 (m2 r6 (m2 (J2 (λ_ j=>0<j) λi j=> .int (i % j)) (b0 0) (m2 (J2 b78 λi j=> .int (i ^ j.toNat)) (mC (.int 10)) (mC (.int 18)))) (m2 y8 (m2 r6 (mC (.int 2)) (b0 1)) (mC (.int 3)))) (m2 r6 (b0 1) (b0 1))))
def L8:List PV->Option d7:=m4 0 a6O
def V7:MS:=
 (j0 (p0 7 (m2 (J2 (λ_ j=>0<j) λi j=> .int (i % j)) (m2 r6 (b0 0) (m2 y8 (m2 y8 (m2 r6 (mC (.int 2)) (b0 4)) (m2 r6 (mC (.int 3)) (b0 6))) (mC (.int 69621)))) (mC (.int 1000003))))
 (p0 5 (m2 y8 (b0 5) (m2 k6 (b0 2) (m2 (J2 (λ_ j=>0<j) λi j=> .int (i % j)) (b0 7) (m1 B4 (b0 2)))))))
def V8:MS:=
 (j0 (p0 5 (mC (.str "")))
 (j0 (S4 (M1 (a8 (b0 3) b8)) (j6 6) V7)
 (Q4 1 (b0 5))))
def a3U:MS:=
 (j0 (p0 1 (N2 b8))
 (j0 (p0 2 (P5 (mC (.str "abcdefghijklmnopqrstuvwxyz")) T3 (R5 (m2 k6 (N2 (a8 (mC (.int 2)) (a8 (mC (.int 4)) (a8 (mC (.int 26)) b8)))) (m2 (J2 (λ_ j=>0<j) λi j=> .int (i % j)) (b0 0) (mC (.int 3)))))))
 (j0 (p0 3 (m2 y8 (mC (.int 1)) (m2 (J2 (λ_ j=>0<j) λi j=> .int (i % j)) (m2 (J2 (λ_ j=>0<j) λi j=> .int (i % j)) (m2 r6 (b0 0) (mC (.int 16807))) (mC (.int 999979))) (mC (.int 3)))))
 (j0 (S4 (M1 (a8 (m2 y8 (mC (.int 1)) (m2 (J2 (λ_ j=>0<j) λi j=> .int (i % j)) (m2 (J2 (λ_ j=>0<j) λi j=> .int (i % j)) (m2 r6 (b0 0) (mC (.int 48271))) (mC (.int 999983))) (mC (.int 3)))) b8)) (j6 4) V8)
 (l0 (u5 (a8 (mC (.str "plain")) (a8 (m1 T0 (b0 1)) b8))))))))
def a1Q:List PV->Option d7:=m4 7 a3U
def a1b:MS:=
 (j0 (o9 (R1 (u6 (m2 gNe (b0 1) (N2 b8))) (u6 (m2 a62 (m2 (J2 (λ_ j=>0<j) λi j=> .int (i % j)) (m2 (J2 (λ_ j=>0<j) λi j=> .int (i % j)) (m2 r6 (b0 0) (mC (.int 40692))) (mC (.int 999961))) (mC (.int 5))) (mC (.int 3))))) (l0 (u5 (a8 (mC (.str "name")) (a8 (m2 k6 (b0 1) (m2 (J2 (λ_ j=>0<j) λi j=> .int (i % j)) (m2 (J2 (λ_ j=>0<j) λi j=> .int (i % j)) (m2 r6 (b0 0) (mC (.int 39373))) (mC (.int 999953))) (m1 B4 (b0 1)))) b8)))) l9)
 (l0 (j5 a1Q (a8 (b0 0) b8))))
def a1n:List PV->Option d7:=m4 0 a1b
def a9C:MS:=
 (j0 (p0 3 (m2 (J2 (λ_ j=>0<j) λi j=> .int (i % j)) (m2 (J2 (λ_ j=>0<j) λi j=> .int (i % j)) (m2 r6 (b0 0) (mC (.int 62089911))) (mC (.int 999931))) (mC (.int 9))))
 (j0 (p0 4 (m2 y8 (mC (.int 1)) (m2 (J2 (λ_ j=>0<j) λi j=> .int (i % j)) (m2 (J2 (λ_ j=>0<j) λi j=> .int (i % j)) (m2 r6 (b0 0) (mC (.int 742938285))) (mC (.int 999959))) (m2 k6 (N2 (a8 (mC (.int 4)) (a8 (mC (.int 24)) b8))) (m1 c0s (m2 D0 (m2 (J2 (λ_ j=>0<j) λi j=> .int (i % j)) (b0 0) (mC (.int 7))) (mC (.int 1))))))))
 (j0 (p0 5 (mC (.str "abcdefghijklmnopqrstuvwxyz")))
 (j0 (o9 (u6 (m2 D0 (b0 3) (mC (.int 0)))) (j0 (p0 6 (N2 (a8 (mC (.str "turn")) (a8 (mC (.str "half")) (a8 (mC (.str "back")) (a8 (mC (.str "side")) (a8 (mC (.str "flip")) (a8 (mC (.str "cross")) (a8 (mC (.str "other")) b8)))))))))
 (l0 (u5 (a8 (mC (.str "turned")) (a8 (m2 k6 (b0 6) (m2 (J2 (λ_ j=>0<j) λi j=> .int (i % j)) (b0 0) (mC (.int 7)))) (a8 (b0 1) b8)))))) l9)
 (j0 (o9 (u6 (m2 D0 (b0 3) (mC (.int 1)))) (l0 (u5 (a8 (mC (.str "dye")) (a8 (m2 k6 (b0 5) (m2 (J2 (λ_ j=>0<j) λi j=> .int (i % j)) (b0 0) (mC (.int 4)))) (a8 (m2 k6 (b0 5) (m2 (J2 (λ_ j=>0<j) λi j=> .int (i % j)) (m2 (J2 b0T λi j=> .int (i / j)) (b0 0) (mC (.int 4))) (mC (.int 26)))) (a8 (b0 1) b8)))))) l9)
 (j0 (o9 (u6 (m2 D0 (b0 3) (mC (.int 2)))) (l0 (u5 (a8 (mC (.str "across")) (a8 (b0 4) (a8 (b0 1) b8))))) l9)
 (j0 (o9 (u6 (m2 D0 (b0 3) (mC (.int 3)))) (l0 (u5 (a8 (mC (.str "down")) (a8 (b0 4) (a8 (b0 1) b8))))) l9)
 (j0 (o9 (u6 (m2 D0 (b0 3) (mC (.int 4)))) (l0 (u5 (a8 (mC (.str "beside")) (a8 (N2 (a8 (b0 1) (a8 (b0 2) b8))) b8)))) l9)
 (j0 (o9 (u6 (m2 D0 (b0 3) (mC (.int 5)))) (l0 (u5 (a8 (mC (.str "above")) (a8 (N2 (a8 (b0 1) (a8 (b0 2) b8))) b8)))) l9)
 (j0 (o9 (u6 (m2 D0 (b0 3) (mC (.int 6)))) (l0 (u5 (a8 (mC (.str "beside")) (a8 (N2 (a8 (b0 1) (a8 (u5 (a8 (mC (.str "turned")) (a8 (mC (.str "side")) (a8 (b0 1) b8)))) b8))) b8)))) l9)
 (j0 (o9 (u6 (m2 D0 (b0 3) (mC (.int 7)))) (l0 (u5 (a8 (mC (.str "above")) (a8 (N2 (a8 (b0 1) (a8 (u5 (a8 (mC (.str "turned")) (a8 (mC (.str "flip")) (a8 (b0 1) b8)))) (a8 (b0 1) b8)))) b8)))) l9)
 (l0 (u5 (a8 (mC (.str "beside")) (a8 (P5 (m2 r6 (N2 (a8 (b0 2) (a8 (b0 1) b8))) (mC (.int 3))) T3 (R5 (m2 y8 (mC (.int 2)) (m2 (J2 (λ_ j=>0<j) λi j=> .int (i % j)) (b0 0) (mC (.int 5)))))) b8)))))))))))))))
def Y5:List PV->Option d7:=m4 4 a9C
def p9:MS:=
 (j0 (o9 (u6 (m2 D0 (b0 0) (mC (.str "beside")))) (j0 (o9 (u6 (m2 gNe (m2 k6 (b0 3) (mC (.int 0))) (m2 k6 (b0 2) (mC (.int 0))))) (l0 (u5 (a8 (mC (.str "misfit")) (a8 (mC (.str "")) b8)))) l9)
 (p0 2 (u5 (a8 (m2 k6 (b0 2) (mC (.int 0))) (a8 (m2 y8 (m2 k6 (b0 2) (mC (.int 1))) (m2 k6 (b0 3) (mC (.int 1)))) b8))))) (j0 (o9 (u6 (m2 gNe (m2 k6 (b0 3) (mC (.int 1))) (m2 k6 (b0 2) (mC (.int 1))))) (l0 (u5 (a8 (mC (.str "misfit")) (a8 (mC (.str "")) b8)))) l9)
 (p0 2 (u5 (a8 (m2 y8 (m2 k6 (b0 2) (mC (.int 0))) (m2 k6 (b0 3) (mC (.int 0)))) (a8 (m2 k6 (b0 2) (mC (.int 1))) b8))))))
 (o9 (u6 (m2 (gI λi j=> .bool (decide (j<i))) (m1 a2A (b0 2)) (mC (.int 24)))) (l0 (u5 (a8 (mC (.str "wide")) (a8 (mC (.str "")) b8)))) l9))
def a52:MS:=
 (j0 (p0 2 (m2 k6 (b0 1) (mC (.int 0))))
 (j0 (S4 (Y9 (P5 (b0 1) (R5 (mC (.int 1))) T3)) (j6 3) p9)
 (N7 2)))
def a24:List PV->Option d7:=m4 2 a52
def a0h(L4:List PV->Option d7):M:=
 (j5 L4 (a8 (b0 6) (a8 (b0 1) b8)))
def a2c(L4:List PV->Option d7):M:=
 (b0 6)
def a1e(L4:List PV->Option d7):MS:=
 (j0 (p0 2 (m2 k6 (b0 0) (mC (.int 0))))
 (j0 (o9 (u6 (m2 D0 (b0 2) (mC (.str "plain")))) (l0 (u5 (a8 (m1 B4 (m2 k6 (b0 0) (mC (.int 1)))) (a8 (m1 B4 (m2 k6 (m2 k6 (b0 0) (mC (.int 1))) (mC (.int 0)))) b8)))) l9)
 (j0 (o9 (u6 (m2 D0 (b0 2) (mC (.str "name")))) (l0 (a9j 1 (m2 k6 (b0 0) (mC (.int 1))) (u5 (a8 (mC (.str "name")) (a8 (m2 k6 (b0 0) (mC (.int 1))) b8))))) l9)
 (j0 (o9 (Z1 (u6 (m2 D0 (b0 2) (mC (.str "beside")))) (u6 (m2 D0 (b0 2) (mC (.str "above"))))) (j0 (p0 3 (F9 1 (v0 (m2 k6 (b0 0) (mC (.int 1)))) (j6 6) N8 (a0h L4)))
 (j0 (p0 4 (F9 1 (v0 (b0 3)) (j6 6) (mtV (m1 (a4a "str") (m2 k6 (b0 6) (mC (.int 0))))) (a2c L4)))
 (j0 (o9 (u6 (m2 gNe (b0 4) (N2 b8))) (l0 (m2 k6 (b0 4) (mC (.int 0)))) l9)
 (b1n 3 (l0 (j5 a24 (a8 (b0 2) (a8 (b0 3) b8)))))))) l9)
 (j0 (p0 5 (j5 L4 (a8 (m2 k6 (b0 0) (W4 (mC (.int 1)))) (a8 (b0 1) b8))))
 (j0 (o9 (Z1 (mtV (m1 (a4a "str") (m2 k6 (b0 5) (mC (.int 0))))) (u6 (m2 D0 (b0 2) (mC (.str "dye"))))) (N7 5) l9)
 (j0 (o9 (u6 (m2 D0 (b0 2) (mC (.str "turned")))) (j0 (o9 (u6 (m2 (b1h false) (m2 k6 (b0 0) (mC (.int 1))) (N2 (a8 (mC (.str "turn")) (a8 (mC (.str "back")) (a8 (mC (.str "cross")) (a8 (mC (.str "other")) b8))))))) (l0 (u5 (a8 (m2 k6 (b0 5) (mC (.int 1))) (a8 (m2 k6 (b0 5) (mC (.int 0))) b8)))) l9)
 (N7 5)) l9)
 (j0 (o9 (u6 (m2 D0 (b0 2) (mC (.str "across")))) (p0 5 (u5 (a8 (m2 k6 (b0 5) (mC (.int 0))) (a8 (m2 r6 (m2 k6 (b0 5) (mC (.int 1))) (m2 k6 (b0 0) (mC (.int 1)))) b8)))) (p0 5 (u5 (a8 (m2 r6 (m2 k6 (b0 5) (mC (.int 0))) (m2 k6 (b0 0) (mC (.int 1)))) (a8 (m2 k6 (b0 5) (mC (.int 1))) b8)))))
 (j0 (o9 (u6 (m2 (gI λi j=> .bool (decide (j<i))) (m1 a2A (b0 5)) (mC (.int 24)))) (l0 (u5 (a8 (mC (.str "wide")) (a8 (mC (.str "")) b8)))) l9)
 (N7 5))))))))))
def a8M:Nat->(List PV->Option d7)
 |0=>(m4 4 (λ_=>ζ))
 |n+1=>(m4 4 (a1e ((a8M n))))
def a4o(n:Nat):List PV->Option d7:=(a8M n)
def C9:List PV->Option d7:=a4o 12
def a0i(L5:List PV->Option d7):M:=
 (j5 L5 (a8 (b0 2) b8))
def a1f(L5:List PV->Option d7):MS:=
 (j0 (p0 1 (m2 k6 (b0 0) (mC (.int 0))))
 (j0 (o9 (u6 (m2 D0 (b0 1) (mC (.str "plain")))) (l0 (m2 y8 (m2 y8 (mC (.str "[")) (m2 a0t (mC (.str "/")) (m2 k6 (b0 0) (mC (.int 1))))) (mC (.str "]")))) l9)
 (j0 (o9 (u6 (m2 D0 (b0 1) (mC (.str "name")))) (l0 (m2 k6 (b0 0) (mC (.int 1)))) l9)
 (j0 (o9 (Z1 (u6 (m2 D0 (b0 1) (mC (.str "beside")))) (u6 (m2 D0 (b0 1) (mC (.str "above"))))) (l0 (m2 y8 (m2 y8 (m2 y8 (b0 1) (mC (.str "("))) (m2 a0t (mC (.str ", ")) (F9 1 (v0 (m2 k6 (b0 0) (mC (.int 1)))) (j6 2) N8 (a0i L5)))) (mC (.str ")")))) l9)
 (j0 (o9 (Z1 (u6 (m2 D0 (b0 1) (mC (.str "across")))) (u6 (m2 D0 (b0 1) (mC (.str "down"))))) (l0 (m2 y8 (m2 y8 (m2 y8 (m2 y8 (m2 y8 (b0 1) (mC (.str "("))) (m1 b8F (m2 k6 (b0 0) (mC (.int 1))))) (mC (.str ", "))) (j5 L5 (a8 (m2 k6 (b0 0) (mC (.int 2))) b8))) (mC (.str ")")))) l9)
 (j0 (o9 (u6 (m2 D0 (b0 1) (mC (.str "turned")))) (l0 (m2 y8 (m2 y8 (m2 y8 (m2 k6 (b0 0) (mC (.int 1))) (mC (.str "("))) (j5 L5 (a8 (m2 k6 (b0 0) (mC (.int 2))) b8))) (mC (.str ")")))) l9)
 (l0 (m2 y8 (m2 y8 (m2 y8 (m2 y8 (m2 y8 (m2 y8 (mC (.str "dye(")) (m2 k6 (b0 0) (mC (.int 1)))) (mC (.str ", "))) (m2 k6 (b0 0) (mC (.int 2)))) (mC (.str ", "))) (j5 L5 (a8 (m2 k6 (b0 0) (mC (.int 3))) b8))) (mC (.str ")"))))))))))
def a8N:Nat->(List PV->Option d7)
 |0=>(m4 1 (λ_=>ζ))
 |n+1=>(m4 1 (a1f ((a8N n))))
def a4p(n:Nat):List PV->Option d7:=(a8N n)
def Y6:List PV->Option d7:=a4p 12
def P4:MS:=
 (j0 (p0 6 (m2 (J2 (λ_ j=>0<j) λi j=> .int (i % j)) (m2 r6 (b0 0) (m2 y8 (m2 r6 (mC (.int 2)) (b0 5)) (mC (.int 39373)))) (mC (.int 2147483629))))
 (j0 (p0 7 (j5 Y5 (a8 (b0 6) (a8 (b0 4) (a8 (j5 a1n (a8 (m2 y8 (m2 r6 (b0 6) (mC (.int 7))) (mC (.int 1))) (a8 (b0 2) b8))) b8)))))
 (j0 (p0 8 (j5 C9 (a8 (b0 7) (a8 (b0 1) b8))))
 (j0 (p0 9 (b6C (c0Y (m1 (a4a "str") (m2 k6 (b0 8) (mC (.int 0))))) (m2 c2D (m1 a2A (b0 8)) (b0 3))))
 (o9 (R1 (Z1 (mtV (b0 9)) (u6 (m2 D0 (b0 3) (mC (.int 0))))) (u6 (m2 a62 (m1 B4 (j5 Y6 (a8 (b0 7) b8))) (mC (.int 381))))) (p0 4 (b0 7)) l9)))))
def a3T:MS:=
 (j0 (p0 4 (j5 a1n (a8 (b0 0) (a8 (b0 2) b8))))
 (j0 (o9 (R1 (u6 (m2 (gI λi j=> .bool (decide (j<i))) (b0 3) (mC (.int 0)))) (mtV (m1 (a4a "str") (m2 k6 (j5 C9 (a8 (b0 4) (a8 (b0 1) b8))) (mC (.int 0)))))) (p0 4 (j5 a1Q (a8 (b0 0) b8))) l9)
 (j0 (S4 (M1 (a8 (m2 (J2 (λ_ j=>0<j) λi j=> .int (i % j)) (m2 (J2 (λ_ j=>0<j) λi j=> .int (i % j)) (m2 r6 (b0 0) (mC (.int 69621))) (mC (.int 1000003))) (mC (.int 4))) b8)) (j6 5) P4)
 (N7 4))))
def P3:List PV->Option d7:=m4 6 a3T
def b04:MS:=
 (j0 (o9 (u6 (m2 a62 (b0 1) (m1 B4 (b0 0)))) (l0 (m2 k6 (b0 0) (b0 1))) l9)
 (l0 (mC (.int 0))))
def M6:List PV->Option d7:=m4 0 b04
def b4w:MS:=
 (l0 (N2 (a8 (mC (.str "k")) (a8 (mC (.str "stay")) (a8 (mC (.str "let")) (a8 (mC (.str "knots")) (a8 (mC (.str "zz")) b8)))))))
def a1P:List PV->Option d7:=m4 0 b4w
def u3:MS:=
 (j0 (p0 7 (W2 C9 5 (b0 0)))
 (j0 (o9 (Z1 (mtV (m1 (a4a "str") (m2 k6 (b0 7) (mC (.int 0))))) (u6 (m2 (gI λi j=> .bool (decide (j<i))) (m1 a2A (b0 7)) (b0 4)))) (l0 (mC .none)) l9)
 (a3z 5 (b0 1) (b0 7))))
def K3:MS:=
 (j0 (p0 5 (m1 a7Y (b0 3)))
 (j0 (S4 (M1 (a8 (b0 2) b8)) (j6 6) u3)
 (N7 5)))
def C1:List PV->Option d7:=m4 3 K3
def K8:MS:=
 (j0 (p0 6 (j5 L8 (a8 (m2 k6 (b0 0) (b0 5)) (a8 (b0 5) b8))))
 (j0 (p0 7 (m2 k6 (λ_=>a1P []) (m2 (J2 (λ_ j=>0<j) λi j=> .int (i % j)) (m2 (J2 (λ_ j=>0<j) λi j=> .int (i % j)) (m2 r6 (b0 6) (mC (.int 950706376))) (mC (.int 999917))) (mC (.int 5)))))
 (j0 (p0 8 (W3 3 (j5 P3 (a8 (b0 6) (a8 (b0 3) (a8 (m1 a20 (b0 3)) (a8 (b0 2) b8)))))))
 (j0 (p0 9 (m2 y8 (mC (.int 1)) (m2 (J2 (λ_ j=>0<j) λi j=> .int (i % j)) (m2 (J2 (λ_ j=>0<j) λi j=> .int (i % j)) (m2 r6 (b0 6) (mC (.int 742938285))) (mC (.int 999959))) (mC (.int 3)))))
 (j0 (p0 10 (mC .none))
 (j0 (o9 (R1 (u6 (m2 D0 (m2 (J2 (λ_ j=>0<j) λi j=> .int (i % j)) (b0 6) (mC (.int 4))) (mC (.int 1)))) (u6 (b1o false 3 (b0 7)))) (p0 10 (W3 3 (j5 C1 (a8 (b0 8) (a8 (b0 7) (a8 (b0 9) (a8 (b0 3) (a8 (b0 2) b8)))))))) l9)
 (o9 (u6 (m2 (c2A false) (b0 10) (mC .none))) (j0 (Q4 4 (u5 (a8 (mC (.str "let")) (a8 (b0 7) (a8 (b0 8) b8)))))
 (a3z 3 (b0 7) (W2 C9 3 (b0 8)))) (j0 (Q4 4 (u5 (a8 (mC (.str "again")) (a8 (b0 9) (a8 (b0 7) (a8 (b0 8) b8))))))
 (b2s 3 10)))))))))
def a1Z:MS:=
 (j0 (p0 3 c2S)
 (j0 (p0 4 (N2 b8))
 (j0 (S4 (b7D (a8 (mC (.int 1)) (a8 (m2 (gI λi j=> .int (if j<i then j else i)) (m1 B4 (b0 0)) (b0 1)) b8))) (j6 5) K8)
 (j0 (p0 6 (j5 L8 (a8 (j5 M6 (a8 (b0 0) (a8 (mC (.int 0)) b8))) (a8 (mC (.int 5)) b8))))
 (l0 (m2 y8 (b0 4) (N2 (a8 (u5 (a8 (mC (.str "knot")) (a8 (W3 3 (j5 P3 (a8 (b0 6) (a8 (b0 3) (a8 (m1 a20 (b0 3)) (a8 (b0 2) b8)))))) b8))) b8))))))))
def a0e:List PV->Option d7:=m4 8 a1Z
def b1l(C0:List PV->Option d7):M:=
 (j5 C0 (a8 (b0 2) b8))
def b1m(C0:List PV->Option d7):M:=
 (j5 C0 (a8 (b0 2) b8))
def a1c(C0:List PV->Option d7):MS:=
 (j0 (p0 1 (m2 k6 (b0 0) (mC (.int 0))))
 (j0 (o9 (u6 (m2 D0 (b0 1) (mC (.str "plain")))) (l0 (a6j "Plain" ["rows"] (a8 (m2 k6 (b0 0) (mC (.int 1))) b8))) l9)
 (j0 (o9 (u6 (m2 D0 (b0 1) (mC (.str "name")))) (l0 (a6j "Named" ["name"] (a8 (m2 k6 (b0 0) (mC (.int 1))) b8))) l9)
 (j0 (o9 (u6 (m2 D0 (b0 1) (mC (.str "beside")))) (l0 (a6j "Beside" ["parts"] (a8 (m1 T0 (F9 1 (v0 (m2 k6 (b0 0) (mC (.int 1)))) (j6 2) N8 (b1l C0))) b8))) l9)
 (j0 (o9 (u6 (m2 D0 (b0 1) (mC (.str "above")))) (l0 (a6j "Above" ["parts"] (a8 (m1 T0 (F9 1 (v0 (m2 k6 (b0 0) (mC (.int 1)))) (j6 2) N8 (b1m C0))) b8))) l9)
 (j0 (o9 (u6 (m2 D0 (b0 1) (mC (.str "across")))) (l0 (a6j "Across" ["many","part"] (a8 (m2 k6 (b0 0) (mC (.int 1))) (a8 (j5 C0 (a8 (m2 k6 (b0 0) (mC (.int 2))) b8)) b8)))) l9)
 (j0 (o9 (u6 (m2 D0 (b0 1) (mC (.str "down")))) (l0 (a6j "Down" ["many","part"] (a8 (m2 k6 (b0 0) (mC (.int 1))) (a8 (j5 C0 (a8 (m2 k6 (b0 0) (mC (.int 2))) b8)) b8)))) l9)
 (j0 (o9 (u6 (m2 D0 (b0 1) (mC (.str "turned")))) (l0 (a6j "Turned" ["way","part"] (a8 (m2 k6 (b0 0) (mC (.int 1))) (a8 (j5 C0 (a8 (m2 k6 (b0 0) (mC (.int 2))) b8)) b8)))) l9)
 (l0 (a6j "Dyed" ["one","other","part"] (a8 (m2 k6 (b0 0) (mC (.int 1))) (a8 (m2 k6 (b0 0) (mC (.int 2))) (a8 (j5 C0 (a8 (m2 k6 (b0 0) (mC (.int 3))) b8)) b8)))))))))))))
def a8K:Nat->(List PV->Option d7)
 |0=>(m4 1 (λ_=>ζ))
 |n+1=>(m4 1 (a1c ((a8K n))))
def a4m(n:Nat):List PV->Option d7:=(a8K n)
def E6:List PV->Option d7:=a4m 12
def A0:MS:=
 (Q4 1 (m2 y8 (P5 (b0 2) T3 (R5 (W4 (mC (.int 1))))) (u5 (a8 (j5 E6 (a8 (m2 k6 (b0 2) (W4 (mC (.int 1)))) b8)) b8))))
def a3R:MS:=
 (j0 (p0 1 (N2 b8))
 (j0 (S4 (Y9 (b0 0)) (j6 2) A0)
 (N7 1)))
def a4k:List PV->Option d7:=m4 2 a3R
def a53:MS:=
 (j0 (o9 (u6 (m2 D0 (m2 k6 (b0 0) (mC (.int 0))) (mC (.str "again")))) (l0 (m2 k6 (b0 0) (mC (.int 1)))) l9)
 (l0 (mC (.int 1))))
def a1o:List PV->Option d7:=m4 0 a53
def b8h:MS:=
 (l0 (u5 (a8 (m1 B4 (b0 0)) (a8 (m1 B4 (m2 k6 (b0 0) (mC (.int 0)))) b8))))
def a71:List PV->Option d7:=m4 0 b8h
def b27:MS:=
 (l0 (j5 a71 (a8 (m1 (E5 ["Plain"] "rows") (b0 0)) b8)))
def z6:List PV->Option d7:=m4 0 b27
def a2P:MS:=
 (j0 (o9 (u6 (b47 true 1 (m1 (E5 ["Named"] "name") (b0 0)))) a3a l9)
 (l0 (a3b 1 (m1 (E5 ["Named"] "name") (b0 0)))))
def y9:List PV->Option d7:=m4 0 a2P
def a09:MS:=
 (j0 (o9 (Z1 (u6 (m2 (gI λi j=> .bool (decide (j<i))) (b0 0) (mC E1))) (u6 (m2 (gI λi j=> .bool (decide (j<i))) (b0 1) (mC E1)))) a3a l9)
 (l0 (u5 (a8 (b0 0) (a8 (b0 1) b8)))))
def K5:List PV->Option d7:=m4 0 a09
def a2R:MS:=
 (j0 (o9 (u6 (m2 gNe (m2 k6 (b0 0) (mC (.int 1))) (m2 k6 (b0 1) (mC (.int 1))))) a3a l9)
 (l0 (j5 K5 (a8 (m2 y8 (m2 k6 (b0 0) (mC (.int 0))) (m2 k6 (b0 1) (mC (.int 0)))) (a8 (m2 k6 (b0 0) (mC (.int 1))) (a8 (b0 2) b8))))))
def a0Y:List PV->Option d7:=m4 0 a2R
def a10:MS:=
 (j0 (o9 (u6 (m2 gNe (m2 k6 (b0 0) (mC (.int 0))) (m2 k6 (b0 1) (mC (.int 0))))) a3a l9)
 (l0 (j5 K5 (a8 (m2 k6 (b0 0) (mC (.int 0))) (a8 (m2 y8 (m2 k6 (b0 0) (mC (.int 1))) (m2 k6 (b0 1) (mC (.int 1)))) (a8 (b0 2) b8))))))
def a0f:List PV->Option d7:=m4 0 a10
def a6I(i9 i4 i5 j3 j4 i6 R_size_of_laid:List PV->Option d7):MS:=
 (l0 (j5 R_size_of_laid (a8 (m1 (E5 ["Beside","Above"] "parts") (b0 0)) (a8 (b0 1) (a8 (b0 2) (a8 (mC (a0L "size_above")) b8))))))
def a0b(i9 i4 i5 j3 j4 i6 R_size_of_laid:List PV->Option d7):MS:=
 (j0 (p0 3 (U0 [("Plain",z6),("Named",y9),("Beside",i5),("Above",i9),("Across",i4),("Down",j3),("Turned",i6),("Dyed",j4)] "size" (m1 (E5 ["Across","Down","Turned","Dyed"] "part") (b0 0)) (a8 (b0 1) (a8 (b0 2) b8))))
 (l0 (j5 K5 (a8 (m2 k6 (b0 3) (mC (.int 0))) (a8 (m2 r6 (m2 k6 (b0 3) (mC (.int 1))) (m1 (E5 ["Across","Down"] "many") (b0 0))) (a8 (b0 2) b8))))))
def a5B(i9 i4 i5 j3 j4 i6 R_size_of_laid:List PV->Option d7):MS:=
 (l0 (j5 R_size_of_laid (a8 (m1 (E5 ["Beside","Above"] "parts") (b0 0)) (a8 (b0 1) (a8 (b0 2) (a8 (mC (a0L "size_beside")) b8))))))
def a1I(i9 i4 i5 j3 j4 i6 R_size_of_laid:List PV->Option d7):MS:=
 (j0 (p0 3 (U0 [("Plain",z6),("Named",y9),("Beside",i5),("Above",i9),("Across",i4),("Down",j3),("Turned",i6),("Dyed",j4)] "size" (m1 (E5 ["Across","Down","Turned","Dyed"] "part") (b0 0)) (a8 (b0 1) (a8 (b0 2) b8))))
 (l0 (j5 K5 (a8 (m2 r6 (m2 k6 (b0 3) (mC (.int 0))) (m1 (E5 ["Across","Down"] "many") (b0 0))) (a8 (m2 k6 (b0 3) (mC (.int 1))) (a8 (b0 2) b8))))))
def a8r(i9 i4 i5 j3 j4 i6 R_size_of_laid:List PV->Option d7):MS:=
 (l0 (U0 [("Plain",z6),("Named",y9),("Beside",i5),("Above",i9),("Across",i4),("Down",j3),("Turned",i6),("Dyed",j4)] "size" (m1 (E5 ["Across","Down","Turned","Dyed"] "part") (b0 0)) (a8 (b0 1) (a8 (b0 2) b8))))
def a0c(i9 i4 i5 j3 j4 i6 R_size_of_laid:List PV->Option d7):MS:=
 (j0 (p0 3 (U0 [("Plain",z6),("Named",y9),("Beside",i5),("Above",i9),("Across",i4),("Down",j3),("Turned",i6),("Dyed",j4)] "size" (m1 (E5 ["Across","Down","Turned","Dyed"] "part") (b0 0)) (a8 (b0 1) (a8 (b0 2) b8))))
 (j0 (o9 (u6 (m2 (b1h false) (m1 (E5 ["Turned"] "way") (b0 0)) (mC Q9))) (l0 (u5 (a8 (m2 k6 (b0 3) (mC (.int 1))) (a8 (m2 k6 (b0 3) (mC (.int 0))) b8)))) l9)
 (N7 3)))
def W0(i9 i4 i5 j3 j4 i6 R_size_of_laid:List PV->Option d7):M:=
 (U0 [("Plain",z6),("Named",y9),("Beside",i5),("Above",i9),("Across",i4),("Down",j3),("Turned",i6),("Dyed",j4)] "size" (b0 7) (a8 (b0 1) (a8 (b0 2) b8)))
def G7(i9 i4 i5 j3 j4 i6 R_size_of_laid:List PV->Option d7):MS:=
 (p0 5 (a4z [("size_beside",a0f),("size_above",a0Y)] 3 (a8 (b0 5) (a8 (b0 6) (a8 (b0 2) b8)))))
def O5(i9 i4 i5 j3 j4 i6 R_size_of_laid:List PV->Option d7):MS:=
 (j0 (p0 4 (F9 1 (v0 (b0 0)) (j6 7) N8 (W0 i9 i4 i5 j3 j4 i6 R_size_of_laid)))
 (j0 (p0 5 (m2 k6 (b0 4) (mC (.int 0))))
 (j0 (S4 (Y9 (P5 (b0 4) (R5 (mC (.int 1))) T3)) (j6 6) (G7 i9 i4 i5 j3 j4 i6 R_size_of_laid))
 (N7 5))))
def d5:Nat->(List PV->Option d7)×(List PV->Option d7)×(List PV->Option d7)×(List PV->Option d7)×(List PV->Option d7)×(List PV->Option d7)×(List PV->Option d7)
 |0=>(m4 0 (λ_=>ζ),m4 1 (λ_=>ζ),m4 0 (λ_=>ζ),m4 1 (λ_=>ζ),m4 0 (λ_=>ζ),m4 1 (λ_=>ζ),m4 3 (λ_=>ζ))
 |n+1=>(m4 0 (a6I ((d5 n).1) ((d5 n).2.1) ((d5 n).2.2.1) ((d5 n).2.2.2.1) ((d5 n).2.2.2.2.1) ((d5 n).2.2.2.2.2.1) ((d5 n).2.2.2.2.2.2)),m4 1 (a0b ((d5 n).1) ((d5 n).2.1) ((d5 n).2.2.1) ((d5 n).2.2.2.1) ((d5 n).2.2.2.2.1) ((d5 n).2.2.2.2.2.1) ((d5 n).2.2.2.2.2.2)),m4 0 (a5B ((d5 n).1) ((d5 n).2.1) ((d5 n).2.2.1) ((d5 n).2.2.2.1) ((d5 n).2.2.2.2.1) ((d5 n).2.2.2.2.2.1) ((d5 n).2.2.2.2.2.2)),m4 1 (a1I ((d5 n).1) ((d5 n).2.1) ((d5 n).2.2.1) ((d5 n).2.2.2.1) ((d5 n).2.2.2.2.1) ((d5 n).2.2.2.2.2.1) ((d5 n).2.2.2.2.2.2)),m4 0 (a8r ((d5 n).1) ((d5 n).2.1) ((d5 n).2.2.1) ((d5 n).2.2.2.1) ((d5 n).2.2.2.2.1) ((d5 n).2.2.2.2.2.1) ((d5 n).2.2.2.2.2.2)),m4 1 (a0c ((d5 n).1) ((d5 n).2.1) ((d5 n).2.2.1) ((d5 n).2.2.2.1) ((d5 n).2.2.2.2.1) ((d5 n).2.2.2.2.2.1) ((d5 n).2.2.2.2.2.2)),m4 3 (O5 ((d5 n).1) ((d5 n).2.1) ((d5 n).2.2.1) ((d5 n).2.2.2.1) ((d5 n).2.2.2.2.1) ((d5 n).2.2.2.2.2.1) ((d5 n).2.2.2.2.2.2)))
def a14(n:Nat):List PV->Option d7:=(d5 n).1
def a63:List PV->Option d7:=a14 20
def a1q(n:Nat):List PV->Option d7:=(d5 n).2.1
def a5F:List PV->Option d7:=a1q 20
def a1r(n:Nat):List PV->Option d7:=(d5 n).2.2.1
def a5G:List PV->Option d7:=a1r 20
def a26(n:Nat):List PV->Option d7:=(d5 n).2.2.2.1
def a8w:List PV->Option d7:=a26 20
def a27(n:Nat):List PV->Option d7:=(d5 n).2.2.2.2.1
def a8x:List PV->Option d7:=a27 20
def a1s(n:Nat):List PV->Option d7:=(d5 n).2.2.2.2.2.1
def a5H:List PV->Option d7:=a1s 20
def a0E(n:Nat):List PV->Option d7:=(d5 n).2.2.2.2.2.2
def b4x:MS:=
 (l0 (U0 [("Plain",z6),("Named",y9),("Beside",a5G),("Above",a63),("Across",a5F),("Down",a8w),("Turned",a5H),("Dyed",a8x)] "size" (b0 0) (a8 (b0 1) (a8 (b0 2) b8))))
def T9:List PV->Option d7:=m4 0 b4x
def b03:MS:=
 (l0 (m1 (E5 ["Plain"] "rows") (b0 0)))
def t6:List PV->Option d7:=m4 0 b03
def b02:MS:=
 (l0 (a3b 1 (m1 (E5 ["Named"] "name") (b0 0))))
def t5:List PV->Option d7:=m4 0 b02
def a6M:MS:=
 (o9 (Z1 (u6 (m2 (gI λi j=> .bool (decide (j<i))) (b0 0) (mC E1))) (u6 (m2 (gI λi j=> .bool (decide (j<i))) (b0 1) (mC E1)))) a3a l9)
def L7:List PV->Option d7:=m4 0 a6M
def b28:MS:=
 (j0 (o9 (u6 (m2 gNe (m1 B4 (m2 k6 (b0 0) (mC (.int 0)))) (m1 B4 (m2 k6 (b0 1) (mC (.int 0)))))) a3a l9)
 (j0 (b45 (j5 L7 (a8 (m2 y8 (m1 B4 (b0 0)) (m1 B4 (b0 1))) (a8 (m1 B4 (m2 k6 (b0 0) (mC (.int 0)))) b8))))
 (l0 (m2 y8 (b0 0) (b0 1)))))
def a66:List PV->Option d7:=m4 0 b28
def a4t:M:=
 (m2 r6 (b0 2) (b0 1))
def a9y:MS:=
 (j0 (b45 (j5 L7 (a8 (m1 B4 (b0 0)) (a8 (m2 r6 (m1 B4 (m2 k6 (b0 0) (mC (.int 0)))) (b0 1)) b8))))
 (l0 (m1 T0 (F9 1 (v0 (b0 0)) (j6 2) N8 a4t))))
def a9Y:List PV->Option d7:=m4 0 a9y
def b58:MS:=
 (j0 (b45 (j5 L7 (a8 (m2 a8v (m1 B4 (b0 0)) (b0 1)) (a8 (m1 B4 (m2 k6 (b0 0) (mC (.int 0)))) b8))))
 (l0 (m2 a8v (b0 0) (b0 1))))
def b6o:List PV->Option d7:=m4 0 b58
def a6N:MS:=
 (l0 (m1 a9f (b0 0)))
def a0X:List PV->Option d7:=m4 0 a6N
def a8B:M:=
 (m2 k6 (b0 2) (b0 1))
def b4v:MS:=
 (l0 (m2 a0t (mC (.str "")) (F9 1 (v0 (b0 0)) (j6 2) N8 a8B)))
def a67:List PV->Option d7:=m4 0 b4v
def a3y:M:=
 (j5 a67 (a8 (b0 0) (a8 (b0 1) b8)))
def a6L:MS:=
 (l0 (m1 T0 (F9 1 (M1 (a8 (m1 B4 (m2 k6 (b0 0) (mC (.int 0)))) b8)) (j6 1) N8 a3y)))
def a0W:List PV->Option d7:=m4 0 a6L
def a0M:M:=
 (m2 a60 (mC (.str "")) (b0 1))
def a2r:MS:=
 (l0 (m1 T0 (F9 1 (v0 (b0 0)) (j6 1) N8 a0M)))
def Q2:List PV->Option d7:=m4 0 a2r
def a41:MS:=
 (j0 (o9 (u6 (m2 D0 (b0 1) (mC (.str "cross")))) (l0 (j5 a0W (a8 (b0 0) b8))) l9)
 (j0 (o9 (u6 (m2 D0 (b0 1) (mC (.str "side")))) (l0 (j5 Q2 (a8 (b0 0) b8))) l9)
 (l0 (j5 a0X (a8 (b0 0) b8)))))
def Q3:List PV->Option d7:=m4 0 a41
def a0w:MS:=
 (p0 2 (j5 Q3 (a8 (b0 2) (a8 (b0 3) b8))))
def b4y:MS:=
 (j0 (p0 2 (b0 0))
 (j0 (S4 (Y9 (c4U a5l (b0 1))) (j6 3) a0w)
 (N7 2)))
def K6:List PV->Option d7:=m4 2 b4y
def a8s:MS:=
 (j0 (o9 (u6 (m2 D0 (b0 0) (b0 1))) (N7 2) l9)
 (j0 (o9 (u6 (m2 D0 (b0 0) (b0 2))) (N7 1) l9)
 (N7 0)))
def a1O:List PV->Option d7:=m4 0 a8s
def a19:M:=
 (j5 a1O (a8 (b0 3) (a8 (b0 1) (a8 (b0 2) b8))))
def a9A:MS:=
 (l0 (m2 a0t (mC (.str "")) (F9 1 (b0e (b0 0)) (j6 3) N8 a19)))
def a21:List PV->Option d7:=m4 0 a9A
def a5J:M:=
 (j5 a21 (a8 (b0 3) (a8 (b0 1) (a8 (b0 2) b8))))
def a9B:MS:=
 (l0 (m1 T0 (F9 1 (v0 (b0 0)) (j6 3) N8 a5J)))
def a22:List PV->Option d7:=m4 0 a9B
def a4u:M:=
 (m2 y8 (b0 2) (b0 3))
def a9z:MS:=
 (j0 (o9 (u6 (m2 gNe (m1 B4 (b0 0)) (m1 B4 (b0 1)))) a3a l9)
 (j0 (b45 (j5 L7 (a8 (m1 B4 (b0 0)) (a8 (m2 y8 (m1 B4 (m2 k6 (b0 0) (mC (.int 0)))) (m1 B4 (m2 k6 (b0 1) (mC (.int 0))))) b8))))
 (l0 (m1 T0 (F9 2 (b7E (a8 (b0 0) (a8 (b0 1) b8))) (a7K [2,3]) N8 a4u)))))
def a4i:List PV->Option d7:=m4 0 a9z
def a5A(i7 g7 g8 j1 j2 g9 R_cloth_of_laid:List PV->Option d7):MS:=
 (l0 (j5 R_cloth_of_laid (a8 (m1 (E5 ["Beside","Above"] "parts") (b0 0)) (a8 (b0 1) (a8 (mC (a0L "above")) b8)))))
def a3N(i7 g7 g8 j1 j2 g9 R_cloth_of_laid:List PV->Option d7):MS:=
 (l0 (j5 a9Y (a8 (U0 [("Plain",t6),("Named",t5),("Beside",g8),("Above",i7),("Across",g7),("Down",j1),("Turned",g9),("Dyed",j2)] "cloth" (m1 (E5 ["Across","Down","Turned","Dyed"] "part") (b0 0)) (a8 (b0 1) b8)) (a8 (m1 (E5 ["Across","Down"] "many") (b0 0)) b8))))
def a3O(i7 g7 g8 j1 j2 g9 R_cloth_of_laid:List PV->Option d7):MS:=
 (l0 (j5 R_cloth_of_laid (a8 (m1 (E5 ["Beside","Above"] "parts") (b0 0)) (a8 (b0 1) (a8 (mC (a0L "beside")) b8)))))
def a6J(i7 g7 g8 j1 j2 g9 R_cloth_of_laid:List PV->Option d7):MS:=
 (l0 (j5 b6o (a8 (U0 [("Plain",t6),("Named",t5),("Beside",g8),("Above",i7),("Across",g7),("Down",j1),("Turned",g9),("Dyed",j2)] "cloth" (m1 (E5 ["Across","Down","Turned","Dyed"] "part") (b0 0)) (a8 (b0 1) b8)) (a8 (m1 (E5 ["Across","Down"] "many") (b0 0)) b8))))
def a6K(i7 g7 g8 j1 j2 g9 R_cloth_of_laid:List PV->Option d7):MS:=
 (l0 (j5 a22 (a8 (U0 [("Plain",t6),("Named",t5),("Beside",g8),("Above",i7),("Across",g7),("Down",j1),("Turned",g9),("Dyed",j2)] "cloth" (m1 (E5 ["Across","Down","Turned","Dyed"] "part") (b0 0)) (a8 (b0 1) b8)) (a8 (m1 (E5 ["Dyed"] "one") (b0 0)) (a8 (m1 (E5 ["Dyed"] "other") (b0 0)) b8)))))
def a3P(i7 g7 g8 j1 j2 g9 R_cloth_of_laid:List PV->Option d7):MS:=
 (l0 (j5 K6 (a8 (U0 [("Plain",t6),("Named",t5),("Beside",g8),("Above",i7),("Across",g7),("Down",j1),("Turned",g9),("Dyed",j2)] "cloth" (m1 (E5 ["Across","Down","Turned","Dyed"] "part") (b0 0)) (a8 (b0 1) b8)) (a8 (m1 (E5 ["Turned"] "way") (b0 0)) b8))))
def E7(i7 g7 g8 j1 j2 g9 R_cloth_of_laid:List PV->Option d7):MS:=
 (p0 3 (a4z [("beside",a4i),("above",a66)] 2 (a8 (b0 3) (a8 (U0 [("Plain",t6),("Named",t5),("Beside",g8),("Above",i7),("Across",g7),("Down",j1),("Turned",g9),("Dyed",j2)] "cloth" (b0 4) (a8 (b0 1) b8)) b8))))
def M0(i7 g7 g8 j1 j2 g9 R_cloth_of_laid:List PV->Option d7):MS:=
 (j0 (p0 3 (U0 [("Plain",t6),("Named",t5),("Beside",g8),("Above",i7),("Across",g7),("Down",j1),("Turned",g9),("Dyed",j2)] "cloth" (m2 k6 (b0 0) (mC (.int 0))) (a8 (b0 1) b8)))
 (j0 (S4 (Y9 (P5 (b0 0) (R5 (mC (.int 1))) T3)) (j6 4) (E7 i7 g7 g8 j1 j2 g9 R_cloth_of_laid))
 (N7 3)))
def c7:Nat->(List PV->Option d7)×(List PV->Option d7)×(List PV->Option d7)×(List PV->Option d7)×(List PV->Option d7)×(List PV->Option d7)×(List PV->Option d7)
 |0=>(m4 0 (λ_=>ζ),m4 0 (λ_=>ζ),m4 0 (λ_=>ζ),m4 0 (λ_=>ζ),m4 0 (λ_=>ζ),m4 0 (λ_=>ζ),m4 2 (λ_=>ζ))
 |n+1=>(m4 0 (a5A ((c7 n).1) ((c7 n).2.1) ((c7 n).2.2.1) ((c7 n).2.2.2.1) ((c7 n).2.2.2.2.1) ((c7 n).2.2.2.2.2.1) ((c7 n).2.2.2.2.2.2)),m4 0 (a3N ((c7 n).1) ((c7 n).2.1) ((c7 n).2.2.1) ((c7 n).2.2.2.1) ((c7 n).2.2.2.2.1) ((c7 n).2.2.2.2.2.1) ((c7 n).2.2.2.2.2.2)),m4 0 (a3O ((c7 n).1) ((c7 n).2.1) ((c7 n).2.2.1) ((c7 n).2.2.2.1) ((c7 n).2.2.2.2.1) ((c7 n).2.2.2.2.2.1) ((c7 n).2.2.2.2.2.2)),m4 0 (a6J ((c7 n).1) ((c7 n).2.1) ((c7 n).2.2.1) ((c7 n).2.2.2.1) ((c7 n).2.2.2.2.1) ((c7 n).2.2.2.2.2.1) ((c7 n).2.2.2.2.2.2)),m4 0 (a6K ((c7 n).1) ((c7 n).2.1) ((c7 n).2.2.1) ((c7 n).2.2.2.1) ((c7 n).2.2.2.2.1) ((c7 n).2.2.2.2.2.1) ((c7 n).2.2.2.2.2.2)),m4 0 (a3P ((c7 n).1) ((c7 n).2.1) ((c7 n).2.2.1) ((c7 n).2.2.2.1) ((c7 n).2.2.2.2.1) ((c7 n).2.2.2.2.2.1) ((c7 n).2.2.2.2.2.2)),m4 2 (M0 ((c7 n).1) ((c7 n).2.1) ((c7 n).2.2.1) ((c7 n).2.2.2.1) ((c7 n).2.2.2.2.1) ((c7 n).2.2.2.2.2.1) ((c7 n).2.2.2.2.2.2)))
def a1p(n:Nat):List PV->Option d7:=(c7 n).1
def a5E:List PV->Option d7:=a1p 20
def a0B(n:Nat):List PV->Option d7:=(c7 n).2.1
def a4f:List PV->Option d7:=a0B 20
def a0C(n:Nat):List PV->Option d7:=(c7 n).2.2.1
def a4g:List PV->Option d7:=a0C 20
def a15(n:Nat):List PV->Option d7:=(c7 n).2.2.2.1
def a64:List PV->Option d7:=a15 20
def a16(n:Nat):List PV->Option d7:=(c7 n).2.2.2.2.1
def a65:List PV->Option d7:=a16 20
def a0D(n:Nat):List PV->Option d7:=(c7 n).2.2.2.2.2.1
def a4h:List PV->Option d7:=a0D 20
def Y7(n:Nat):List PV->Option d7:=(c7 n).2.2.2.2.2.2
def b29:MS:=
 (l0 (U0 [("Plain",t6),("Named",t5),("Beside",a4g),("Above",a5E),("Across",a4f),("Down",a64),("Turned",a4h),("Dyed",a65)] "cloth" (b0 0) (a8 (b0 1) b8)))
def Q1:List PV->Option d7:=m4 0 b29
def x8:MS:=
 (j0 (p0 7 (W3 2 (a4z [("size_step",T9),("cloth_step",Q1)] 1 (a8 (m2 k6 (b0 5) (W4 (mC (.int 1)))) (a8 (b0 2) (a8 (b0 4) b8))))))
 (j0 (Q4 3 (b0 7))
 (o9 (u6 (m2 gNe (m2 k6 (b0 5) (mC (.int 0))) (mC (.str "knot")))) (a3z 2 (m2 k6 (b0 5) (W4 (mC (.int 2)))) (b0 7)) l9)))
def x9:MS:=
 (j0 (o9 (R1 (u6 (m2 D0 (m2 k6 (b0 5) (mC (.int 0))) (mC (.str "again")))) (u6 (b1o true 2 (m2 k6 (b0 5) (mC (.int 2)))))) a3a l9)
 (S4 (M1 (a8 (j5 a1o (a8 (b0 5) b8)) b8)) (j6 6) x8))
def a1a:MS:=
 (j0 (p0 2 c2S)
 (j0 (p0 3 (N2 b8))
 (j0 (S4 (c35 (a8 (b0 0) b8)) (a7K [4,5]) x9)
 (N7 3))))
def V4:List PV->Option d7:=m4 6 a1a
def c2h:MS:=
 (l0 (j5 V4 (a8 (b0 0) (a8 (mC (a0L "size_step")) b8))))
def b3q:List PV->Option d7:=m4 0 c2h
def a3Q:MS:=
 (j0 (b45 (j5 b3q (a8 (b0 0) b8)))
 (l0 (m2 k6 (j5 V4 (a8 (b0 0) (a8 (b0 1) b8))) (W4 (mC (.int 1))))))
def a4j:List PV->Option d7:=m4 0 a3Q
def b8g:MS:=
 (l0 (j5 a4j (a8 (b0 0) (a8 (mC (a0L "cloth_step")) b8))))
def a5a:List PV->Option d7:=m4 0 b8g
def b59:MS:=
 (l0 (m2 k6 (N2 (a8 (mC (.int 6)) (a8 (mC (.int 9)) (a8 (mC (.int 6)) (a8 (mC (.int 12)) b8))))) (m2 (J2 (λ_ j=>0<j) λi j=> .int (i % j)) (m2 (J2 b0T λi j=> .int (i / j)) (j5 M6 (a8 (b0 0) (a8 (mC (.int 0)) b8))) (mC (.int 3))) (mC (.int 4)))))
def a6f:List PV->Option d7:=m4 0 b59
def a0g(E2:List PV->Option d7):M:=
 (j5 E2 (a8 (b0 6) (a8 (b0 1) b8)))
def a2a(E2:List PV->Option d7):M:=
 (m2 k6 (b0 6) (mC (.int 2)))
def a2b(E2:List PV->Option d7):M:=
 (m2 k6 (b0 6) (mC (.int 1)))
def a1d(E2:List PV->Option d7):MS:=
 (j0 (p0 2 (m2 k6 (b0 0) (mC (.int 0))))
 (j0 (o9 (Z1 (u6 (m2 D0 (b0 2) (mC (.str "plain")))) (u6 (m2 D0 (b0 2) (mC (.str "name"))))) (j0 (p0 3 (mIf (u6 (m2 D0 (b0 2) (mC (.str "name")))) (a3b 1 (m2 k6 (b0 0) (mC (.int 1)))) (m2 k6 (b0 0) (mC (.int 1)))))
 (l0 (u5 (a8 (mC (.str "plain")) (a8 (m1 B4 (b0 3)) (a8 (m1 B4 (m2 k6 (b0 3) (mC (.int 0)))) (a8 (b0 3) b8))))))) l9)
 (j0 (o9 (Z1 (u6 (m2 D0 (b0 2) (mC (.str "beside")))) (u6 (m2 D0 (b0 2) (mC (.str "above"))))) (j0 (p0 4 (F9 1 (v0 (m2 k6 (b0 0) (mC (.int 1)))) (j6 6) N8 (a0g E2)))
 (j0 (o9 (u6 (m2 D0 (b0 2) (mC (.str "beside")))) (b1n 4 (l0 (u5 (a8 (b0 2) (a8 (m2 k6 (m2 k6 (b0 4) (mC (.int 0))) (mC (.int 1))) (a8 (m1 c0z (F9 1 (v0 (b0 4)) (j6 6) N8 (a2a E2))) (a8 (b0 4) b8))))))) l9)
 (b1n 4 (l0 (u5 (a8 (b0 2) (a8 (m1 c0z (F9 1 (v0 (b0 4)) (j6 6) N8 (a2b E2))) (a8 (m2 k6 (m2 k6 (b0 4) (mC (.int 0))) (mC (.int 2))) (a8 (b0 4) b8))))))))) l9)
 (j0 (p0 5 (j5 E2 (a8 (m2 k6 (b0 0) (W4 (mC (.int 1)))) (a8 (b0 1) b8))))
 (j0 (o9 (u6 (m2 D0 (b0 2) (mC (.str "across")))) (l0 (u5 (a8 (b0 2) (a8 (m2 k6 (b0 5) (mC (.int 1))) (a8 (m2 r6 (m2 k6 (b0 5) (mC (.int 2))) (m2 k6 (b0 0) (mC (.int 1)))) (a8 (b0 5) b8)))))) l9)
 (j0 (o9 (u6 (m2 D0 (b0 2) (mC (.str "down")))) (l0 (u5 (a8 (b0 2) (a8 (m2 r6 (m2 k6 (b0 5) (mC (.int 1))) (m2 k6 (b0 0) (mC (.int 1)))) (a8 (m2 k6 (b0 5) (mC (.int 2))) (a8 (b0 5) b8)))))) l9)
 (j0 (o9 (u6 (m2 D0 (b0 2) (mC (.str "dye")))) (l0 (u5 (a8 (b0 2) (a8 (m2 k6 (b0 5) (mC (.int 1))) (a8 (m2 k6 (b0 5) (mC (.int 2))) (a8 (b0 5) (a8 (m2 k6 (b0 0) (mC (.int 1))) (a8 (m2 k6 (b0 0) (mC (.int 2))) b8)))))))) l9)
 (j0 (o9 (u6 (m2 (b1h false) (m2 k6 (b0 0) (mC (.int 1))) (N2 (a8 (mC (.str "turn")) (a8 (mC (.str "back")) (a8 (mC (.str "cross")) (a8 (mC (.str "other")) b8))))))) (l0 (u5 (a8 (m2 k6 (b0 0) (mC (.int 1))) (a8 (m2 k6 (b0 5) (mC (.int 2))) (a8 (m2 k6 (b0 5) (mC (.int 1))) (a8 (b0 5) b8)))))) l9)
 (l0 (u5 (a8 (m2 k6 (b0 0) (mC (.int 1))) (a8 (m2 k6 (b0 5) (mC (.int 1))) (a8 (m2 k6 (b0 5) (mC (.int 2))) (a8 (b0 5) b8))))))))))))))
def a8L:Nat->(List PV->Option d7)
 |0=>(m4 4 (λ_=>ζ))
 |n+1=>(m4 4 (a1d ((a8L n))))
def a4n(n:Nat):List PV->Option d7:=(a8L n)
def a6g:List PV->Option d7:=a4n 12
def A7:MS:=
 (j0 (p0 4 (m2 (gI λi j=> .int (i - j)) (m2 k6 (b0 1) (mC (.int 1))) (mC (.int 1))))
 (j0 (p0 5 (m2 (gI λi j=> .int (i - j)) (m2 k6 (b0 1) (mC (.int 2))) (mC (.int 1))))
 (j0 (o9 (u6 (m2 D0 (b0 0) (mC (.str "turn")))) (l0 (u5 (a8 (m2 (gI λi j=> .int (i - j)) (b0 4) (b0 3)) (a8 (b0 2) b8)))) l9)
 (j0 (o9 (u6 (m2 D0 (b0 0) (mC (.str "half")))) (l0 (u5 (a8 (m2 (gI λi j=> .int (i - j)) (b0 4) (b0 2)) (a8 (m2 (gI λi j=> .int (i - j)) (b0 5) (b0 3)) b8)))) l9)
 (j0 (o9 (u6 (m2 D0 (b0 0) (mC (.str "back")))) (l0 (u5 (a8 (b0 3) (a8 (m2 (gI λi j=> .int (i - j)) (b0 5) (b0 2)) b8)))) l9)
 (j0 (o9 (u6 (m2 D0 (b0 0) (mC (.str "side")))) (l0 (u5 (a8 (b0 2) (a8 (m2 (gI λi j=> .int (i - j)) (b0 5) (b0 3)) b8)))) l9)
 (j0 (o9 (u6 (m2 D0 (b0 0) (mC (.str "flip")))) (l0 (u5 (a8 (m2 (gI λi j=> .int (i - j)) (b0 4) (b0 2)) (a8 (b0 3) b8)))) l9)
 (j0 (o9 (u6 (m2 D0 (b0 0) (mC (.str "cross")))) (l0 (u5 (a8 (b0 3) (a8 (b0 2) b8)))) l9)
 (l0 (u5 (a8 (m2 (gI λi j=> .int (i - j)) (b0 4) (b0 3)) (a8 (m2 (gI λi j=> .int (i - j)) (b0 5) (b0 2)) b8))))))))))))
def a6e:List PV->Option d7:=m4 2 A7
def w8(A6 R_law_within:List PV->Option d7):MS:=
 (j0 (o9 (u6 (m2 D0 (m2 k6 (b0 0) (mC (.int 0))) (mC (.str "plain")))) (l0 (m2 k6 (m2 k6 (m2 k6 (b0 0) (mC (.int 3))) (b0 1)) (b0 2))) l9)
 (j0 (o9 (Z1 (u6 (m2 D0 (m2 k6 (b0 0) (mC (.int 0))) (mC (.str "beside")))) (u6 (m2 D0 (m2 k6 (b0 0) (mC (.int 0))) (mC (.str "above"))))) (l0 (j5 R_law_within (a8 (b0 0) (a8 (b0 1) (a8 (b0 2) b8))))) l9)
 (j0 (p0 3 (m2 k6 (b0 0) (mC (.int 3))))
 (j0 (o9 (Z1 (u6 (m2 D0 (m2 k6 (b0 0) (mC (.int 0))) (mC (.str "across")))) (u6 (m2 D0 (m2 k6 (b0 0) (mC (.int 0))) (mC (.str "down"))))) (l0 (j5 A6 (a8 (b0 3) (a8 (m2 (J2 (λ_ j=>0<j) λi j=> .int (i % j)) (b0 1) (m2 k6 (b0 3) (mC (.int 1)))) (a8 (m2 (J2 (λ_ j=>0<j) λi j=> .int (i % j)) (b0 2) (m2 k6 (b0 3) (mC (.int 2)))) b8))))) l9)
 (j0 (o9 (u6 (m2 D0 (m2 k6 (b0 0) (mC (.int 0))) (mC (.str "dye")))) (j0 (p0 4 (j5 A6 (a8 (b0 3) (a8 (b0 1) (a8 (b0 2) b8)))))
 (j0 (o9 (u6 (m2 D0 (b0 4) (m2 k6 (b0 0) (mC (.int 4))))) (l0 (m2 k6 (b0 0) (mC (.int 5)))) l9)
 (l0 (mIf (u6 (m2 D0 (b0 4) (m2 k6 (b0 0) (mC (.int 5))))) (m2 k6 (b0 0) (mC (.int 4))) (b0 4))))) l9)
 (j0 (p0 5 (j5 a6e (a8 (m2 k6 (b0 0) (mC (.int 0))) (a8 (b0 3) (a8 (b0 1) (a8 (b0 2) b8))))))
 (l0 (j5 A6 (a8 (b0 3) (a8 (m2 k6 (b0 5) (mC (.int 0))) (a8 (m2 k6 (b0 5) (mC (.int 1))) b8)))))))))))
def r8(A6 R_law_within:List PV->Option d7):MS:=
 (j0 (o9 (R1 (u6 (m2 a62 (b0 1) (m2 k6 (b0 3) (mC (.int 1))))) (u6 (m2 a62 (b0 2) (m2 k6 (b0 3) (mC (.int 2)))))) (l0 (j5 A6 (a8 (b0 3) (a8 (b0 1) (a8 (b0 2) b8))))) l9)
 (o9 (u6 (m2 D0 (m2 k6 (b0 0) (mC (.int 0))) (mC (.str "beside")))) (p0 2 (m2 (gI λi j=> .int (i - j)) (b0 2) (m2 k6 (b0 3) (mC (.int 2))))) (p0 1 (m2 (gI λi j=> .int (i - j)) (b0 1) (m2 k6 (b0 3) (mC (.int 1)))))))
def P8(A6 R_law_within:List PV->Option d7):MS:=
 (j0 (S4 (Y9 (m2 k6 (b0 0) (mC (.int 3)))) (j6 3) (r8 A6 R_law_within))
 (l0 (mC (.str ""))))
def U1:Nat->(List PV->Option d7)×(List PV->Option d7)
 |0=>(m4 3 (λ_=>ζ),m4 1 (λ_=>ζ))
 |n+1=>(m4 3 (w8 ((U1 n).1) ((U1 n).2)),m4 1 (P8 ((U1 n).1) ((U1 n).2)))
def D8(n:Nat):List PV->Option d7:=(U1 n).1
def a6h:List PV->Option d7:=D8 24
def J3(n:Nat):List PV->Option d7:=(U1 n).2
def V9:M:=
 (j5 a6h (a8 (b0 2) (a8 (b0 4) (a8 (b0 5) b8))))
def a4s:MS:=
 (Q4 3 (m2 a0t (mC (.str "")) (F9 1 (M1 (a8 (m2 k6 (b0 2) (mC (.int 2))) b8)) (j6 5) N8 V9)))
def a3S:MS:=
 (j0 (p0 2 (j5 a6g (a8 (b0 0) (a8 (b0 1) b8))))
 (j0 (p0 3 (N2 b8))
 (j0 (S4 (M1 (a8 (m2 k6 (b0 2) (mC (.int 1))) b8)) (j6 4) a4s)
 (l0 (m1 T0 (b0 3))))))
def a4l:List PV->Option d7:=m4 3 a3S
def A3:MS:=
 (j0 (Q4 2 (W2 a4l 1 (m2 k6 (b0 3) (W4 (mC (.int 1))))))
 (o9 (u6 (m2 gNe (m2 k6 (b0 3) (mC (.int 0))) (mC (.str "knot")))) (a3z 1 (m2 k6 (b0 3) (W4 (mC (.int 2)))) (m2 k6 (b0 2) (W4 (mC (.int 1))))) l9))
def A4:MS:=
 (j0 (p0 4 (mIf (u6 (m2 D0 (m2 k6 (b0 3) (mC (.int 0))) (mC (.str "again")))) (m2 k6 (b0 3) (mC (.int 1))) (mC (.int 1))))
 (S4 (M1 (a8 (b0 4) b8)) (j6 5) A3))
def a2Q:MS:=
 (j0 (p0 1 c2S)
 (j0 (p0 2 (N2 b8))
 (j0 (S4 (Y9 (b0 0)) (j6 3) A4)
 (N7 2))))
def a23:List PV->Option d7:=m4 5 a2Q
def a7f:MS:=
 (o9 (b2t (mtV (m1 (a4a "str") (b0 5)))) (l0 (mC (.bool false))) l9)
def b9S:MS:=
 (j0 (p0 1 (j5 a0e (a8 (b0 0) (a8 (mC (.int 21)) (a8 (j5 a6f (a8 (b0 0) b8)) b8)))))
 (j0 (b1n 1 (p0 2 (m2 k6 (j5 a23 (a8 (b0 1) b8)) (W4 (mC (.int 1))))))
 (j0 (b1n 1 (p0 3 (j5 a4k (a8 (b0 1) b8))))
 (j0 (b1n 3 (p0 4 (j5 a5a (a8 (b0 3) b8))))
 (j0 (o9 (Z1 (b2t (mtV (m1 (a4a "tuple") (b0 4)))) (u6 (m2 gNe (b0 4) (b0 2)))) (l0 (mC (.bool false))) l9)
 (j0 (S4 (Y9 (b0 4)) (j6 5) a7f)
 (b1n 3 (l0 (b6C (m2 D0 (m1 B4 (b0 3)) (m1 B4 (b0 1))) (m2 D0 (j5 a5a (a8 (b0 3) b8)) (b0 2)))))))))))
def c30:List PV->Option d7:=m4 5 b9S
set_option maxHeartbeats 1000000
structure c4f(rows:List (List Nat))(n m:Nat):Prop where
 len:rows.length=n
 wid:∀l∈rows,l.length=m
theorem c2B{l:List Nat}{m:Nat}(hl:l.length=m)(hm:m<=10000){j:Int}(h0:0<=j)(h1:j<m):k6 (.v (row l)) (.v (.int j))=ξ (.v (row [l.getD j.toNat 0])):=by
 have hk:j.toNat<l.length:=by lia
 refine c0t (by lia) ?_
 rw [b9R h0,Av hk];simp [List.getD,hk]
theorem b0N:∀(l:List Nat) (g:Nat->Nat),((l.map λc=>[g c]).map (·.length)).sum=l.length
 |[],_=>rfl
 |a::l,g=>by
  have:=b0N l g;simp only [AN,AX,Am,List.sum_cons] at this ⊢
  lia
theorem b8H(l:List Nat)(g:Nat->Nat):K7 [] (l.map λc=>[g c])=l.map g:=by
 rw [a68];have:(l.map λc=>[g c])=((l.map g).map λc=>[c]):=by rw [Ah];rfl
 rw [this,a1N]
theorem b6n{k:Nat}(hk:k<=10000)(g:Nat->Nat):a0t (.v (.str (S []))) (.own ((AT k).map λj=>row [g j]))=ξ (.v (row ((AT k).map g))):=by
 rw [a2Z (rows:=(AT k).map λj=>[g j]),b8H]
 ·show ξ _=ξ _;rw [Ah];rfl
 ·rw [b0N,Ak,AW,Ak];simp only [Am];lia
def lt1(c:Nat):Bool:=decide (97<=c)&& decide (c<=122)
theorem c2Q{x:Nat}:lt1 x=true↔97<=x/\x<=122:=by unfold lt1;simp
inductive Mo where
 |plain (rows:List (List Nat))|named (w:List Nat)|beside (ps:List Mo)|above (ps:List Mo)|across (k:Nat) (p:Mo)|down (k:Nat) (p:Mo)|turned (w:List Nat) (p:Mo)|dyed (a b:Nat) (p:Mo)
mutual
def t8:Mo->PV
 | .plain rows=>obV (AC "Plain") [(.str (AC "rows"),.tuple (rows.map row))]
 | .named w=>obV (AC "Named") [(.str (AC "name"),row w)]
 | .beside ps=>obV (AC "Beside") [(.str (AC "parts"),.tuple (b6T ps))]
 | .above ps=>obV (AC "Above") [(.str (AC "parts"),.tuple (b6T ps))]
 | .across k p=>obV (AC "Across") [(.str (AC "many"),.int (k:Nat)),(.str (AC "part"),t8 p)]
 | .down k p=>obV (AC "Down") [(.str (AC "many"),.int (k:Nat)),(.str (AC "part"),t8 p)]
 | .turned w p=>obV (AC "Turned") [(.str (AC "way"),row w),(.str (AC "part"),t8 p)]
 | .dyed a b p=>obV (AC "Dyed") [(.str (AC "one"),row [a]),(.str (AC "other"),row [b]),(.str (AC "part"),t8 p)]
def b6T:List Mo->List PV
 |[]=>[]
 |p::ps=>t8 p::b6T ps
end
theorem a7t:∀ps:List Mo,b6T ps=ps.map t8
 |[]=>by rw [b6T];rfl
 |p::ps=>by rw [b6T,a7t ps];rfl
def c3O:List Nat:=[98,101,115,105,100,101]
def c5J:List Nat:=[97,98,111,118,101]
def c3N:List Nat:=[97,99,114,111,115,115]
def c6w:List Nat:=[100,111,119,110]
def a0y:List (List Nat):=[[116,117,114,110],[104,97,108,102],[98,97,99,107],[115,105,100,101],[102,108,105,112],[99,114,111,115,115],[111,116,104,101,114]]
abbrev a7U:List (List Nat):=[[107],[115,116,97,121],[108,101,116],[107,110,111,116,115],[122,122]]
abbrev RF:=List PV->Option d7
theorem c0C(c:Nat)(a b:List Nat)(r:List (List Nat)):K7 [c] (a::b::r)=a++c::K7 [c] (b::r):=by
 show a++[c]++K7 [c] (b::r)=_;simp
theorem b4W(c:Nat):∀R:List (List Nat),R≠[]->(K7 [c] R).length+1=(R.map (·.length)).sum+R.length
 |[],h=>absurd rfl h
 |[a],_=>by simp [K7]
 |a::b::r,_=>by
  have:=b4W c (b::r) (by simp)
  rw [c0C];simp only [AY,AX,AN,List.sum_cons] at this ⊢
  lia
theorem a61{l:List Nat}(h:l.length<=10000):B4 (.v (row l))=ξ (.v (.int (l.length:Nat))):=by
 show(if(S l).length<=AM then ξ (d7.v (.int ((S l).length:Nat))) else ζ)=_
 rw [a2o,if_pos (by rw [sizeLine_eq];lia)]
def dg(k:Nat):List Nat:=if k<10 then [48+k] else [48+k / 10,48+k % 10]
theorem c5x{k:Nat}(hk:k<25):b8F (.v (.int (k:Nat)))=ξ (.v (row (dg k))):=by
 match k,hk with
 |0,_=>rfl
 |1,_=>rfl
 |2,_=>rfl
 |3,_=>rfl
 |4,_=>rfl
 |5,_=>rfl
 |6,_=>rfl
 |7,_=>rfl
 |8,_=>rfl
 |9,_=>rfl
 |10,_=>rfl
 |11,_=>rfl
 |12,_=>rfl
 |13,_=>rfl
 |14,_=>rfl
 |15,_=>rfl
 |16,_=>rfl
 |17,_=>rfl
 |18,_=>rfl
 |19,_=>rfl
 |20,_=>rfl
 |21,_=>rfl
 |22,_=>rfl
 |23,_=>rfl
 |24,_=>rfl
 |k+25,h=>lia
theorem c4q(k:Nat):1<=(dg k).length/\(dg k).length<=2:=by unfold dg;split<;>simp
mutual
def O0:Mo->List Nat
 | .plain rows=>[91]++K7 [47] rows++[93]
 | .named w=>w
 | .beside ps=>[98,101,115,105,100,101,40]++K7 [44,32] (a5t ps)++[41]
 | .above ps=>[97,98,111,118,101,40]++K7 [44,32] (a5t ps)++[41]
 | .across k p=>[97,99,114,111,115,115,40]++dg k++[44,32]++O0 p++[41]
 | .down k p=>[100,111,119,110,40]++dg k++[44,32]++O0 p++[41]
 | .turned w p=>w++[40]++O0 p++[41]
 | .dyed a b p=>[100,121,101,40]++[a]++[44,32]++[b]++[44,32]++O0 p++[41]
def a5t:List Mo->List (List Nat)
 |[]=>[]
 |p::ps=>O0 p::a5t ps
end
mutual
def t7:Mo->Nat
 | .plain _=>1
 | .named _=>1
 | .beside ps=>1+a1D ps
 | .above ps=>1+a1D ps
 | .across _ p=>1+t7 p
 | .down _ p=>1+t7 p
 | .turned _ p=>1+t7 p
 | .dyed _ _ p=>1+t7 p
def a1D:List Mo->Nat
 |[]=>0
 |p::ps=>max (t7 p) (a1D ps)
end
def okP(rows:List (List Nat)):Prop:=∃w,1<=w/\w<=3/\1<=rows.length/\rows.length<=3/\∀l∈rows,l.length=w
mutual
def y6:Mo->Prop
 | .plain rows=>okP rows
 | .named w=>w∈a7U
 | .beside ps=>2<=ps.length/\ps.length<=6/\a2E ps
 | .above ps=>2<=ps.length/\ps.length<=6/\a2E ps
 | .across k p=>1<=k/\k<=24/\y6 p
 | .down k p=>1<=k/\k<=24/\y6 p
 | .turned w p=>w∈a0y/\y6 p
 | .dyed a b p=>lt1 a=true/\lt1 b=true/\y6 p
def a2E:List Mo->Prop
 |[]=>True
 |p::ps=>y6 p/\a2E ps
end
theorem b0I:∀ps:List Mo,a5t ps=ps.map O0
 |[]=>by rw [a5t];rfl
 |p::ps=>by rw [a5t,b0I ps];rfl
theorem C5:∀{ps:List Mo} {p:Mo},a2E ps->p∈ps->y6 p
 |[],_,_,h=>by cases h
 |q::ps,p,h,hp=>by
  rw [a2E] at h;rcases Ab.mp hp with rfl|hp
  ·exact h.1
  ·exact C5 h.2 hp
theorem E4:∀{ps:List Mo} {p:Mo},p∈ps->t7 p<=a1D ps
 |[],_,h=>by cases h
 |q::ps,p,hp=>by
  rw [a1D];rcases Ab.mp hp with rfl|hp
  ·lia
  ·have:=E4 hp;lia
theorem a0d(m:Mo):1<=t7 m:=by cases m<;>rw [t7]<;>lia
theorem a25{sep:List Nat}:∀{ls:List (List Nat)} {l:List Nat},l∈ls->l.length<=(K7 sep ls).length
 |[],_,h=>by cases h
 |[x],l,h=>by rw [List.mem_singleton.mp h];simp [K7]
 |x::y::r,l,h=>by
  rcases Ab.mp h with rfl|h
  ·simp [K7]
  ·have:=a25 (sep:=sep) h;simp [K7];lia
theorem a90{sep:List Nat}:∀{ls:List (List Nat)},(ls.map (·.length)).sum+ls.length*sep.length<=(K7 sep ls).length+sep.length
 |[]=>by simp [K7]
 |[x]=>by simp [K7]
 |x::y::r=>by
  have:=a90 (sep:=sep) (ls:=y::r);simp only [K7,AN,List.sum_cons,AX,AY,Nat.add_mul,Nat.one_mul] at this ⊢
  lia
theorem a5e:∀{ps:List Mo},(∀p∈ps,y6 p)->a2E ps
 |[],_=>by rw [a2E];trivial
 |p::ps,h=>by rw [a2E];exact⟨h p AZ,a5e λq hq=>h q (Aa _ hq)⟩
theorem a45:∀{ps:List Mo} {k:Nat},(∀p∈ps,t7 p<=k)->a1D ps<=k
 |[],k,_=>by rw [a1D];lia
 |p::ps,k,h=>by
  have h1:=h p AZ;have h2:=a45 λq hq=>h q (Aa _ hq);rw [a1D]
  lia
theorem a6S:AC ", "=S [44,32]:=by decide+kernel
theorem b9n:AC ")"=S [41]:=by decide+kernel
theorem c0V:AC "("=S [40]:=by decide+kernel
theorem c6H:AC "["=S [91]:=by decide+kernel
theorem c2j:AC "]"=S [93]:=by decide+kernel
theorem c3E:AC "/"=S [47]:=by decide+kernel
theorem c2e{l k:List Nat}(h:l.length+k.length<=10000):y8 (.v (row l)) (.v (row k))=ξ (.v (row (l++k))):=c4B (by lia)
theorem ad{x y:M}{ρ:c5}{a b:List Nat}(hx:x ρ=ξ (.v (row a)))(hy:y ρ=ξ (.v (row b)))(h:a.length+b.length<=10000):m2 y8 x y ρ=ξ (.v (row (a++b))):=by
 unfold m2;rw [hx,hy];exact c2e h
theorem cst{z:String}{l:List Nat}(h:AC z=S l)(ρ:c5):mC (.str (AC z)) ρ=ξ (.v (row l)):=by
 unfold mC;rw [h]
theorem a1t{a b:List Nat}{n:Nat}(h:(a++b).length<=n):a.length+b.length<=n:=by rw [<-AY];exact h
theorem a5p{a b:List Nat}{n:Nat}(h:(a++b).length<=n):a.length<=n:=by rw [AY] at h;lia
theorem g6{i:Nat}{e:M}{n:MS}{ρ:c5}{p:PV}(h:e ρ=ξ (.v p)):j0 (p0 i e) n ρ=n (ρ.set i (ξ (.v p))):=by
 unfold j0 p0;rw [h]
 rfl
theorem l7{c:MT}{x:M}{n:MS}{ρ:c5}{p:PV}(hc:c ρ=ξ true)(hx:x ρ=ξ (.v p)):j0 (o9 c (l0 x) l9) n ρ=ξ (.rt (.v p)):=by
 unfold j0 o9;rw [hc];show((l0 x ρ).bind _)=_;unfold l0;rw [hx]
 rfl
theorem b7{c:MT}{x n:MS}{ρ:c5}(hc:c ρ=ξ false):j0 (o9 c x l9) n ρ=n ρ:=by
 unfold j0 o9;rw [hc]
 rfl
theorem n4{n:Nat}{b:MS}{ps:List PV}{r:d7}(h:b (ps.map (λp=>ξ (d7.v p))++AQ n ζ)=ξ (.rt r)):m4 n b ps=ξ r:=by
 unfold m4;rw [h]
 rfl
theorem a3A{c:MT}{x y:MS}{ρ:c5}(hc:c ρ=ξ true):o9 c x y ρ=x ρ:=by
 unfold o9;rw [hc];rfl
theorem a7i{c:MT}{x y:MS}{ρ:c5}(hc:c ρ=ξ false):o9 c x y ρ=y ρ:=by
 unfold o9;rw [hc];rfl
theorem X5{i:Nat}{e:M}{ρ:c5}{p:PV}(h:e ρ=ξ (.v p)):p0 i e ρ=ξ (.nx (ρ.set i (ξ (.v p)))):=by
 unfold p0;rw [h]
 rfl
theorem Y4{it:MI}{tg:PV->c5->Option c5}{body n:MS}{ρ ρ':c5}{ps:List PV}(h1:it ρ=ξ ps)(h2:z9 body tg ps ρ=ξ (.nx ρ')):j0 (S4 it tg body) n ρ=n ρ':=by
 unfold j0 S4;rw [h1,AO,h2]
 rfl
theorem a7u{n i:Nat}{p:PV}(h:((AT n).map λk=>PyData.int (k:Nat))[i]?=ξ p):p= .int (i:Nat)/\i<n:=by
 rw [Ao] at h
 by_cases hi:i<n
 ·rw [List.getElem?_range hi] at h;exact⟨(Option.some.inj h).symm,hi⟩
 ·rw [List.getElem?_eq_none (by simpa using hi)] at h
  cases h
theorem c4I{ns:List Int}{i:Nat}(h:i<ns.length):∃c:Int,k6 (.v (.list (ns.map .int))) (.v (.int (i:Nat)))=ξ (.v (.int c)):=by
 refine⟨ns[i], ?_⟩;show((L2.atI (ns.map PyData.int) (i:Nat)).map d7.v)=_;rw [b14,Ao,Av h]
 rfl
theorem md{a b:M}{ρ:c5}{x k:Int}(h:a ρ=ξ (.v (.int x)))(hb:b ρ=ξ (.v (.int k)))(hk:0<k):m2 (J2 (λ_ j=>0<j) λi j=> .int (i % j)) a b ρ=ξ (.v (.int (x % k))):=by
 unfold m2;rw [h,hb];show(if okC (λ_ j=>0<j) x k=true then ξ (d7.v (.int (x % k))) else ζ)=_
 rw [if_pos (a0j (C:=λ_ j=>0<j).mpr hk)]
theorem ml{a:M}{ρ:c5}{x k:Int}(h:a ρ=ξ (.v (.int x)))(hk: -18446744073709551616<k/\k<18446744073709551616):m2 r6 a (mC (.int k)) ρ=ξ (.v (.int (x*k))):=by
 unfold m2;rw [h];exact b7s hk
theorem N5{g:RF}{x:M}{ρ:c5}{p:PV}(h:x ρ=ξ (.v p)):j5 g (a8 x b8) ρ=g [p]:=by
 unfold j5 a8;rw [h]
 rfl
theorem c3V{g:RF}{x y z:M}{ρ:c5}{p q r:PV}(h1:x ρ=ξ (.v p))(h2:y ρ=ξ (.v q))(h3:z ρ=ξ (.v r)):j5 g (a8 x (a8 y (a8 z b8))) ρ=g [p,q,r]:=by
 unfold j5 a8;rw [h1,h2,h3]
 rfl
theorem G0{g:d7->d7->Option d7}{x y:M}{ρ:c5}{r q:d7}{b:Bool}(h1:x ρ=ξ r)(h2:y ρ=ξ q)(h:g r q=ξ (.v (.bool b))):u6 (m2 g x y) ρ=ξ b:=by
 unfold u6 m2;rw [h1,h2];show(g r q).bind _=_;rw [h]
 rfl
theorem M3{c:MT}{b n:MS}{ρ:c5}{r:d7}(hc:c ρ=ξ true)(hb:b ρ=ξ (.rt r)):j0 (o9 c b l9) n ρ=ξ (.rt r):=by
 unfold j0 o9;rw [hc];show(b ρ).bind _=_;rw [hb]
 rfl
theorem G1{x:M}{ρ:c5}{p:PV}(h:x ρ=ξ (.v p)):l0 x ρ=ξ (.rt (.v p)):=by
 unfold l0;rw [h]
 rfl
theorem O6{g:RF}{x y:M}{ρ:c5}{p q:PV}(h1:x ρ=ξ (.v p))(h2:y ρ=ξ (.v q)):j5 g (a8 x (a8 y b8)) ρ=g [p,q]:=by
 unfold j5 a8;rw [h1,h2]
 rfl
theorem c48{a b:MT}{ρ:c5}(h1:a ρ=ξ false)(h2:b ρ=ξ false):Z1 a b ρ=ξ false:=by
 unfold Z1;rw [h1];exact h2
theorem c51{a:MT}{ρ:c5}(h:a ρ=ξ true):b2t a ρ=ξ false:=by
 unfold b2t;rw [h]
 rfl
theorem b1Y{x:M}{ρ:c5}{b:Bool}(h:x ρ=ξ (.v (.bool b))):mtV x ρ=ξ b:=by
 unfold mtV;rw [h]
 rfl
theorem Q8{i:Nat}{e:M}{n:MS}{ρ:c5}{l:List PV}(h:e ρ=ξ (.own l)):j0 (p0 i e) n ρ=n (ρ.set i (ξ (.own l))):=by
 unfold j0 p0;rw [h]
 rfl
theorem c5O{x y:M}{ρ:c5}{r:d7}(h:x ρ=ξ (.v (.bool true)))(h2:y ρ=ξ r):b6C x y ρ=ξ r:=by
 unfold b6C;rw [h];exact h2
mutual
def j9:Mo->PV
 | .plain rows=> .tuple [.str (AC "plain"),.tuple (rows.map row)]
 | .named w=> .tuple [.str (AC "name"),row w]
 | .beside ps=> .tuple [.str (AC "beside"),.list (a4Z ps)]
 | .above ps=> .tuple [.str (AC "above"),.list (a4Z ps)]
 | .across k p=> .tuple [.str (AC "across"),.int (k:Nat),j9 p]
 | .down k p=> .tuple [.str (AC "down"),.int (k:Nat),j9 p]
 | .turned w p=> .tuple [.str (AC "turned"),row w,j9 p]
 | .dyed a b p=> .tuple [.str (AC "dye"),row [a],row [b],j9 p]
def a4Z:List Mo->List PV
 |[]=>[]
 |p::ps=>j9 p::a4Z ps
end
theorem X2:∀ps:List Mo,a4Z ps=ps.map j9
 |[]=>by rw [a4Z];rfl
 |p::ps=>by rw [a4Z,X2 ps];rfl
theorem c3Q{z:String}{l:List Nat}{a:Option d7}{ρ:c5}(h:AC z=S l):b0 1 (a::ξ (.v (.str (AC z)))::ρ)=ξ (.v (row l)):=by
 rw [h]
 rfl
theorem up4{n:Nat}(h:n<=4000):n<=10000:=by lia
section
variable {R:RF}
theorem c33{ps:List Mo}{w:PV}(hp:ps.length<=6)(h:∀p∈ps,R [j9 p]=ξ (.v (row (O0 p))))(hl:(K7 [44,32] (ps.map O0)).length<=4000)(ww:PV):
 m2 a0t (mC (.str (AC ", "))) (F9 1 (v0 (m2 k6 (b0 0) (mC (.int 1)))) (j6 2) N8 (a0i R)) [ξ (.v (.tuple [w,.list (ps.map j9)])),ξ (.v ww)]=ξ (.v (row (K7 [44,32] (ps.map O0)))):=by
 have cm:=C2 (ι:=j9) (f:=λp=>row (O0 p)) (k:=1) (it:=v0 (m2 k6 (b0 0) (mC (.int 1)))) (tg:=j6 2) (elt:=a0i R) (ρ:=[ξ (.v (.tuple [w,.list (ps.map j9)])),ξ (.v ww)]) ps rfl (by lia) λp hp=>by
  refine⟨[ξ (.v (.tuple [w,.list (ps.map j9)])),ξ (.v ww),ξ (.v (j9 p))],rfl, ?_⟩;unfold a0i;rw [(N5 rfl).trans (h p hp)]
  rfl
 have jn:=a2Z (sep:=[44,32]) (rows:=ps.map O0) (y:= .own (ps.map λp=>row (O0 p))) (by show ξ _=ξ _;rw [Ah];rfl) (by have:=a90 (sep:=[44,32]) (ls:=ps.map O0);simp only [AX,Am] at this ⊢;lia)
 unfold m2
 rw [cst a6S,AO]
 refine(congrArg (λo=>Option.bind o λy=>a0t (.v (row [44,32])) y) cm).trans ?_
 exact jn
theorem c5Z{k:Nat}{x:M}{ρ:c5}(hk:k<=24)(h:x ρ=ξ (.v (.int (k:Nat)))):m1 b8F x ρ=ξ (.v (row (dg k))):=by
 show(x ρ).bind b8F=_;rw [h];exact c5x (by lia)
theorem b6B(m:Mo)(ok:y6 m)(hl:(O0 m).length<=4000)(ih:∀p,y6 p->t7 p<t7 m->(O0 p).length<=4000->R [j9 p]=ξ (.v (row (O0 p)))):m4 1 (a1f R) [j9 m]=ξ (.v (row (O0 m))):=by
 refine n4 ?_;show a1f R [ξ (.v (j9 m)),ζ]=_;unfold a1f;cases m with
 |plain rows=>
  ext r
  rw [j9,g6 (p:= .str (AC "plain")) rfl];rw [O0] at hl ⊢;have h2:=a5p hl;have jn:=a2Z (sep:=[47]) (rows:=rows) (y:= .v (.tuple (rows.map row))) rfl (by have:=a90 (sep:=[47]) (ls:=rows);rw [AY] at h2;simp only [AX,Am] at this h2 ⊢;lia)
  refine l7 rfl (ad (ad (cst c6H _) ?_ (up4 (a1t h2))) (cst c2j _) (up4 (a1t hl)));show(mC (.str (AC "/")) _).bind (λx=>Option.bind _ λy=>a0t x y)=_;rw [cst c3E];exact jn
 |named w=>
  rw [j9,g6 (p:= .str (AC "name")) rfl,b7 rfl,O0];exact l7 rfl rfl
 |beside ps=>
  ext r
  have d:t7 (.beside ps)=1+a1D ps:=by rw [t7]
  rw [j9,X2,g6 (p:= .str (AC "beside")) rfl,b7 rfl,b7 rfl];rw [O0,b0I] at hl ⊢;have h2:=a5p hl;have h3:(K7 [44,32] (ps.map O0)).length<=4000:=by rw [AY] at h2;lia
  exact l7 rfl (ad (ad (ad (a:=c3O) (b:=[40]) (c3Q (by decide+kernel)) (cst c0V _) (by decide)) (c33 ok.2.1 (λp hp=>ih p (C5 ok.2.2 hp) (by have:=E4 hp;lia) (by have:=a25 (sep:=[44,32]) (List.mem_map_of_mem (f:=O0) hp);lia)) h3 _) (up4 (a1t h2))) (cst b9n _) (up4 (a1t hl)))
 |above ps=>
  ext r
  have d:t7 (.above ps)=1+a1D ps:=by rw [t7]
  rw [j9,X2,g6 (p:= .str (AC "above")) rfl,b7 rfl,b7 rfl];rw [O0,b0I] at hl ⊢;have h2:=a5p hl;have h3:(K7 [44,32] (ps.map O0)).length<=4000:=by rw [AY] at h2;lia
  exact l7 rfl (ad (ad (ad (a:=c5J) (b:=[40]) (c3Q (by decide+kernel)) (cst c0V _) (by decide)) (c33 ok.2.1 (λp hp=>ih p (C5 ok.2.2 hp) (by have:=E4 hp;lia) (by have:=a25 (sep:=[44,32]) (List.mem_map_of_mem (f:=O0) hp);lia)) h3 _) (up4 (a1t h2))) (cst b9n _) (up4 (a1t hl)))
 |across k p=>
  ext r
  have d:t7 (.across k p)=1+t7 p:=by rw [t7]
  rw [j9,g6 (p:= .str (AC "across")) rfl,b7 rfl,b7 rfl,b7 rfl];rw [O0] at hl ⊢;have l1:=a5p hl;have l2:=a5p l1;have l3:=a5p l2;have ip:=ih p ok.2.2 (by lia) (by simp only [AY] at hl;lia)
  exact l7 rfl (ad (ad (ad (ad (ad (a:=c3N) (b:=[40]) (c3Q (by decide+kernel)) (cst c0V _) (by decide)) (c5Z ok.2.1 rfl) (up4 (a1t l3))) (cst a6S _) (up4 (a1t l2))) ((N5 rfl).trans ip) (up4 (a1t l1))) (cst b9n _) (up4 (a1t hl)))
 |down k p=>
  ext r
  have d:t7 (.down k p)=1+t7 p:=by rw [t7]
  rw [j9,g6 (p:= .str (AC "down")) rfl,b7 rfl,b7 rfl,b7 rfl];rw [O0] at hl ⊢;have l1:=a5p hl;have l2:=a5p l1;have l3:=a5p l2;have ip:=ih p ok.2.2 (by lia) (by simp only [AY] at hl;lia)
  exact l7 rfl (ad (ad (ad (ad (ad (a:=c6w) (b:=[40]) (c3Q (by decide+kernel)) (cst c0V _) (by decide)) (c5Z ok.2.1 rfl) (up4 (a1t l3))) (cst a6S _) (up4 (a1t l2))) ((N5 rfl).trans ip) (up4 (a1t l1))) (cst b9n _) (up4 (a1t hl)))
 |turned w p=>
  ext r
  have d:t7 (.turned w p)=1+t7 p:=by rw [t7]
  rw [j9,g6 (p:= .str (AC "turned")) rfl,b7 rfl,b7 rfl,b7 rfl,b7 rfl];rw [O0] at hl ⊢;have l1:=a5p hl;have l2:=a5p l1;have ip:=ih p ok.2 (by lia) (by simp only [AY] at hl;lia)
  exact l7 rfl (ad (ad (ad (a:=w) rfl (cst c0V _) (up4 (a1t l2))) ((N5 rfl).trans ip) (up4 (a1t l1))) (cst b9n _) (up4 (a1t hl)))
 |dyed a b p=>
  ext r
  have d:t7 (.dyed a b p)=1+t7 p:=by rw [t7]
  rw [j9,g6 (p:= .str (AC "dye")) rfl,b7 rfl,b7 rfl,b7 rfl,b7 rfl,b7 rfl];rw [O0] at hl ⊢;have l1:=a5p hl;have l2:=a5p l1;have l3:=a5p l2;have l4:=a5p l3;have l5:=a5p l4;have ip:=ih p ok.2.2 (by lia) (by simp only [AY] at hl;lia)
  have e:=ad (ad (ad (ad (ad (ad (x:=mC (.str (AC "dye("))) (y:=m2 k6 (b0 0) (mC (.int 1))) (ρ:=[ξ (.v (.tuple [.str (AC "dye"),row [a],row [b],j9 p])),ξ (.v (.str (AC "dye")))]) (cst (l:=[100,121,101,40]) (by decide+kernel) _) (b:=[a]) rfl (up4 (a1t l5))) (cst a6S _) (up4 (a1t l4))) (y:=m2 k6 (b0 0) (mC (.int 2))) (b:=[b]) rfl (up4 (a1t l3))) (cst a6S _) (up4 (a1t l2))) ((N5 (g:=R) (x:=m2 k6 (b0 0) (mC (.int 3))) rfl).trans ip) (up4 (a1t l1))) (cst b9n _) (up4 (a1t hl))
  show l0 _ _=_;unfold l0;refine(congrArg (λo=>Option.bind o _) e).trans rfl
end
theorem b42:∀(n:Nat) (m:Mo),y6 m->t7 m<=n->(O0 m).length<=4000->a4p n [j9 m]=ξ (.v (row (O0 m)))
 |0,m,_,h,_=>by have:=a0d m;lia
 |n+1,m,ok,h,hl=>b6B m ok hl λp okp hp hlp=>b42 n p okp (by lia) hlp
theorem mlv{a b:M}{ρ:c5}{x k:Int}(h:a ρ=ξ (.v (.int x)))(hb:b ρ=ξ (.v (.int k)))(hk: -18446744073709551616<k/\k<18446744073709551616):m2 r6 a b ρ=ξ (.v (.int (x*k))):=by
 unfold m2;rw [h,hb];exact b7s hk
theorem adI{a b:M}{ρ:c5}{x y:Int}(h:a ρ=ξ (.v (.int x)))(hb:b ρ=ξ (.v (.int y))):m2 y8 a b ρ=ξ (.v (.int (x+y))):=by
 unfold m2;rw [h,hb]
 rfl
theorem J7{g:d7->d7->Option d7}{x y:M}{ρ:c5}{r q s:d7}(h1:x ρ=ξ r)(h2:y ρ=ξ q)(h:g r q=ξ s):m2 g x y ρ=ξ s:=by
 unfold m2;rw [h1,h2];exact h
theorem one{g:d7->Option d7}{x:M}{ρ:c5}{r s:d7}(h1:x ρ=ξ r)(h:g r=ξ s):m1 g x ρ=ξ s:=by
 unfold m1;rw [h1];exact h
abbrev sml(t:List Nat):Prop:=∀x∈t,lt1 x=true
theorem b6y(N:Int)(ρ:c5):∃al:List Nat,1<=al.length/\al.length<=26/\sml al/\P5 (mC (.str (AC "abcdefghijklmnopqrstuvwxyz"))) T3 (R5 (m2 k6 (N2 (a8 (mC (.int 2)) (a8 (mC (.int 4)) (a8 (mC (.int 26)) b8)))) (m2 (J2 (λ_ j=>0<j) λi j=> .int (i % j)) (b0 0) (mC (.int 3))))) (ξ (.v (.int N))::ρ)=ξ (.v (row al)):=by
 have e:m2 (J2 (λ_ j=>0<j) λi j=> .int (i % j)) (b0 0) (mC (.int 3)) (ξ (.v (.int N))::ρ)=ξ (.v (.int (N % 3))):=md rfl rfl (by lia)
 have go:∀(al:List Nat) (k:Int),k6 (.own [.int 2,.int 4,.int 26]) (.v (.int (N % 3)))=ξ (.v (.int k))->gSl (.v (.str (AC "abcdefghijklmnopqrstuvwxyz"))) ζ (ξ k)=ξ (.v (row al))->P5 (mC (.str (AC "abcdefghijklmnopqrstuvwxyz"))) T3 (R5 (m2 k6 (N2 (a8 (mC (.int 2)) (a8 (mC (.int 4)) (a8 (mC (.int 26)) b8)))) (m2 (J2 (λ_ j=>0<j) λi j=> .int (i % j)) (b0 0) (mC (.int 3))))) (ξ (.v (.int N))::ρ)=ξ (.v (row al)):=λal k h1 h2=>by
  have ei:m2 k6 (N2 (a8 (mC (.int 2)) (a8 (mC (.int 4)) (a8 (mC (.int 26)) b8)))) (m2 (J2 (λ_ j=>0<j) λi j=> .int (i % j)) (b0 0) (mC (.int 3))) (ξ (.v (.int N))::ρ)=ξ (.v (.int k)):=J7 (r:= .own [.int 2,.int 4,.int 26]) rfl e h1;unfold P5 R5;rw [ei];exact h2
 have:N % 3=0\/N % 3=1\/N % 3=2:=by lia
 rcases this with h|h|h
 ·exact⟨[97,98],by decide,by decide,by decide,go _ 2 (by rw [h];rfl) (by rfl)⟩
 ·exact⟨[97,98,99,100],by decide,by decide,by decide,go _ 4 (by rw [h];rfl) (by rfl)⟩
 ·exact⟨[97,98,99,100,101,102,103,104,105,106,107,108,109,110,111,112,113,114,115,116,117,118,119,120,121,122],by decide,by decide,by decide,go _ 26 (by rw [h];rfl) (by rfl)⟩
theorem c1r{N:Int}{R:List PV}{al:List Nat}(a1:1<=al.length)(a2:al.length<=26)(a3:sml al){w r:Nat}(hr:r<=3){t:List Nat}(ht:t.length<=100)(st:sml t){c:Nat}(hc:c<=3)(q7:Option d7):∃(q7':Option d7) (x:Nat),lt1 x=true/\
 V7 [ξ (.v (.int N)),ξ (.own R),ξ (.v (row al)),ξ (.v (.int (w:Nat))),ξ (.v (.int (r:Nat))),ξ (.v (row t)),ξ (.v (.int (c:Nat))),q7]=ξ (.nx [ξ (.v (.int N)),ξ (.own R),ξ (.v (row al)),ξ (.v (.int (w:Nat))),ξ (.v (.int (r:Nat))),ξ (.v (row (t++[x]))),ξ (.v (.int (c:Nat))),q7']):=by
 obtain⟨M,hM⟩:∃M:Int,M=N*(2*(r:Nat)+3*(c:Nat)+69621) % 1000003:=⟨_,rfl⟩
 have e1:m2 (J2 (λ_ j=>0<j) λi j=> .int (i % j)) (m2 r6 (b0 0) (m2 y8 (m2 y8 (m2 r6 (mC (.int 2)) (b0 4)) (m2 r6 (mC (.int 3)) (b0 6))) (mC (.int 69621)))) (mC (.int 1000003)) [ξ (.v (.int N)),ξ (.own R),ξ (.v (row al)),ξ (.v (.int (w:Nat))),ξ (.v (.int (r:Nat))),ξ (.v (row t)),ξ (.v (.int (c:Nat))),q7]=ξ (.v (.int M)):=by
  rw [hM];exact md (mlv rfl (adI (adI (mlv rfl rfl (by lia)) (mlv rfl rfl (by lia))) rfl) (by lia)) rfl (by lia)
 have e2:m2 (J2 (λ_ j=>0<j) λi j=> .int (i % j)) (b0 7) (m1 B4 (b0 2)) [ξ (.v (.int N)),ξ (.own R),ξ (.v (row al)),ξ (.v (.int (w:Nat))),ξ (.v (.int (r:Nat))),ξ (.v (row t)),ξ (.v (.int (c:Nat))),ξ (.v (.int M))]=ξ (.v (.int (M %(al.length:Nat)))):=md rfl (one rfl (a61 (by lia))) (by lia)
 have hj0:0<=M %(al.length:Nat):=Int.emod_nonneg _ (by lia)
 have hj1:M %(al.length:Nat)<(al.length:Nat):=Int.emod_lt_of_pos _ (by lia)
 have e3:=c2B (l:=al) (m:=al.length) rfl (by lia) hj0 hj1
 have hx:lt1 (al.getD (M %(al.length:Nat)).toNat 0)=true:=by
  have hk:(M %(al.length:Nat)).toNat<al.length:=by lia
  rw [List.getD_eq_getElem?_getD,Av hk];exact a3 _ (List.getElem_mem hk)
 refine⟨ξ (.v (.int M)),_,hx, ?_⟩
 unfold V7
 rw [g6 e1]
 exact X5 (ad rfl (J7 rfl e2 e3) (by simp;lia))
theorem c1Q{t:List Nat}{x:Nat}(h:sml t)(hx:lt1 x=true):sml (t++[x]):=λy hy=>by
 rcases Ax.mp hy with h1|h1
 ·exact h y h1
 ·rw [List.mem_singleton.mp h1];exact hx
theorem b9h{N:Int}{R:List PV}{al:List Nat}(a1:1<=al.length)(a2:al.length<=26)(a3:sml al){w r:Nat}(hw:w<=3)(hr:r<=3)(hR:R.length<=100)(q5 q6 q7:Option d7):∃(t:List Nat) (q6' q7':Option d7),t.length=w/\sml t/\
 V8 [ξ (.v (.int N)),ξ (.own R),ξ (.v (row al)),ξ (.v (.int (w:Nat))),ξ (.v (.int (r:Nat))),q5,q6,q7]=ξ (.nx [ξ (.v (.int N)),ξ (.own (R++[row t])),ξ (.v (row al)),ξ (.v (.int (w:Nat))),ξ (.v (.int (r:Nat))),ξ (.v (row t)),q6',q7']):=by
 have e0:M1 (a8 (b0 3) b8) [ξ (.v (.int N)),ξ (.own R),ξ (.v (row al)),ξ (.v (.int (w:Nat))),ξ (.v (.int (r:Nat))),ξ (.v (row [])),q6,q7]=ξ ((AT w).map λk=> .int (k:Nat)):=L0 rfl (by lia)
 obtain⟨ρ',e4,t,q6',q7',h1,h2,rfl⟩:=a2z (body:=V7) (tg:=j6 6) (λj ρ=>∃(t:List Nat) (q6 q7:Option d7),t.length=j/\sml t/\ρ=[ξ (.v (.int N)),ξ (.own R),ξ (.v (row al)),ξ (.v (.int (w:Nat))),ξ (.v (.int (r:Nat))),ξ (.v (row t)),q6,q7])
  (ps:=(AT w).map λk=> .int (k:Nat)) (ρ:=[ξ (.v (.int N)),ξ (.own R),ξ (.v (row al)),ξ (.v (.int (w:Nat))),ξ (.v (.int (r:Nat))),ξ (.v (row [])),q6,q7])
  (by
   rintro j p hp ρ ⟨t,q6,q7,h1,h2,rfl⟩;obtain⟨rfl,hj⟩:=a7u hp;obtain⟨q7',x,hx,eb⟩:=c1r (N:=N) (R:=R) a1 a2 a3 (w:=w) hr (t:=t) (by lia) h2 (c:=j) (by lia) q7
   exact a7J (ρ1:=[ξ (.v (.int N)),ξ (.own R),ξ (.v (row al)),ξ (.v (.int (w:Nat))),ξ (.v (.int (r:Nat))),ξ (.v (row t)),ξ (.v (.int (j:Nat))),q7]) rfl eb ⟨_,_,_,by rw [AY,h1];rfl,c1Q h2 hx,rfl⟩)
  ⟨[],q6,q7,rfl,(λx hx=>nomatch hx),rfl⟩
 rw [AW,Ak] at h1
 refine⟨t,q6',q7',h1,h2, ?_⟩
 unfold V8
 refine(g6 (p:=row []) (by rfl)).trans ?_
 refine(Y4 e0 e4).trans ?_
 show(if R.length<AM then ξ (Fl.nx _) else ζ)=_
 rw [if_pos (by rw [sizeLine_eq];lia)]
 rfl
theorem c1s(N:Int):∃rows:List (List Nat),okP rows/\(K7 [47] rows).length<=11/\a1Q [.int N]=ξ (.v (j9 (.plain rows))):=by
 obtain⟨w,hw0,hw1,hw⟩:∃w:Nat,1<=w/\w<=3/\((w:Nat):Int)=1+N*16807 % 999979 % 3:=⟨(1+N*16807 % 999979 % 3).toNat,by lia,by lia,by lia⟩
 obtain⟨n,hn0,hn1,hn⟩:∃n:Nat,1<=n/\n<=3/\((n:Nat):Int)=1+N*48271 % 999983 % 3:=⟨(1+N*48271 % 999983 % 3).toNat,by lia,by lia,by lia⟩
 obtain⟨al,a1,a2,a3,ea⟩:=b6y N [ξ (.own []),ζ,ζ,ζ,ζ,ζ,ζ];have e3:m2 y8 (mC (.int 1)) (m2 (J2 (λ_ j=>0<j) λi j=> .int (i % j)) (m2 (J2 (λ_ j=>0<j) λi j=> .int (i % j)) (m2 r6 (b0 0) (mC (.int 16807))) (mC (.int 999979))) (mC (.int 3))) [ξ (.v (.int N)),ξ (.own []),ξ (.v (row al)),ζ,ζ,ζ,ζ,ζ]=ξ (.v (.int (w:Nat))):=by
  rw [hw];exact adI rfl (md (md (ml rfl (by lia)) rfl (by lia)) rfl (by lia))
 have e4:M1 (a8 (m2 y8 (mC (.int 1)) (m2 (J2 (λ_ j=>0<j) λi j=> .int (i % j)) (m2 (J2 (λ_ j=>0<j) λi j=> .int (i % j)) (m2 r6 (b0 0) (mC (.int 48271))) (mC (.int 999983))) (mC (.int 3)))) b8) [ξ (.v (.int N)),ξ (.own []),ξ (.v (row al)),ξ (.v (.int (w:Nat))),ζ,ζ,ζ,ζ]=ξ ((AT n).map λk=> .int (k:Nat)):=by
  refine L0 ?_ (by lia)
  rw [hn];exact adI rfl (md (md (ml rfl (by lia)) rfl (by lia)) rfl (by lia))
 obtain⟨ρ',e5,rows,q4,q5,q6,q7,h1,h2,rfl⟩:=a2z (body:=V8) (tg:=j6 4) (λj ρ=>∃(rows:List (List Nat)) (q4 q5 q6 q7:Option d7),rows.length=j/\(∀t∈rows,t.length=w/\sml t)/\ρ=[ξ (.v (.int N)),ξ (.own (rows.map row)),ξ (.v (row al)),ξ (.v (.int (w:Nat))),q4,q5,q6,q7])
  (ps:=(AT n).map λk=> .int (k:Nat)) (ρ:=[ξ (.v (.int N)),ξ (.own []),ξ (.v (row al)),ξ (.v (.int (w:Nat))),ζ,ζ,ζ,ζ])
  (by
   rintro j p hp ρ ⟨rows,q4,q5,q6,q7,h1,h2,rfl⟩;obtain⟨rfl,hj⟩:=a7u hp;obtain⟨t,q6',q7',ht1,ht2,eb⟩:=b9h (N:=N) (R:=rows.map row) a1 a2 a3 (w:=w) hw1 (r:=j) (by lia) (by rw [AW];lia) q5 q6 q7
   refine a7J (ρ1:=[ξ (.v (.int N)),ξ (.own (rows.map row)),ξ (.v (row al)),ξ (.v (.int (w:Nat))),ξ (.v (.int (j:Nat))),q5,q6,q7]) rfl eb ⟨rows++[t],_,_,_,_,by rw [AY,h1];rfl,λx hx=> ?_,by rw [Au];rfl⟩
   rcases Ax.mp hx with h|h
   ·exact h2 x h
   ·rw [List.mem_singleton.mp h];exact⟨ht1,ht2⟩)
  ⟨[],ζ,ζ,ζ,ζ,rfl,(λ_ h=>by cases h),rfl⟩
 rw [AW,Ak] at h1;have okc:okP rows:=⟨w,hw0,hw1,by lia,by lia,λl hl=>(h2 l hl).1⟩
 refine⟨rows,okc, ?_, ?_⟩
 ·have hg:=b4W 47 rows (by intro e;rw [e] at h1;simp at h1;lia)
  have hs:(rows.map (·.length)).sum<=rows.length*3:=by
   have:∀l:List (List Nat),(∀t∈l,t.length=w/\sml t)->(l.map (·.length)).sum<=l.length*3:=λl=>by
    induction l with
    |nil=>intro _;simp
    |cons a l ih=>
     intro h;have:=ih λt ht=>h t (Aa _ ht);have:=(h a AZ).1;simp only [AN,List.sum_cons,AX]
     lia
   exact this rows h2
  lia
 ·refine n4 (n:=7) ?_;show a3U [ξ (.v (.int N)),ζ,ζ,ζ,ζ,ζ,ζ,ζ]=_;unfold a3U;refine(Q8 (l:=[]) (by rfl)).trans ?_
  refine(g6 ea).trans ?_;refine(g6 e3).trans ?_;refine(Y4 e4 e5).trans ?_;refine G1 ?_;rw [j9];have et:m1 T0 (b0 1) [ξ (.v (.int N)),ξ (.own (rows.map row)),ξ (.v (row al)),ξ (.v (.int (w:Nat))),q4,q5,q6,q7]=ξ (.v (.tuple (rows.map row))):=by
   refine one (r:= .bor (rows.map row)) rfl ?_
   rfl
  unfold u5 a8;rw [et]
  rfl
theorem c6u{x y:M}{ρ:c5}{p:PV}{qs:List PV}(h1:x ρ=ξ (.v p))(h2:y ρ=ξ (.own qs)):u5 (a8 x (a8 y b8)) ρ=ξ (.v (.tuple [p,.list qs])):=by
 unfold u5 a8;rw [h1,h2]
 rfl
theorem dv{a b:M}{ρ:c5}{x k:Int}(h:a ρ=ξ (.v (.int x)))(hb:b ρ=ξ (.v (.int k)))(hk:0<k/\k<1073741824):m2 (J2 b0T λi j=> .int (i / j)) a b ρ=ξ (.v (.int (x / k))):=by
 unfold m2;rw [h,hb];show(if okC b0T x k=true then ξ (d7.v (.int (x / k))) else ζ)=_
 rw [if_pos (a0j (C:=b0T).mpr hk)]
theorem c6I{x y:M}{ρ:c5}{p q:PV}(h1:x ρ=ξ (.v p))(h2:y ρ=ξ (.v q)):N2 (a8 x (a8 y b8)) ρ=ξ (.own [p,q]):=by
 unfold N2 a8;rw [h1,h2]
 rfl
theorem c61{x y z:M}{ρ:c5}{p q r:PV}(h1:x ρ=ξ (.v p))(h2:y ρ=ξ (.v q))(h3:z ρ=ξ (.v r)):u5 (a8 x (a8 y (a8 z b8))) ρ=ξ (.v (.tuple [p,q,r])):=by
 unfold u5 a8;rw [h1,h2,h3]
 rfl
theorem c62{x y z u:M}{ρ:c5}{p q r v:PV}(h1:x ρ=ξ (.v p))(h2:y ρ=ξ (.v q))(h3:z ρ=ξ (.v r))(h4:u ρ=ξ (.v v)):u5 (a8 x (a8 y (a8 z (a8 u b8)))) ρ=ξ (.v (.tuple [p,q,r,v])):=by
 unfold u5 a8;rw [h1,h2,h3,h4]
 rfl
theorem c2f:AC "abcdefghijklmnopqrstuvwxyz"=S ((AT 26).map (97+·)):=by decide+kernel
theorem b4u(k:Nat)(h:k<26):∃a,lt1 a=true/\k6 (.v (.str (AC "abcdefghijklmnopqrstuvwxyz"))) (.v (.int (k:Nat)))=ξ (.v (row [a])):=
 ⟨97+k,c2Q.mpr (by lia),by rw [c2f];exact c0t (by simp) (by rw [b14,Ao,List.getElem?_range h];rfl)⟩
abbrev sS(N:Int)(m l:Mo)(a b c d:Option d7):c5:=[ξ (.v (.int N)),ξ (.v (j9 m)),ξ (.v (j9 l)),a,b,c,d]
theorem c31{k:Nat}:∀{ps:List Mo},(∀p∈ps,(O0 p).length<=k)->(K7 [44,32] (a5t ps)).length<=ps.length*(k+2)
 |[],_=>by rw [a5t];simp [K7]
 |[p],h=>by
  have:=h p AZ;rw [a5t,a5t];simp only [K7,AX,Am]
  lia
 |p::q::r,h=>by
  have h1:=h p AZ;have h2:=c31 (ps:=q::r) λx hx=>h x (Aa _ hx);rw [a5t];rw [a5t] at h2 ⊢;simp only [K7,AY,AX,Am,Nat.add_mul] at h2 ⊢
  lia
def c0F(m l:Mo)(q:Option d7):Prop:=∃r,q=ξ (.v (j9 r))/\y6 r/\t7 r<=2+max (t7 m) (t7 l)/\(O0 r).length<=6*max (O0 m).length (O0 l).length+40
theorem c3G{m l:Mo}(okm:y6 m)(okl:y6 l)(N:Int):c0F m l (Y5 [.int N,j9 m,j9 l]):=by
 obtain⟨s,hs⟩:∃s:Int,s=N*62089911 % 999931 % 9:=⟨_,rfl⟩;have s0:0<=s/\s<9:=by lia
 obtain⟨b,hb⟩:∃b:Bool,b=decide (N % 7=1):=⟨_,rfl⟩;obtain⟨t,ht0,ht1,ht⟩:∃t:Nat,1<=t/\t<=24/\((t:Nat):Int)=1+N*742938285 % 999959 %(if b=true then 24 else 4):=by
  refine⟨(1+N*742938285 % 999959 %(if b=true then 24 else 4)).toNat, ?_, ?_, ?_⟩<;>split<;>lia
 have e3:m2 (J2 (λ_ j=>0<j) λi j=> .int (i % j)) (m2 (J2 (λ_ j=>0<j) λi j=> .int (i % j)) (m2 r6 (b0 0) (mC (.int 62089911))) (mC (.int 999931))) (mC (.int 9)) (sS N m l ζ ζ ζ ζ)=ξ (.v (.int s)):=by
  rw [hs];exact md (md (ml rfl (by lia)) rfl (by lia)) rfl (by lia)
 have e4:∀q3,m2 y8 (mC (.int 1)) (m2 (J2 (λ_ j=>0<j) λi j=> .int (i % j)) (m2 (J2 (λ_ j=>0<j) λi j=> .int (i % j)) (m2 r6 (b0 0) (mC (.int 742938285))) (mC (.int 999959))) (m2 k6 (N2 (a8 (mC (.int 4)) (a8 (mC (.int 24)) b8))) (m1 c0s (m2 D0 (m2 (J2 (λ_ j=>0<j) λi j=> .int (i % j)) (b0 0) (mC (.int 7))) (mC (.int 1)))))) (sS N m l q3 ζ ζ ζ)=ξ (.v (.int (t:Nat))):=λq3=>by
  rw [ht];refine adI rfl (md (md (ml rfl (by lia)) rfl (by lia)) (J7 (r:= .own [.int 4,.int 24]) (q:= .v (.int (if b=true then 1 else 0))) rfl (one (J7 (md rfl rfl (by lia)) rfl (b7q _ _)) ?_) (by cases b<;>rfl)) (by split<;>lia))
  have:(N % 7==1)=b:=by rw [hb];rfl
  rw [this]
  rfl
 have go:∀{r:Mo},y6 r->t7 r<=2+max (t7 m) (t7 l)->(O0 r).length<=6*max (O0 m).length (O0 l).length+40->a9C (sS N m l ζ ζ ζ ζ)=ξ (.rt (.v (j9 r)))->c0F m l (Y5 [.int N,j9 m,j9 l]):=λ {r} h1 h3 h4 h=>⟨r,n4 (n:=4) h,h1,h3,h4⟩;have hd:∀{q:Option Fl} {n:MS},n (sS N m l (ξ (.v (.int s))) (ξ (.v (.int (t:Nat)))) (ξ (.v (.str (AC "abcdefghijklmnopqrstuvwxyz")))) ζ)=q->j0 (p0 3 (m2 (J2 (λ_ j=>0<j) λi j=> .int (i % j)) (m2 (J2 (λ_ j=>0<j) λi j=> .int (i % j)) (m2 r6 (b0 0) (mC (.int 62089911))) (mC (.int 999931))) (mC (.int 9)))) (j0 (p0 4 (m2 y8 (mC (.int 1)) (m2 (J2 (λ_ j=>0<j) λi j=> .int (i % j)) (m2 (J2 (λ_ j=>0<j) λi j=> .int (i % j)) (m2 r6 (b0 0) (mC (.int 742938285))) (mC (.int 999959))) (m2 k6 (N2 (a8 (mC (.int 4)) (a8 (mC (.int 24)) b8))) (m1 c0s (m2 D0 (m2 (J2 (λ_ j=>0<j) λi j=> .int (i % j)) (b0 0) (mC (.int 7))) (mC (.int 1)))))))) (j0 (p0 5 (mC (.str (AC "abcdefghijklmnopqrstuvwxyz")))) n)) (sS N m l ζ ζ ζ ζ)=q:=λ {q n} h=>by
  refine(g6 e3).trans ?_;refine(g6 (e4 _)).trans ?_;refine(g6 (p:= .str (AC "abcdefghijklmnopqrstuvwxyz")) rfl).trans ?_;exact h
 clear e3 e4 hs ht;have dm:t7 m<=max (t7 m) (t7 l):=Nat.le_max_left _ _;have dl:t7 l<=max (t7 m) (t7 l):=Nat.le_max_right _ _;have sm:(O0 m).length<=max (O0 m).length (O0 l).length:=Nat.le_max_left _ _;have sl:(O0 l).length<=max (O0 m).length (O0 l).length:=Nat.le_max_right _ _;have tl:∀w∈a0y,w.length<=5:=by decide
 have dl2:=(c4q t).2;have hc:s=0\/s=1\/s=2\/s=3\/s=4\/s=5\/s=6\/s=7\/s=8:=by lia
 rcases hc with rfl|rfl|rfl|rfl|rfl|rfl|rfl|rfl|rfl
 ·obtain⟨j,hj⟩:∃j:Int,j=N % 7:=⟨_,rfl⟩;have tw:∃w∈a0y,k6 (.bo (.lst (a0y.map row))) (.v (.int j))=ξ (.v (row w)):=by
   have:j=0\/j=1\/j=2\/j=3\/j=4\/j=5\/j=6:=by lia
   rcases this with h|h|h|h|h|h|h<;>rw [h]
   ·exact⟨[116,117,114,110],by decide,rfl⟩
   ·exact⟨[104,97,108,102],by decide,rfl⟩
   ·exact⟨[98,97,99,107],by decide,rfl⟩
   ·exact⟨[115,105,100,101],by decide,rfl⟩
   ·exact⟨[102,108,105,112],by decide,rfl⟩
   ·exact⟨[99,114,111,115,115],by decide,rfl⟩
   ·exact⟨[111,116,104,101,114],by decide,rfl⟩
  obtain⟨w,hw,ew⟩:=tw;refine go (r:= .turned w m) (by rw [y6];exact⟨hw,okm⟩) (by rw [t7];lia) (by have:=tl w hw;rw [O0];simp only [AY,AX,Am];lia) (hd ?_)
  refine M3 rfl ?_;refine(Q8 (l:=a0y.map row) rfl).trans ?_;refine G1 ?_;rw [j9];exact c61 rfl (J7 rfl (md rfl rfl (by lia)) (hj▸ew)) rfl
 ·obtain⟨a,ha,ea⟩:=b4u (N % 4).toNat (by lia)
  obtain⟨c,hc,ec⟩:=b4u (N / 4 % 26).toNat (by lia)
  rw [show(((N % 4).toNat:Nat):Int)=N % 4 by lia] at ea
  rw [show(((N / 4 % 26).toNat:Nat):Int)=N / 4 % 26 by lia] at ec
  refine go (r:= .dyed a c m) (by rw [y6];exact⟨ha,hc,okm⟩) (by rw [t7];lia) (by rw [O0];simp only [AY,AX,Am];lia) (hd ?_)
  rw [b7 rfl];refine l7 rfl ?_;rw [j9];exact c62 rfl (J7 rfl (md rfl rfl (by lia)) ea) (J7 rfl (md (dv rfl rfl (by lia)) rfl (by lia)) ec) rfl
 ·refine go (r:= .across t m) (by rw [y6];exact⟨ht0,ht1,okm⟩) (by rw [t7];lia) (by rw [O0];simp only [AY,AX,Am];lia) (hd ?_)
  rw [b7 rfl,b7 rfl];refine l7 rfl ?_;rw [j9]
  rfl
 ·refine go (r:= .down t m) (by rw [y6];exact⟨ht0,ht1,okm⟩) (by rw [t7];lia) (by rw [O0];simp only [AY,AX,Am];lia) (hd ?_)
  rw [b7 rfl,b7 rfl,b7 rfl];refine l7 rfl ?_;rw [j9]
  rfl
 ·refine go (r:= .beside [m,l]) (by rw [y6];exact⟨by simp,by simp,a5e (by simp [okm,okl])⟩) (by have:=a45 (ps:=[m,l]) (k:=max (t7 m) (t7 l)) (by simp [dm,dl]);rw [t7];lia) (by rw [O0];simp only [a5t,K7,O0,AY,AX,Am];lia) (hd ?_)
  rw [b7 rfl,b7 rfl,b7 rfl,b7 rfl];refine l7 rfl ?_;rw [j9]
  rfl
 ·refine go (r:= .above [m,l]) (by rw [y6];exact⟨by simp,by simp,a5e (by simp [okm,okl])⟩) (by have:=a45 (ps:=[m,l]) (k:=max (t7 m) (t7 l)) (by simp [dm,dl]);rw [t7];lia) (by rw [O0];simp only [a5t,K7,O0,AY,AX,Am];lia) (hd ?_)
  rw [b7 rfl,b7 rfl,b7 rfl,b7 rfl,b7 rfl];refine l7 rfl ?_;rw [j9]
  rfl
 ·refine go (r:= .beside [m,.turned [115,105,100,101] m]) (by rw [y6];exact⟨by simp,by simp,a5e (by simp [okm,y6,a0y])⟩) (by have:=a45 (ps:=[m,.turned [115,105,100,101] m]) (k:=1+max (t7 m) (t7 l)) (by simp [t7];lia);rw [t7];lia) (by rw [O0];simp only [a5t,K7,O0,AY,AX,Am];lia) (hd ?_)
  rw [b7 rfl,b7 rfl,b7 rfl,b7 rfl,b7 rfl,b7 rfl];refine l7 rfl ?_;rw [j9,a4Z,a4Z,j9]
  rfl
 ·refine go (r:= .above [m,.turned [102,108,105,112] m,m]) (by rw [y6];exact⟨by simp,by simp,a5e (by simp [okm,y6,a0y])⟩) (by have:=a45 (ps:=[m,.turned [102,108,105,112] m,m]) (k:=1+max (t7 m) (t7 l)) (by simp [t7];lia);rw [t7];lia) (by rw [O0];simp only [a5t,K7,O0,AY,AX,Am];lia) (hd ?_)
  rw [b7 rfl,b7 rfl,b7 rfl,b7 rfl,b7 rfl,b7 rfl,b7 rfl];refine l7 rfl ?_;rw [j9,a4Z,a4Z,a4Z,j9]
  rfl
 ·obtain⟨j,hj⟩:∃j:Int,j=N % 5:=⟨_,rfl⟩;have fin:∀{ps:List Mo},2<=ps.length->ps.length<=6->(∀p∈ps,p=m\/p=l)->gSl (.own [j9 l,j9 m,j9 l,j9 m,j9 l,j9 m]) ζ (ξ (2+j))=ξ (.own (a4Z ps))->c0F m l (Y5 [.int N,j9 m,j9 l]):=λ {ps} p1 p2 p3 p4=>by
   refine go (r:= .beside ps) (by rw [y6];exact⟨p1,p2,a5e λp hp=>by rcases p3 p hp with rfl|rfl<;>assumption⟩) (by have:=a45 (ps:=ps) (k:=max (t7 m) (t7 l)) (λp hp=>by rcases p3 p hp with rfl|rfl<;>assumption);rw [t7];lia) (by have g:=c31 (ps:=ps) (k:=max (O0 m).length (O0 l).length) (λp hp=>by rcases p3 p hp with rfl|rfl<;>assumption);have:=Nat.mul_le_mul_right (max (O0 m).length (O0 l).length+2) p2;rw [O0];simp only [AY,AX,Am];lia) (hd ?_)
   rw [b7 rfl,b7 rfl,b7 rfl,b7 rfl,b7 rfl,b7 rfl,b7 rfl,b7 rfl];refine G1 ?_;rw [j9];refine c6u rfl ?_;rw [b6E,J7 (c6I rfl rfl) rfl (b8D ⟨⟨by lia,by lia⟩,by simp⟩),AO]
   show((m2 y8 (mC (.int 2)) (m2 (J2 (λ_ j=>0<j) λi j=> .int (i % j)) (b0 0) (mC (.int 5))) _).bind c0I).bind _=_;rw [adI rfl (md rfl rfl (by lia)),<-hj]
   exact p4
  have:j=0\/j=1\/j=2\/j=3\/j=4:=by lia
  rcases this with h|h|h|h|h<;>rw [h] at fin
  ·exact fin (ps:=[l,m]) (by simp) (by simp) (by simp) rfl
  ·exact fin (ps:=[l,m,l]) (by simp) (by simp) (by simp) rfl
  ·exact fin (ps:=[l,m,l,m]) (by simp) (by simp) (by simp) rfl
  ·exact fin (ps:=[l,m,l,m,l]) (by simp) (by simp) (by simp) rfl
  ·exact fin (ps:=[l,m,l,m,l,m]) (by simp) (by simp) (by simp) rfl
theorem b4z{bt:Nat->Nat->Bool}{K:Nat->Int}(h:∀i j,bt i j=decide (K i>K j)):∀m,argBest bt m<=m/\∀j,j<=m->K j<=K (argBest bt m)
 |0=>⟨AS _,λj hj=>by
  have:j=0:=by lia
  subst this;exact Int.le_refl _⟩
 |m+1=>by
  obtain⟨h1,h2⟩:=b4z h m;have hb:=h (m+1) (argBest bt m);simp only [argBest]
  by_cases c:K (m+1)>K (argBest bt m)
  ·rw [hb,decide_eq_true c];simp only [if_true];refine⟨AS _,λj hj=> ?_⟩;rcases Nat.lt_or_ge j (m+1) with hj'|hj'
   ·have:=h2 j (by lia);lia
   ·have:j=m+1:=by lia
    subst this;exact Int.le_refl _
  ·rw [hb,decide_eq_false c];simp only [BG,if_false];refine⟨by lia,λj hj=> ?_⟩
   rcases Nat.lt_or_ge j (m+1) with hj'|hj'
   ·exact h2 j (by lia)
   ·have:j=m+1:=by lia
    subst this
    lia
theorem b8j{is:List Int}(h0:0<is.length):a2s is∈is/\∀i∈is,i<=a2s is:=by
 obtain⟨h1,h2⟩:=b4z (bt:=λi j=>decide (is.getD i 0>is.getD j 0)) (K:=λi=>is.getD i 0) (λi j=>rfl) (is.length - 1);have hb:argBest (λi j=>decide (is.getD i 0>is.getD j 0)) (is.length - 1)<is.length:=by lia
 constructor
 ·unfold a2s;rw [List.getD_eq_getElem?_getD,Av hb];exact List.getElem_mem hb
 ·intro i hi;obtain⟨j,hj,rfl⟩:=List.getElem_of_mem hi;have:=h2 j (by lia)
  simp only [List.getD_eq_getElem?_getD,Av hj] at this;unfold a2s;rw [List.getD_eq_getElem?_getD]
  simpa using this
abbrev NL(α:Type):=List (List Nat×α)
section
variable {α:Type}
def dN(f:α->PV)(K:NL α):List (List u8×PV):=K.map λx=>([.inr (S x.1)],f x.2)
def C4(K:NL α)(w:List Nat):Option α:=(K.find? λx=>decide (x.1=w)).map (·.2)
def U3(K:NL α)(w:List Nat)(a:α):NL α:=if(K.any λx=>decide (x.1=w))=true then K.map (λx=>if x.1=w then(x.1,a) else x) else K++[(w,a)]
theorem a7b{v w:List Nat}:([Sum.inr (S v)]:List u8)=[.inr (S w)]↔v=w:=⟨λh=>c3S (Sum.inr.inj (List.cons.inj h).1),λh=>by rw [h]⟩
theorem a40(f:α->PV)(w:List Nat):∀K:NL α,O4 (dN f K) [.inr (S w)]=(C4 K w).map f
 |[]=>rfl
 |(v,a)::K=>by
  unfold C4;rw [List.find?_cons];show O4 (([.inr (S v)],f a)::dN f K) _=_;rw [R0]
  by_cases h:v=w
  ·rw [if_pos (a7b.mpr h),decide_eq_true h];rfl
  ·rw [if_neg (λz=>h (a7b.mp z)),decide_eq_false h];exact a40 f w K
theorem b6S(f:α->PV)(K:NL α)(w:List Nat)(a:α):b6R (dN f K) [.inr (S w)] (f a)=dN f (U3 K w a):=by
 have ha:((dN f K).any λkv=>decide (kv.1=[.inr (S w)]))=K.any λx=>decide (x.1=w):=by
  unfold dN;rw [List.any_map]
  congr 1
  funext x
  exact decide_eq_decide.mpr a7b
 unfold b6R U3;rw [ha];split
 ·unfold dN;rw [Ah,Ah];refine List.map_congr_left λx _=> ?_;show(if _ then _ else _)=_
  by_cases h:x.1=w
  ·rw [if_pos (a7b.mpr h)];show _=([Sum.inr (S (if x.1=w then(x.1,a) else x).1)],f (if x.1=w then(x.1,a) else x).2)
   rw [if_pos h]
  ·rw [if_neg (λz=>h (a7b.mp z))];show _=([Sum.inr (S (if x.1=w then(x.1,a) else x).1)],f (if x.1=w then(x.1,a) else x).2)
   rw [if_neg h]
 ·unfold dN;rw [Au]
  rfl
theorem a7h(K:NL α)(w:List Nat)(a:α)(v:List Nat):C4 (U3 K w a) v=if w=v then ξ a else C4 K v:=by
 have h1:=c16 (dN (λ_=>PyData.none) K) [.inr (S w)] .none [.inr (S v)];unfold U3;split
 ·rename_i ha;clear h1
  induction K with
  |nil=>cases ha
  |cons x K ih=>
   unfold C4;rw [AN,List.find?_cons,List.find?_cons]
   by_cases hx:x.1=w
   ·rw [if_pos hx]
    by_cases hv:w=v
    ·rw [if_pos hv,decide_eq_true (by rw [hx];exact hv)];rfl
    ·rw [if_neg hv,decide_eq_false (λz=>hv (hx.symm.trans z))];have:∀L:NL α,(L.map (λx=>if x.1=w then(x.1,a) else x)).find? (λx=>decide (x.1=v))=L.find? (λx=>decide (x.1=v)):=λL=>by
      induction L with
      |nil=>rfl
      |cons y L ih=>
       rw [AN,List.find?_cons,List.find?_cons,ih]
       by_cases hy:y.1=w
       ·rw [if_pos hy,decide_eq_false (λz=>hv (hy.symm.trans z))]
       ·rw [if_neg hy]
     rw [this]
   ·rw [if_neg hx];rw [List.any_cons,decide_eq_false hx,Bool.false_or] at ha;have:=ih ha;unfold C4 at this
    by_cases hv:x.1=v
    ·rw [decide_eq_true hv,if_neg (λz=>hx (hv.trans z.symm))]
    ·rw [decide_eq_false hv];exact this
 ·rename_i ha;clear h1
  induction K with
  |nil=>
   unfold C4;rw [As,List.find?_cons]
   by_cases hv:w=v
   ·rw [if_pos hv,decide_eq_true hv];rfl
   ·rw [if_neg hv,decide_eq_false hv]
  |cons x K ih=>
   rw [List.any_cons,Bool.or_eq_true,not_or] at ha;have hx:x.1≠w:=λz=>ha.1 (decide_eq_true z);have:=ih ha.2;unfold C4 at this ⊢;rw [Ar,List.find?_cons,List.find?_cons]
   by_cases hv:x.1=v
   ·rw [decide_eq_true hv,if_neg (λz=>hx (hv.trans z.symm))]
   ·rw [decide_eq_false hv];exact this
theorem a0x{K:NL α}{w:List Nat}{a:α}(h:C4 K w=ξ a):(w,a)∈K:=by
 unfold C4 at h;cases e:K.find? λx=>decide (x.1=w) with
 |none=>rw [e] at h;cases h
 |some x=>
  rw [e] at h;cases h;have h1:=List.mem_of_find?_eq_some e;have h2:x.1=w:=by simpa using List.find?_some e
  rw [<-h2];exact h1
theorem b49{K:NL α}{w:List Nat}(h:w∈K.map (·.1)):∃a,C4 K w=ξ a:=by
 obtain⟨x,hx,rfl⟩:=BC.mp h;unfold C4;cases e:K.find? λy=>decide (y.1=x.1) with
 |none=>have:=List.find?_eq_none.mp e x hx;simp at this
 |some y=>exact⟨_,rfl⟩
theorem a5f(f:α->PV)(K:NL α):b5s (dN f K)=true:=by
 unfold b5s dN;rw [List.all_map];exact List.all_eq_true.mpr λ_ _=>rfl
theorem c2N(f:α->PV)(K:NL α):((dN f K).map λkv=>k1 kv.1)=(K.map (·.1)).map row:=by
 unfold dN;rw [Ah,Ah]
 rfl
theorem a98(f:α->PV)(K:NL α):(dN f K).length=K.length:=AW _
theorem a7s(K:NL α)(w:List Nat)(a:α):(U3 K w a).length<=K.length+1:=by
 unfold U3;split
 ·rw [AW];lia
 ·rw [AY,List.length_singleton];exact AS _
end
abbrev x6:=Nat×Nat
def PR(d:x6):PV:= .tuple [.int (d.1:Nat),.int (d.2:Nat)]
def a4x(w:List Nat):Bool:=decide (w∈[[116,117,114,110],[98,97,99,107],[99,114,111,115,115],[111,116,104,101,114]])
def a0v(be:Bool)(x d:x6):Option x6:=if be=true then(if d.1=x.1/\x.1<=24/\x.2+d.2<=24 then ξ (x.1,x.2+d.2) else ζ) else(if d.2=x.2/\x.1+d.1<=24/\x.2<=24 then ξ (x.1+d.1,x.2) else ζ)
def V5(be:Bool):x6->List x6->Option x6
 |x,[]=>ξ x
 |x,d::ds=>(a0v be x d).bind λy=>V5 be y ds
def a8A(be:Bool):List x6->Option x6
 |[]=>ζ
 |d::ds=>V5 be d ds
def a0N(ac:Bool)(k:Nat)(d:x6):Option x6:=if ac=true then(if d.1<=24/\d.2*k<=24 then ξ (d.1,d.2*k) else ζ) else(if d.1*k<=24/\d.2<=24 then ξ (d.1*k,d.2) else ζ)
def b2Q(w:List Nat)(d:x6):x6:=if a4x w=true then(d.2,d.1) else d
mutual
def z8(K:NL x6):Mo->Option x6
 | .plain rows=>ξ (rows.length,(rows.headD []).length)
 | .named w=>C4 K w
 | .beside ps=>(J6 K ps).bind (a8A true)
 | .above ps=>(J6 K ps).bind (a8A false)
 | .across k p=>(z8 K p).bind (a0N true k)
 | .down k p=>(z8 K p).bind (a0N false k)
 | .turned w p=>(z8 K p).map (b2Q w)
 | .dyed _ _ p=>z8 K p
def J6(K:NL x6):List Mo->Option (List x6)
 |[]=>ξ []
 |p::ps=>(z8 K p).bind λd=>(J6 K ps).map λds=>d::ds
end
def isE(q:PV):Prop:=∃z y:Str,q= .tuple [.str z,.str y]
def RS(o:Option x6)(q:PV):Prop:=match o with
 |some d=>q=PR d
 |none=>isE q
def sz(p:PV):Prop:=(∃d:x6,p=PR d)\/isE p
theorem RS.sz{o:Option x6}{q:PV}(h:RS o q):sz q:=by
 cases o with
 |none=>exact .inr h
 |some d=>exact .inl ⟨d,h⟩
theorem b6H(d:x6):∃k:Int,a2A (.v (PR d))=ξ (.v (.int k))/\(d.1:Int)<=k/\(d.2:Int)<=k/\(k=d.1\/k=d.2):=by
 obtain⟨h1,h2⟩:=b8j (is:=[(d.1:Int),(d.2:Int)]) (by simp)
 exact⟨a2s [(d.1:Int),(d.2:Int)],rfl,h2 _ (by simp),h2 _ (by simp),by simpa using h1⟩
theorem b0h(a b:Int):gNe (.v (.int a)) (.v (.int b))=ξ (.v (.bool (!decide (a=b)))):=by
 have:gNe (.v (.int a)) (.v (.int b))=ξ (.v (.bool (!PyData.eqv (.int a) (.int b)))):=rfl;rw [this];have:PyData.eqv (.int a) (.int b)=decide (a=b):=by
  by_cases h:a=b<;>simp [PyData.eqv,h]
 rw [this]
theorem b3l{it:MI}{tg:PV->c5->Option c5}{body n:MS}{ρ:c5}{ps:List PV}{r:d7}(h1:it ρ=ξ ps)(h2:z9 body tg ps ρ=ξ (.rt r)):j0 (S4 it tg body) n ρ=ξ (.rt r):=by
 unfold j0 S4;rw [h1,AO,h2]
 rfl
theorem c1O{m n:MS}{ρ:c5}{r:d7}(h:m ρ=ξ (.rt r)):j0 m n ρ=ξ (.rt r):=by
 unfold j0;rw [h]
 rfl
theorem N3{m n:MS}{ρ ρ':c5}(h:m ρ=ξ (.nx ρ')):j0 m n ρ=n ρ':=by
 unfold j0;rw [h]
 rfl
theorem at0{x:d7}{p:PV}{ds:List PV}(h:x.rd= .list (p::ds)\/x.rd= .tuple (p::ds)):k6 x (.v (.int 0))=ξ (.v p):=by
 have e:L2.atI (p::ds) 0=ξ p:=(b14 (k:=0)).trans rfl;unfold k6;rcases h with h|h<;>rw [h]<;>show(L2.atI (p::ds) 0).map d7.v=_<;>rw [e]<;>rfl
theorem c10{x y:M}{ρ:c5}{p q:PV}(h1:x ρ=ξ (.v p))(h2:y ρ=ξ (.v q)):u5 (a8 x (a8 y b8)) ρ=ξ (.v (.tuple [p,q])):=by
 unfold u5 a8;rw [h1,h2]
 rfl
def a69(o:Option x6)(f:Option Fl):Prop:=∃p,f=ξ (.rt (.v p))/\RS o p
theorem a9g(z y:Str):a69 ζ (ξ (.rt (.v (.tuple [.str z,.str y])))):=⟨_,rfl,_,_,rfl⟩
def V6(w:PV)(s1 q3:Option d7)(d:x6):c5:=[ξ (.v w),s1,ξ (.v (PR d)),q3]
theorem c3U{i:Nat}{ρ:c5}{d:x6}(h:ρ[i]?=ξ (ξ (.v (PR d)))):u6 (m2 (gI λi j=> .bool (decide (j<i))) (m1 a2A (b0 i)) (mC (.int 24))) ρ=ξ (decide (¬(d.1<=24/\d.2<=24))):=by
 obtain⟨k,hk,h1,h2,h3⟩:=b6H d;have v:b0 i ρ=ξ (.v (PR d)):=by unfold b0;rw [h]
 refine(G0 (r:= .v (.int k)) (one v hk) (q:= .v (.int 24)) (b:=decide ((24:Int)<k)) rfl rfl).trans ?_
 congr 1
 exact decide_eq_decide.mpr ⟨λz=>by lia,λz=>by lia⟩
abbrev wrd(be:Bool):PV:= .str (if be=true then AC "beside" else AC "above")
theorem b8V(be:Bool){s1:Option d7}(x d:x6):(a0v be x d=ζ/\a69 ζ (p9 (V6 (wrd be) s1 (ξ (.v (PR d))) x)))\/∃y,a0v be x d=ξ y/\p9 (V6 (wrd be) s1 (ξ (.v (PR d))) x)=ξ (.nx (V6 (wrd be) s1 (ξ (.v (PR d))) y)):=by
 have fin:∀y:x6,(y.1<=24/\y.2<=24->a0v be x d=ξ y)->(¬(y.1<=24/\y.2<=24)->a0v be x d=ζ)->p9 (V6 (wrd be) s1 (ξ (.v (PR d))) x)=o9 (u6 (m2 (gI λi j=> .bool (decide (j<i))) (m1 a2A (b0 2)) (mC (.int 24)))) (l0 (u5 (a8 (mC (.str (AC "wide"))) (a8 (mC (.str (AC ""))) b8)))) l9 (V6 (wrd be) s1 (ξ (.v (PR d))) y)->(a0v be x d=ζ/\a69 ζ (p9 (V6 (wrd be) s1 (ξ (.v (PR d))) x)))\/∃y,a0v be x d=ξ y/\p9 (V6 (wrd be) s1 (ξ (.v (PR d))) x)=ξ (.nx (V6 (wrd be) s1 (ξ (.v (PR d))) y)):=λy h1 h2 h3=>by
  have e:=c3U (i:=2) (ρ:=V6 (wrd be) s1 (ξ (.v (PR d))) y) (d:=y) rfl;rw [h3]
  by_cases h:y.1<=24/\y.2<=24
  ·rw [decide_eq_false (λz=>z h)] at e;exact .inr ⟨y,h1 h,by rw [a7i e];rfl⟩
  ·rw [decide_eq_true h] at e;rw [a3A e];exact .inl ⟨h2 h,a9g _ _⟩
 cases be with
 |true=>
  have t0:u6 (m2 D0 (b0 0) (mC (.str (AC "beside")))) (V6 (wrd true) s1 (ξ (.v (PR d))) x)=ξ true:=rfl;have t1:u6 (m2 gNe (m2 k6 (b0 3) (mC (.int 0))) (m2 k6 (b0 2) (mC (.int 0)))) (V6 (wrd true) s1 (ξ (.v (PR d))) x)=ξ (!decide ((d.1:Int)=x.1)):=G0 (r:= .v (.int (d.1:Nat))) rfl (q:= .v (.int (x.1:Nat))) rfl (b0h _ _)
  by_cases h:d.1=x.1
  ·rw [decide_eq_true (by lia)] at t1
   refine fin (x.1,x.2+d.2) (λz=> ?_) (λz=> ?_) ?_
   ·unfold a0v;rw [if_pos rfl,if_pos ⟨h,z.1,z.2⟩]
   ·unfold a0v;rw [if_pos rfl,if_neg (λc=>z ⟨c.2.1,c.2.2⟩)]
   ·unfold p9;refine N3 ?_;rw [a3A t0,b7 t1];exact X5 rfl
  ·rw [decide_eq_false (by lia)] at t1
   refine .inl ⟨by unfold a0v;rw [if_pos rfl,if_neg (λc=>h c.1)], ?_⟩
   unfold p9;rw [c1O (r:= .v (.tuple [.str (AC "misfit"),.str (AC "")])) (by rw [a3A t0];exact l7 t1 rfl)]
   exact a9g _ _
 |false=>
  have t0:u6 (m2 D0 (b0 0) (mC (.str (AC "beside")))) (V6 (wrd false) s1 (ξ (.v (PR d))) x)=ξ false:=rfl;have t1:u6 (m2 gNe (m2 k6 (b0 3) (mC (.int 1))) (m2 k6 (b0 2) (mC (.int 1)))) (V6 (wrd false) s1 (ξ (.v (PR d))) x)=ξ (!decide ((d.2:Int)=x.2)):=G0 (r:= .v (.int (d.2:Nat))) rfl (q:= .v (.int (x.2:Nat))) rfl (b0h _ _)
  by_cases h:d.2=x.2
  ·rw [decide_eq_true (by lia)] at t1
   refine fin (x.1+d.1,x.2) (λz=> ?_) (λz=> ?_) ?_
   ·unfold a0v;rw [if_neg Ac,if_pos ⟨h,z.1,z.2⟩]
   ·unfold a0v;rw [if_neg Ac,if_neg (λc=>z ⟨c.2.1,c.2.2⟩)]
   ·unfold p9;refine N3 ?_;rw [a7i t0,b7 t1];exact X5 rfl
  ·rw [decide_eq_false (by lia)] at t1
   refine .inl ⟨by unfold a0v;rw [if_neg Ac,if_neg (λc=>h c.1)], ?_⟩
   unfold p9;rw [c1O (r:= .v (.tuple [.str (AC "misfit"),.str (AC "")])) (by rw [a7i t0];exact l7 t1 rfl)]
   exact a9g _ _
theorem b2o(be:Bool){s1:Option d7}:∀(ds:List x6) (x:x6) (q3:Option d7),(V5 be x ds=ζ/\a69 ζ (z9 p9 (j6 3) (ds.map PR) (V6 (wrd be) s1 q3 x)))\/∃y q3',V5 be x ds=ξ y/\z9 p9 (j6 3) (ds.map PR) (V6 (wrd be) s1 q3 x)=ξ (.nx (V6 (wrd be) s1 q3' y))
 |[],x,q3=> .inr ⟨x,q3,rfl,rfl⟩
 |d::ds,x,q3=>by
  have e:z9 p9 (j6 3) ((d::ds).map PR) (V6 (wrd be) s1 q3 x)=(p9 (V6 (wrd be) s1 (ξ (.v (PR d))) x)).bind (λfl=>match fl with
   | .nx ρ2=>z9 p9 (j6 3) (ds.map PR) ρ2
   | .ct ρ2=>z9 p9 (j6 3) (ds.map PR) ρ2
   | .bk ρ2=>ξ (.nx ρ2)
   | .rt r=>ξ (.rt r)):=by
   rw [AN,z9]
   rfl
  rw [V5];rcases b8V be (s1:=s1) x d with⟨h0,p,e1,e2⟩|⟨y,h0,e1⟩
  ·refine .inl ⟨by rw [h0];rfl,p, ?_,e2⟩
   rw [e,e1]
   rfl
  ·rw [e,e1,h0,AO];exact b2o be ds y _
theorem b2D{n:Nat}{b:MS}{ps:List PV}{o:Option x6}(h:a69 o (b (ps.map (λp=>ξ (d7.v p))++AQ n ζ))):∃p,m4 n b ps=ξ (.v p)/\RS o p:=by
 obtain⟨p,e,s⟩:=h;exact⟨p,n4 e,s⟩
theorem c0U(be:Bool){ds:List x6}(hn:ds≠[]):∃p,a24 [wrd be,.list (ds.map PR)]=ξ (.v p)/\RS (a8A be ds) p:=by
 refine b2D (n:=2) ?_;show a69 _ (a52 [ξ (.v (wrd be)),ξ (.v (.list (ds.map PR))),ζ,ζ]);unfold a52;cases ds with
 |nil=>exact absurd rfl hn
 |cons d ds=>
  rw [g6 (p:=PR d) (J7 (r:= .v (.list (PR d::ds.map PR))) (q:= .v (.int 0)) rfl rfl (at0 (.inl rfl)))];have e0:Y9 (P5 (b0 1) (R5 (mC (.int 1))) T3) (V6 (wrd be) (ξ (.v (.list (PR d::ds.map PR)))) ζ d)=ξ (ds.map PR):=by
   show ξ (cut (PR d::ds.map PR) (ξ 1) ζ)=ξ (ds.map PR);unfold cut HT.sIx;simp;exact List.take_of_length_le (by simp)
  rcases b2o be (s1:=ξ (.v (.list (PR d::ds.map PR)))) ds d ζ with⟨h0,p,e1,s⟩|⟨y,q3',h0,e1⟩
  ·exact⟨p,b3l e0 e1,by rw [a8A,h0];exact s⟩
  ·exact⟨PR y,(Y4 e0 e1).trans rfl,by rw [a8A,h0];rfl⟩
def isS:PV->Bool
 | .tuple (.str _::_)=>true
 |_=>false
theorem a1R{p:PV}(h:sz p){x:M}{ρ:c5}(hx:x ρ=ξ (.v p)):m1 (a4a "str") (m2 k6 x (mC (.int 0))) ρ=ξ (.v (.bool (isS p))):=by
 rcases h with⟨d,rfl⟩|⟨z,y,rfl⟩
 ·exact one (r:= .v (.int (d.1:Nat))) (J7 (q:= .v (.int 0)) hx rfl rfl) rfl
 ·exact one (r:= .v (.str z)) (J7 (q:= .v (.int 0)) hx rfl rfl) rfl
theorem c5y{l:List PV}(h:∀p∈l,sz p)(k:Nat):F8 l (k+2)=true:=b4O λp hp=>by
 rcases h p hp with⟨d,rfl⟩|⟨z,y,rfl⟩<;>rfl
theorem c4W{l:List PV}(h:∀p∈l,sz p):gNe (.bor l) (.own [])=ξ (.v (.bool (!l.isEmpty))):=by
 have e:gNe (.bor l) (.own [])=if F8 l 49=true/\F8 [] 49=true then ξ (.v (.bool (!PyData.eqv (.list l) (.list [])))) else ζ:=rfl
 rw [e,if_pos ⟨c5y h 47,rfl⟩];cases l<;>rfl
def b5M:Option d7->PV
 |some (.v q)=>q
 |_=> .none
theorem a7p{c:MT}{i:Nat}{n:MS}{ρ:c5}{p:PV}(hc:c ρ=ξ true)(hx:ρ[i]?=ξ (ξ (.v p))):j0 (o9 c (N7 i) l9) n ρ=ξ (.rt (.v p)):=by
 refine M3 hc ?_;unfold N7;rw [hx]
theorem b9d{a b:MT}{ρ:c5}{x y:Bool}(h1:a ρ=ξ x)(h2:b ρ=ξ y):Z1 a b ρ=ξ (x||y):=by
 unfold Z1;rw [h1];cases x
 ·exact h2
 ·rfl
theorem b75{w:List Nat}(h:w∈a0y):b1h false (.v (row w)) (.own [.str (AC "turn"),.str (AC "back"),.str (AC "cross"),.str (AC "other")])=ξ (.v (.bool (a4x w))):=by
 have h2:w=[116,117,114,110]\/w=[104,97,108,102]\/w=[98,97,99,107]\/w=[115,105,100,101]\/w=[102,108,105,112]\/w=[99,114,111,115,115]\/w=[111,116,104,101,114]:=by
  simpa [a0y] using h
 rcases h2 with rfl|rfl|rfl|rfl|rfl|rfl|rfl<;>rfl
theorem b48{s0 s1 s2 s3 s4:Option d7}{o:Option x6}(d:x6)(h1:d.1<=24/\d.2<=24->o=ξ d)(h2:¬(d.1<=24/\d.2<=24)->o=ζ):a69 o (j0 (o9 (u6 (m2 (gI λi j=> .bool (decide (j<i))) (m1 a2A (b0 5)) (mC (.int 24)))) (l0 (u5 (a8 (mC (.str (AC "wide"))) (a8 (mC (.str (AC ""))) b8)))) l9) (N7 5) [s0,s1,s2,s3,s4,ξ (.v (PR d))]):=by
 have e:=c3U (i:=5) (ρ:=[s0,s1,s2,s3,s4,ξ (.v (PR d))]) (d:=d) rfl
 by_cases h:d.1<=24/\d.2<=24
 ·rw [decide_eq_false (λz=>z h)] at e;rw [b7 e,h1 h];exact⟨_,rfl,rfl⟩
 ·rw [decide_eq_true h] at e;rw [l7 e rfl,h2 h];exact a9g _ _
abbrev kd(K:NL x6):PV:=tv (dN PR K)
section
variable {R:RF}{K:NL x6}
theorem b0O:∀(ps:List Mo) (f:Mo->PV),(∀p∈ps,RS (z8 K p) (f p))->(∃ds,J6 K ps=ξ ds/\ps.map f=ds.map PR/\(ps.map f).filter isS=[])\/(J6 K ps=ζ/\∃q r,(ps.map f).filter isS=q::r/\isE q)
 |[],f,_=> .inl ⟨[],by rw [J6],rfl,rfl⟩
 |p::ps,f,h=>by
  have hp:=h p AZ;rw [J6];cases e:z8 K p with
  |none=>
   rw [e] at hp;obtain⟨z,y,hq⟩:isE (f p):=hp;refine .inr ⟨rfl,f p,(ps.map f).filter isS, ?_,z,y,hq⟩;rw [AN,List.filter_cons,hq]
   rfl
  |some d=>
   rw [e] at hp;have hq:f p=PR d:=hp;rw [AO,AN,List.filter_cons,hq];rcases b0O ps f λq hq=>h q (Aa _ hq) with⟨ds,h1,h2,h3⟩|⟨h1,h2⟩
   ·exact .inl ⟨d::ds,by rw [h1];rfl,by rw [AN,h2],h3⟩
   ·exact .inr ⟨by rw [h1];rfl,h2⟩
theorem b0c{ps:List Mo}(be:Bool)(hp0:ps≠[])(hp:ps.length<=6)(h:∀p∈ps,∃q,R [j9 p,kd K]=ξ (.v q)/\RS (z8 K p) q){ww:PV}:
 a69 ((J6 K ps).bind (a8A be)) (j0 (p0 3 (F9 1 (v0 (m2 k6 (b0 0) (mC (.int 1)))) (j6 6) N8 (a0h R)))
 (j0 (p0 4 (F9 1 (v0 (b0 3)) (j6 6) (mtV (m1 (a4a "str") (m2 k6 (b0 6) (mC (.int 0))))) (a2c R)))
 (j0 (o9 (u6 (m2 gNe (b0 4) (N2 b8))) (l0 (m2 k6 (b0 4) (mC (.int 0)))) l9)
 (b1n 3 (l0 (j5 a24 (a8 (b0 2) (a8 (b0 3) b8))))))) [ξ (.v (.tuple [ww,.list (ps.map j9)])),ξ (.v (kd K)),ξ (.v (wrd be)),ζ,ζ,ζ]):=by
 have hf:∀p∈ps,R [j9 p,kd K]=ξ (.v (b5M (R [j9 p,kd K])))/\RS (z8 K p) (b5M (R [j9 p,kd K])):=λp hp=>by
  obtain⟨q,e,s⟩:=h p hp;rw [e];exact⟨rfl,s⟩
 have c1:=C2 (ι:=j9) (f:=λp=>b5M (R [j9 p,kd K])) (k:=1) (it:=v0 (m2 k6 (b0 0) (mC (.int 1)))) (tg:=j6 6) (elt:=a0h R) (ρ:=[ξ (.v (.tuple [ww,.list (ps.map j9)])),ξ (.v (kd K)),ξ (.v (wrd be)),ζ,ζ,ζ]) ps rfl (by lia) λp hp=>by
  refine⟨[ξ (.v (.tuple [ww,.list (ps.map j9)])),ξ (.v (kd K)),ξ (.v (wrd be)),ζ,ζ,ζ,ξ (.v (j9 p))],rfl, ?_⟩;unfold a0h;rw [(O6 rfl rfl).trans (hf p hp).1]
  rfl
 have cs:=b0O (K:=K) ps (λp=>b5M (R [j9 p,kd K])) λp hp=>(hf p hp).2
 obtain⟨ds,hds⟩:∃ds,ds=ps.map λp=>b5M (R [j9 p,kd K]):=⟨_,rfl⟩
 rw [<-hds] at c1 cs
 have dl:ds.length<=6:=by rw [hds,AW];exact hp
 have dz:∀q∈ds,sz q:=λq hq=>by
  rw [hds] at hq;obtain⟨p,hp,rfl⟩:=BC.mp hq;exact(hf p hp).2.sz
 have c2:=b3E (ι:=id) (f:=id) (q:=isS) (k:=1) (it:=v0 (b0 3)) (c:=mtV (m1 (a4a "str") (m2 k6 (b0 6) (mC (.int 0))))) (tg:=j6 6) (elt:=a2c R) (ρ:=[ξ (.v (.tuple [ww,.list (ps.map j9)])),ξ (.v (kd K)),ξ (.v (wrd be)),ξ (.own ds),ζ,ζ]) ds (by rw [List.map_id];rfl) (by lia) λp hp=>by
  refine⟨[ξ (.v (.tuple [ww,.list (ps.map j9)])),ξ (.v (kd K)),ξ (.v (wrd be)),ξ (.own ds),ζ,ζ,ξ (.v p)],rfl,b1Y (a1R (dz p hp) rfl),λ_=>rfl⟩
 rw [List.map_id] at c2
 rw [Q8 c1]
 refine Eq.mpr (congrArg _ (Q8 c2)) ?_
 have bz:∀q∈ds.filter isS,sz q:=λq hq=>dz q (List.mem_filter.mp hq).1
 have t1:u6 (m2 gNe (b0 4) (N2 b8)) [ξ (.v (.tuple [ww,.list (ps.map j9)])),ξ (.v (kd K)),ξ (.v (wrd be)),ξ (.own ds),ξ (.own (ds.filter isS)),ζ]=ξ (!(ds.filter isS).isEmpty):=G0 (r:= .bor (ds.filter isS)) rfl (q:= .own []) rfl (c4W bz)
 rcases cs with⟨es,h1,h2,h3⟩|⟨h1,q,r,h2,h3⟩
 ·rw [h3] at t1
  have en:es≠[]:=λz=>by
   rw [z] at h2;rw [hds] at h2;exact hp0 (List.map_eq_nil_iff.mp h2)
  obtain⟨p,e1,s⟩:=c0U be en
  rw [h1,AO]
  refine⟨p, ?_,s⟩
  rw [h3]
  refine(b7 t1).trans ?_
  show l0 _ [ξ (.v (.tuple [ww,.list (ps.map j9)])),ξ (.v (kd K)),ξ (.v (wrd be)),ξ (.v (.list ds)),ξ (.own []),ζ]=_
  rw [h2]
  exact G1 ((O6 rfl rfl).trans e1)
 ·rw [h2] at t1
  rw [h1,h2]
  exact⟨q,l7 t1 (J7 (r:= .bor (q::r)) (q:= .v (.int 0)) rfl rfl (at0 (.inl rfl))),h3⟩
theorem c0B(K:NL x6)(w:List Nat){ek ed:M}{ρ:c5}{p:PV}(h1:ρ[1]?=ξ (ξ (.v (kd K))))(hk:ek ρ=ξ (.v (row w)))(hd:ed ρ=ξ (.v p)):a9j 1 ek ed ρ=ξ (.v (((C4 K w).map PR).getD p)):=by
 unfold a9j;rw [hk];show(b3y (.v (row w))).bind _=_;rw [show b3y (.v (row w))=ξ (S w) from rfl,AO,hd];show(ξ p).bind _=_;rw [AO,b4f h1 (a5f PR K),AO,a40]
theorem b6A(m:Mo)(ok:y6 m)(ih:∀p,y6 p->t7 p<t7 m->∃q,R [j9 p,kd K]=ξ (.v q)/\RS (z8 K p) q):∃q,m4 4 (a1e R) [j9 m,kd K]=ξ (.v q)/\RS (z8 K m) q:=by
 refine b2D ?_;show a69 _ (a1e R [ξ (.v (j9 m)),ξ (.v (kd K)),ζ,ζ,ζ,ζ]);unfold a1e;cases m with
 |plain rows=>
  ext r
  obtain⟨v,v1,v2,v3,v4,v5⟩:=ok;rw [z8];cases rows with
  |nil=>simp at v3
  |cons r rows=>
   rw [j9,g6 (p:= .str (AC "plain")) rfl];have hr:r.length<=10000:=by have:=v5 r AZ;lia
   have hl:B4 (.v (.tuple ((r::rows).map row)))=ξ (.v (.int (((r::rows).length:Nat):Int))):=by
    show ξ _=_;rw [AW]
   exact⟨PR ((r::rows).length,r.length),l7 rfl (c10 (one (r:= .v (.tuple ((r::rows).map row))) rfl hl) (one (r:= .v (row r)) (J7 (r:= .v (.tuple ((r::rows).map row))) (q:= .v (.int 0)) rfl rfl (at0 (.inr rfl))) (a61 hr))),rfl⟩
 |named w=>
  rw [j9,g6 (p:= .str (AC "name")) rfl,b7 rfl,z8];have e:=c0B K w (ek:=m2 k6 (b0 0) (mC (.int 1))) (ed:=u5 (a8 (mC (.str (AC "name"))) (a8 (m2 k6 (b0 0) (mC (.int 1))) b8))) (ρ:=[ξ (.v (.tuple [.str (AC "name"),row w])),ξ (.v (kd K)),ξ (.v (.str (AC "name"))),ζ,ζ,ζ]) (p:= .tuple [.str (AC "name"),row w]) rfl rfl rfl;refine⟨_,l7 rfl e, ?_⟩;cases C4 K w with
  |none=>exact⟨_,_,rfl⟩
  |some d=>rfl
 |beside ps=>
  ext r
  have d:t7 (.beside ps)=1+a1D ps:=by rw [t7]
  rw [j9,X2,g6 (p:= .str (AC "beside")) rfl,b7 rfl,b7 rfl,z8];obtain⟨q,e,s⟩:=b0c (R:=R) (K:=K) true (ww:= .str (AC "beside")) (ps:=ps) (by intro e;rw [e] at ok;simp at ok) ok.2.1 λp hp=>ih p (C5 ok.2.2 hp) (by have:=E4 hp;lia)
  exact⟨q,M3 rfl e,s⟩
 |above ps=>
  ext r
  have d:t7 (.above ps)=1+a1D ps:=by rw [t7]
  rw [j9,X2,g6 (p:= .str (AC "above")) rfl,b7 rfl,b7 rfl,z8];obtain⟨q,e,s⟩:=b0c (R:=R) (K:=K) false (ww:= .str (AC "above")) (ps:=ps) (by intro e;rw [e] at ok;simp at ok) ok.2.1 λp hp=>ih p (C5 ok.2.2 hp) (by have:=E4 hp;lia)
  exact⟨q,M3 rfl e,s⟩
 |across k p=>
  ext r
  obtain⟨q,e,s⟩:=ih p ok.2.2 (by rw [t7];lia)
  rw [j9,g6 (p:= .str (AC "across")) rfl,b7 rfl,b7 rfl,b7 rfl,g6 ((O6 rfl rfl).trans e),z8];have t1:=b9d (b:=u6 (m2 D0 (b0 2) (mC (.str (AC "dye"))))) (y:=false) (b1Y (a1R (x:=b0 5) (ρ:=[ξ (.v (.tuple [.str (AC "across"),.int (k:Nat),j9 p])),ξ (.v (kd K)),ξ (.v (.str (AC "across"))),ζ,ζ,ξ (.v q)]) s.sz rfl)) rfl;cases es:z8 K p with
  |none=>
   rw [es] at s;obtain⟨z,y,rfl⟩:=s;exact⟨_,a7p t1 rfl,_,_,rfl⟩
  |some d=>
   rw [es] at s;obtain rfl:q=PR d:=s;refine Eq.mpr (congrArg _ ((b7 t1).trans (b7 rfl))) ?_;refine Eq.mpr (congrArg _ (N3 (ρ':=[ξ (.v (.tuple [.str (AC "across"),.int (k:Nat),j9 p])),ξ (.v (kd K)),ξ (.v (.str (AC "across"))),ζ,ζ,ξ (.v (PR (d.1,d.2*k)))]) ?_)) (b48 (d.1,d.2*k) (λz=> ?_) (λz=> ?_))
   ·rw [a3A rfl];have hc:((d.2:Nat):Int)*(k:Nat)=((d.2*k:Nat):Int):=by rw [Int.natCast_mul]
    exact X5 (p:=PR (d.1,d.2*k)) (c10 (ρ:=[ξ (.v (.tuple [.str (AC "across"),.int (k:Nat),j9 p])),ξ (.v (kd K)),ξ (.v (.str (AC "across"))),ζ,ζ,ξ (.v (PR d))]) rfl (hc▸mlv (a:=m2 k6 (b0 5) (mC (.int 1))) (b:=m2 k6 (b0 0) (mC (.int 1))) (x:=(d.2:Nat)) (k:=(k:Nat)) rfl rfl (by lia)))
   ·rw [AO];unfold a0N;rw [if_pos rfl,if_pos z]
   ·rw [AO];unfold a0N;rw [if_pos rfl,if_neg z]
 |down k p=>
  ext r
  obtain⟨q,e,s⟩:=ih p ok.2.2 (by rw [t7];lia)
  rw [j9,g6 (p:= .str (AC "down")) rfl,b7 rfl,b7 rfl,b7 rfl,g6 ((O6 rfl rfl).trans e),z8];have t1:=b9d (b:=u6 (m2 D0 (b0 2) (mC (.str (AC "dye"))))) (y:=false) (b1Y (a1R (x:=b0 5) (ρ:=[ξ (.v (.tuple [.str (AC "down"),.int (k:Nat),j9 p])),ξ (.v (kd K)),ξ (.v (.str (AC "down"))),ζ,ζ,ξ (.v q)]) s.sz rfl)) rfl;cases es:z8 K p with
  |none=>
   rw [es] at s;obtain⟨z,y,rfl⟩:=s;exact⟨_,a7p t1 rfl,_,_,rfl⟩
  |some d=>
   rw [es] at s;obtain rfl:q=PR d:=s;refine Eq.mpr (congrArg _ ((b7 t1).trans (b7 rfl))) ?_;refine Eq.mpr (congrArg _ (N3 (ρ':=[ξ (.v (.tuple [.str (AC "down"),.int (k:Nat),j9 p])),ξ (.v (kd K)),ξ (.v (.str (AC "down"))),ζ,ζ,ξ (.v (PR (d.1*k,d.2)))]) ?_)) (b48 (d.1*k,d.2) (λz=> ?_) (λz=> ?_))
   ·rw [a7i rfl];have hc:((d.1:Nat):Int)*(k:Nat)=((d.1*k:Nat):Int):=by rw [Int.natCast_mul]
    exact X5 (p:=PR (d.1*k,d.2)) (c10 (ρ:=[ξ (.v (.tuple [.str (AC "down"),.int (k:Nat),j9 p])),ξ (.v (kd K)),ξ (.v (.str (AC "down"))),ζ,ζ,ξ (.v (PR d))]) (hc▸mlv (a:=m2 k6 (b0 5) (mC (.int 0))) (b:=m2 k6 (b0 0) (mC (.int 1))) (x:=(d.1:Nat)) (k:=(k:Nat)) rfl rfl (by lia)) rfl)
   ·rw [AO];unfold a0N;rw [if_neg Ac,if_pos z]
   ·rw [AO];unfold a0N;rw [if_neg Ac,if_neg z]
 |turned w p=>
  ext r
  obtain⟨q,e,s⟩:=ih p ok.2 (by rw [t7];lia)
  rw [j9,g6 (p:= .str (AC "turned")) rfl,b7 rfl,b7 rfl,b7 rfl,g6 ((O6 rfl rfl).trans e),z8];have t1:=b9d (b:=u6 (m2 D0 (b0 2) (mC (.str (AC "dye"))))) (y:=false) (b1Y (a1R (x:=b0 5) (ρ:=[ξ (.v (.tuple [.str (AC "turned"),row w,j9 p])),ξ (.v (kd K)),ξ (.v (.str (AC "turned"))),ζ,ζ,ξ (.v q)]) s.sz rfl)) rfl;cases es:z8 K p with
  |none=>
   rw [es] at s;obtain⟨z,y,rfl⟩:=s;exact⟨_,a7p t1 rfl,_,_,rfl⟩
  |some d=>
   rw [es] at s;obtain rfl:q=PR d:=s;refine Eq.mpr (congrArg _ (b7 t1)) ?_;have t2:u6 (m2 (b1h false) (m2 k6 (b0 0) (mC (.int 1))) (N2 (a8 (mC (.str (AC "turn"))) (a8 (mC (.str (AC "back"))) (a8 (mC (.str (AC "cross"))) (a8 (mC (.str (AC "other"))) b8)))))) [ξ (.v (.tuple [.str (AC "turned"),row w,j9 p])),ξ (.v (kd K)),ξ (.v (.str (AC "turned"))),ζ,ζ,ξ (.v (PR d))]=ξ (a4x w):=G0 (r:= .v (row w)) rfl (q:= .own [.str (AC "turn"),.str (AC "back"),.str (AC "cross"),.str (AC "other")]) rfl (b75 ok.1);rw [BA];unfold b2Q;cases hv:a4x w with
   |true=>rw [hv] at t2;exact⟨PR (d.2,d.1),M3 rfl (l7 t2 rfl),rfl⟩
   |false=>rw [hv] at t2;exact⟨PR d,M3 rfl ((b7 t2).trans rfl),rfl⟩
 |dyed x y p=>
  ext r
  obtain⟨q,e,s⟩:=ih p ok.2.2 (by rw [t7];lia)
  rw [j9,g6 (p:= .str (AC "dye")) rfl,b7 rfl,b7 rfl,b7 rfl,g6 ((O6 rfl rfl).trans e),z8];have t1:=b9d (b:=u6 (m2 D0 (b0 2) (mC (.str (AC "dye"))))) (y:=true) (b1Y (a1R (x:=b0 5) (ρ:=[ξ (.v (.tuple [.str (AC "dye"),row [x],row [y],j9 p])),ξ (.v (kd K)),ξ (.v (.str (AC "dye"))),ζ,ζ,ξ (.v q)]) s.sz rfl)) rfl;rw [Bool.or_true] at t1;exact⟨q,a7p t1 rfl,s⟩
end
theorem a4w(K:NL x6):∀(n:Nat) (m:Mo),y6 m->t7 m<=n->∃q,a4o n [j9 m,kd K]=ξ (.v q)/\RS (z8 K m) q
 |0,m,_,h=>by have:=a0d m;lia
 |n+1,m,ok,h=>b6A m ok λp okp hp=>a4w K n p okp (by lia)
def KM(M:Nat)(K:NL x6):Prop:=∀x∈K,x.1∈a7U/\1<=x.2.1/\x.2.1<=M/\1<=x.2.2/\x.2.2<=M
def b5w(d:x6):Prop:=1<=d.1/\1<=d.2
theorem a74{be:Bool}:∀{ds:List x6} {x y:x6},b5w x->V5 be x ds=ξ y->b5w y
 |[],x,y,h,e=>by cases e;exact h
 |d::ds,x,y,h,e=>by
  rw [V5] at e;obtain⟨z,e1,e⟩:=bind_some e;refine a74 ?_ e;unfold a0v at e1;unfold b5w at*;split at e1<;>split at e1<;>cases e1<;>simp only<;>lia
section
variable {K:NL x6}(hK:∀w d,C4 K w=ξ d->b5w d)
include hK
theorem a1X:∀(n:Nat) (m:Mo) (d:x6),y6 m->t7 m<=n->z8 K m=ξ d->b5w d
 |0,m,_,_,h,_=>by have:=a0d m;lia
 |n+1,m,d,ok,h,e=>by
  have lst:∀(ps:List Mo) (ds:List x6),a2E ps->a1D ps<=n->J6 K ps=ξ ds->∀d∈ds,b5w d:=λps=>by
   induction ps with
   |nil=>intro ds _ _ e;rw [J6] at e;cases e;intro d hd;cases hd
   |cons p ps ih=>
    ext q
    cases e2:J6 K ps with
    |none=>rw [e2] at e;cases e
    |some es=>
     rw [e2] at e;cases e;intro x hx;rcases Ab.mp hx with rfl|hx
     ·exact a1X n p _ o.1 (by lia) e1
     ·exact ih es o.2 (by lia) e2 x hx
  cases m with
  |plain rows=>
   ext r
   obtain⟨v,v1,v2,v3,v4,v5⟩:=ok;rw [z8] at e;cases e;cases rows with
   |nil=>simp at v3
   |cons r rows=>have:=v5 r AZ;exact⟨v3,by show 1<=r.length;lia⟩
  |named w=>rw [z8] at e;exact hK w d e
  |beside ps=>
   ext g
   ext t
   cases ds with
   |nil=>cases e
   |cons x ds=>exact a74 (hp x AZ) e
  |above ps=>
   ext g
   ext t
   cases ds with
   |nil=>cases e
   |cons x ds=>exact a74 (hp x AZ) e
  |across k p=>
   ext g
   obtain⟨x,e1,e⟩:=bind_some e;have hp:=a1X n p x ok.2.2 (by lia) e1
   ext w
   ·cases e;exact⟨hp.1,Nat.mul_pos hp.2 ok.1⟩
   ·cases e
  |down k p=>
   ext g
   obtain⟨x,e1,e⟩:=bind_some e;have hp:=a1X n p x ok.2.2 (by lia) e1
   ext x
   ·cases e;exact⟨Nat.mul_pos hp.1 ok.1,hp.2⟩
   ·cases e
  |turned w p=>
   ext g
   cases e1:z8 K p with
   |none=>rw [e1] at e;cases e
   |some x=>
    rw [e1] at e;cases e;have hp:=a1X n p x ok.2 (by lia) e1
    unfold b2Q;split
    ·exact⟨hp.2,hp.1⟩
    ·exact hp
  |dyed a b p=>
   ext g
   exact a1X n p d ok.2.2 (by lia) e
end
def okS(K:NL x6)(M:Nat)(m:Mo):Prop:=∃d,z8 K m=ξ d/\1<=d.1/\d.1<=M/\1<=d.2/\d.2<=M
def c0S(m:Mo):Prop:=y6 m/\t7 m=1/\(O0 m).length<=13
theorem b6x{rows:List (List Nat)}(h1:okP rows)(h2:(K7 [47] rows).length<=11):c0S (.plain rows):=by
 refine⟨by rw [y6];exact h1,by rw [t7], ?_⟩
 rw [O0];simp only [AY,AX,Am];lia
theorem c1t{K:NL x6}{M:Nat}(hM:3<=M){rows:List (List Nat)}(h:okP rows):okS K M (.plain rows):=by
 obtain⟨v,v1,v2,v3,v4,v5⟩:=h;refine⟨_,by rw [z8], ?_⟩
 cases rows with
 |nil=>simp at v3
 |cons r rows=>have:=v5 r AZ;exact⟨v3,by lia,by show 1<=r.length;lia,by show r.length<=M;lia⟩
theorem b8X{w:List Nat}(h:w∈a7U):c0S (.named w):=by
 have l:∀w∈a7U,w.length<=5:=by decide
 have:=l w h;refine⟨by rw [y6];exact h,by rw [t7],by rw [O0];lia⟩
theorem c1C(R:List (List Nat))(n:Nat):F8 (R.map row) n=true:=b4O λp hp=>by
 obtain⟨l,_,rfl⟩:=BC.mp hp;cases n<;>rfl
theorem c2Y(ns:List (List Nat)):gNe (.v (.list (ns.map row))) (.own [])=ξ (.v (.bool (!ns.isEmpty))):=by
 have e:gNe (.v (.list (ns.map row))) (.own [])=if F8 (ns.map row) 49=true/\F8 [] 49=true then ξ (.v (.bool (!PyData.eqv (.list (ns.map row)) (.list [])))) else ζ:=rfl
 rw [e,if_pos ⟨c1C ns 49,rfl⟩];cases ns<;>rfl
section
variable {K:NL x6}{M:Nat}(hM:3<=M)(hK:KM M K)(hl:K.length<=100)
include hM hK hl
theorem b7B(N:Int):∃m,c0S m/\okS K M m/\a1n [.int N,.list ((K.map (·.1)).map row)]=ξ (.v (j9 m)):=by
 obtain⟨ns,hns⟩:∃ns,ns=K.map (·.1):=⟨_,rfl⟩;rw [<-hns];have e1:u6 (m2 gNe (b0 1) (N2 b8)) [ξ (.v (.int N)),ξ (.v (.list (ns.map row)))]=ξ (!ns.isEmpty):=G0 (r:= .v (.list (ns.map row))) rfl (q:= .own []) rfl (c2Y ns);have e2:m2 (J2 (λ_ j=>0<j) λi j=> .int (i % j)) (m2 (J2 (λ_ j=>0<j) λi j=> .int (i % j)) (m2 r6 (b0 0) (mC (.int 40692))) (mC (.int 999961))) (mC (.int 5)) [ξ (.v (.int N)),ξ (.v (.list (ns.map row)))]=ξ (.v (.int (N*40692 % 999961 % 5))):=md (md (ml rfl (by lia)) rfl (by lia)) rfl (by lia)
 have e3:u6 (m2 a62 (m2 (J2 (λ_ j=>0<j) λi j=> .int (i % j)) (m2 (J2 (λ_ j=>0<j) λi j=> .int (i % j)) (m2 r6 (b0 0) (mC (.int 40692))) (mC (.int 999961))) (mC (.int 5))) (mC (.int 3))) [ξ (.v (.int N)),ξ (.v (.list (ns.map row)))]=ξ (decide (N*40692 % 999961 % 5<3)):=G0 e2 (q:= .v (.int 3)) rfl rfl;have e4:R1 (u6 (m2 gNe (b0 1) (N2 b8))) (u6 (m2 a62 (m2 (J2 (λ_ j=>0<j) λi j=> .int (i % j)) (m2 (J2 (λ_ j=>0<j) λi j=> .int (i % j)) (m2 r6 (b0 0) (mC (.int 40692))) (mC (.int 999961))) (mC (.int 5))) (mC (.int 3)))) [ξ (.v (.int N)),ξ (.v (.list (ns.map row)))]=ξ (!ns.isEmpty && decide (N*40692 % 999961 % 5<3)):=by
  unfold R1;rw [e1,AO,e3];cases ns.isEmpty<;>rfl
 by_cases hc:(!ns.isEmpty && decide (N*40692 % 999961 % 5<3))=true
 ·rw [hc] at e4;have h0:0<ns.length:=by
   cases ns with
   |nil=>cases hc
   |cons a l=>simp
  have hj0:0<=N*39373 % 999953 %(ns.length:Nat):=Int.emod_nonneg _ (by lia)
  have hj1:N*39373 % 999953 %(ns.length:Nat)<(ns.length:Nat):=Int.emod_lt_of_pos _ (by lia)
  obtain⟨t,ht⟩:∃t:Nat,(t:Int)=N*39373 % 999953 %(ns.length:Nat):=⟨(N*39373 % 999953 %(ns.length:Nat)).toNat,by lia⟩
  have htl:t<ns.length:=by lia
  have ew:k6 (.v (.list (ns.map row))) (.v (.int (N*39373 % 999953 %(ns.length:Nat))))=ξ (.v (row ns[t])):=by
   rw [<-ht];exact b4U (by rw [b14,Ao,Av htl];rfl)
  have hm:ns[t]∈K.map (·.1):=hns▸List.getElem_mem htl;obtain⟨d,hd⟩:=b49 hm;have hx:=hK _ (a0x hd);refine⟨.named ns[t],b8X hx.1,⟨d,by rw [z8];exact hd,hx.2⟩,n4 (n:=0) ?_⟩
  show a1b [ξ (.v (.int N)),ξ (.v (.list (ns.map row)))]=_;unfold a1b;refine l7 e4 ?_;rw [j9];have gl:B4 (.v (.list (ns.map row)))=ξ (.v (.int (ns.length:Nat))):=by
   show ξ _=_;rw [AW]
  have ei:=J7 (g:=k6) (x:=b0 1) (r:= .v (.list (ns.map row))) (ρ:=[ξ (.v (.int N)),ξ (.v (.list (ns.map row)))]) rfl (md (b:=m1 B4 (b0 1)) (k:=(ns.length:Nat)) (md (b:=mC (.int 999953)) (k:=999953) (ml (a:=b0 0) (x:=N) (k:=39373) rfl (by lia)) rfl (by lia)) (one rfl gl) (by lia)) ew
  unfold u5 a8;rw [ei]
  rfl
 ·rw [Bool.eq_false_iff.mpr hc] at e4;obtain⟨rows,h1,h2,h3⟩:=c1s N;refine⟨.plain rows,b6x h1 h2,c1t hM h1,n4 (n:=0) ?_⟩;show a1b [ξ (.v (.int N)),ξ (.v (.list (ns.map row)))]=_;unfold a1b;rw [b7 e4];exact G1 ((N5 rfl).trans h3)
omit hM hK hl in
theorem c2w{r:Mo}{q:PV}(s:RS (z8 K r) q){ρ:c5}(h8:ρ[8]?=ξ (ξ (.v q)))(h3:ρ[3]?=ξ (ξ (.v (.int (M:Nat))))):∃b:Bool,b6C (c0Y (m1 (a4a "str") (m2 k6 (b0 8) (mC (.int 0))))) (m2 c2D (m1 a2A (b0 8)) (b0 3)) ρ=ξ (.v (.bool b))/\(b=true->∃d,z8 K r=ξ d/\d.1<=M/\d.2<=M):=by
 have v8:b0 8 ρ=ξ (.v q):=by unfold b0;rw [h8]
 have v3:b0 3 ρ=ξ (.v (.int (M:Nat))):=by unfold b0;rw [h3]
 have e1:=a1R s.sz v8;have e2:c0Y (m1 (a4a "str") (m2 k6 (b0 8) (mC (.int 0)))) ρ=ξ (.v (.bool (!isS q))):=by
  unfold c0Y;rw [e1]
  rfl
 unfold b6C;rw [e2];cases es:z8 K r with
 |none=>
  rw [es] at s;obtain⟨z,y,rfl⟩:=s;exact⟨false,rfl,λh=>nomatch h⟩
 |some d=>
  rw [es] at s;obtain rfl:q=PR d:=s;obtain⟨k,hk,k1,k2,k3⟩:=b6H d;exact⟨decide (k<=(M:Nat)),J7 (one v8 hk) v3 rfl,λh=>⟨d,rfl,by have:=of_decide_eq_true h;lia,by have:=of_decide_eq_true h;lia⟩⟩
def N1(N:Int)(m:Mo)(q5 q6 q7 q8 q9:Option d7):c5:=[ξ (.v (.int N)),ξ (.v (kd K)),ξ (.v (.list ((K.map (·.1)).map row))),ξ (.v (.int (M:Nat))),ξ (.v (j9 m)),q5,q6,q7,q8,q9]
omit hM hK hl in
theorem c3T{a b:MT}{ρ:c5}{y:Bool}(h1:a ρ=ξ true)(h2:b ρ=ξ y):R1 a b ρ=ξ y:=by
 unfold R1;rw [h1];exact h2
theorem b6r{N:Int}{m:Mo}(ok:y6 m)(hs:okS K M m){d:Nat}(hd:t7 m<=d)(hd2:1<=d/\d<=10)(hlm:(O0 m).length<=380){j:Nat}(hj:j<=3)(q6 q7 q8 q9:Option d7):∃m' q6' q7' q8' q9',y6 m'/\okS K M m'/\t7 m'<=d+2/\(O0 m').length<=380/\
 P4 (N1 (K:=K) (M:=M) N m (ξ (.v (.int (j:Nat)))) q6 q7 q8 q9)=ξ (.nx (N1 (K:=K) (M:=M) N m' (ξ (.v (.int (j:Nat)))) q6' q7' q8' q9')):=by
 obtain⟨A,hA⟩:∃A:Int,A=N*(2*(j:Nat)+39373) % 2147483629:=⟨_,rfl⟩
 obtain⟨l,hl1,_,el⟩:=b7B hM hK hl (A*7+1)
 obtain⟨r,er,okr,hdr,hlr⟩:=c3G ok hl1.1 A
 have dl:=hl1.2.1
 have ll:=hl1.2.2
 have dr:t7 r<=d+2:=by lia
 have lr:(O0 r).length<=4000:=by lia
 obtain⟨q,eq,sq⟩:=a4w K 12 r okr (by lia)
 have lt:Y6 [j9 r]=ξ (.v (row (O0 r))):=b42 12 r okr (by lia) lr
 have e1:m2 (J2 (λ_ j=>0<j) λi j=> .int (i % j)) (m2 r6 (b0 0) (m2 y8 (m2 r6 (mC (.int 2)) (b0 5)) (mC (.int 39373)))) (mC (.int 2147483629)) (N1 (K:=K) (M:=M) N m (ξ (.v (.int (j:Nat)))) q6 q7 q8 q9)=ξ (.v (.int A)):=by
  rw [hA];exact md (mlv rfl (adI (mlv rfl rfl (by lia)) rfl) (by lia)) rfl (by lia)
 have e2:j5 Y5 (a8 (b0 6) (a8 (b0 4) (a8 (j5 a1n (a8 (m2 y8 (m2 r6 (b0 6) (mC (.int 7))) (mC (.int 1))) (a8 (b0 2) b8))) b8))) (N1 (K:=K) (M:=M) N m (ξ (.v (.int (j:Nat)))) (ξ (.v (.int A))) q7 q8 q9)=ξ (.v (j9 r)):=(c3V rfl rfl ((O6 (adI (ml rfl (by lia)) rfl) rfl).trans el)).trans er
 have e3:j5 C9 (a8 (b0 7) (a8 (b0 1) b8)) (N1 (K:=K) (M:=M) N m (ξ (.v (.int (j:Nat)))) (ξ (.v (.int A))) (ξ (.v (j9 r))) q8 q9)=ξ (.v q):=(O6 rfl rfl).trans eq
 obtain⟨b,e4,hb⟩:=c2w (K:=K) (M:=M) sq (ρ:=N1 (K:=K) (M:=M) N m (ξ (.v (.int (j:Nat)))) (ξ (.v (.int A))) (ξ (.v (j9 r))) (ξ (.v q)) q9) rfl rfl
 have t1:Z1 (mtV (b0 9)) (u6 (m2 D0 (b0 3) (mC (.int 0)))) (N1 (K:=K) (M:=M) N m (ξ (.v (.int (j:Nat)))) (ξ (.v (.int A))) (ξ (.v (j9 r))) (ξ (.v q)) (ξ (.v (.bool b))))=ξ b:=by
  have z:u6 (m2 D0 (b0 3) (mC (.int 0))) (N1 (K:=K) (M:=M) N m (ξ (.v (.int (j:Nat)))) (ξ (.v (.int A))) (ξ (.v (j9 r))) (ξ (.v q)) (ξ (.v (.bool b))))=ξ false:=G0 (r:= .v (.int (M:Nat))) rfl (q:= .v (.int 0)) rfl (by rw [b7q];congr 3;rw [beq_eq_false_iff_ne];lia)
  have:=b9d (a:=mtV (b0 9)) (b:=u6 (m2 D0 (b0 3) (mC (.int 0)))) (x:=b) (ρ:=N1 (K:=K) (M:=M) N m (ξ (.v (.int (j:Nat)))) (ξ (.v (.int A))) (ξ (.v (j9 r))) (ξ (.v q)) (ξ (.v (.bool b)))) (b1Y rfl) z;rw [Bool.or_false] at this;exact this
 have t2:u6 (m2 a62 (m1 B4 (j5 Y6 (a8 (b0 7) b8))) (mC (.int 381))) (N1 (K:=K) (M:=M) N m (ξ (.v (.int (j:Nat)))) (ξ (.v (.int A))) (ξ (.v (j9 r))) (ξ (.v q)) (ξ (.v (.bool b))))=ξ (decide (((O0 r).length:Int)<381)):=
  G0 (r:= .v (.int ((O0 r).length:Nat))) (one ((N5 rfl).trans lt) (a61 (by lia))) (q:= .v (.int 381)) rfl rfl
 have t3:R1 (Z1 (mtV (b0 9)) (u6 (m2 D0 (b0 3) (mC (.int 0))))) (u6 (m2 a62 (m1 B4 (j5 Y6 (a8 (b0 7) b8))) (mC (.int 381)))) (N1 (K:=K) (M:=M) N m (ξ (.v (.int (j:Nat)))) (ξ (.v (.int A))) (ξ (.v (j9 r))) (ξ (.v q)) (ξ (.v (.bool b))))=ξ (b && decide (((O0 r).length:Int)<381)):=by
  unfold R1;rw [t1,AO,t2];cases b<;>rfl
 have go:∀o,o9 (R1 (Z1 (mtV (b0 9)) (u6 (m2 D0 (b0 3) (mC (.int 0))))) (u6 (m2 a62 (m1 B4 (j5 Y6 (a8 (b0 7) b8))) (mC (.int 381))))) (p0 4 (b0 7)) l9 (N1 (K:=K) (M:=M) N m (ξ (.v (.int (j:Nat)))) (ξ (.v (.int A))) (ξ (.v (j9 r))) (ξ (.v q)) (ξ (.v (.bool b))))=o->P4 (N1 (K:=K) (M:=M) N m (ξ (.v (.int (j:Nat)))) q6 q7 q8 q9)=o:=λo h=>by
  unfold P4;refine(g6 e1).trans ?_;refine(g6 e2).trans ?_;refine(g6 e3).trans ?_;refine(g6 e4).trans ?_;exact h
 by_cases hc:(b && decide (((O0 r).length:Int)<381))=true
 ·rw [hc] at t3
  rw [Bool.and_eq_true,decide_eq_true_eq] at hc
  obtain⟨d',f1,f2,f3⟩:=hb hc.1
  have fp:=a1X (K:=K) (λw d h=>⟨(hK _ (a0x h)).2.1,(hK _ (a0x h)).2.2.2.1⟩) _ r d' okr (AS _) f1
  exact⟨r,_,_,_,_,okr,⟨d',f1,fp.1,f2,fp.2,f3⟩,dr,by lia,go _ ((a3A t3).trans (X5 rfl))⟩
 ·rw [Bool.eq_false_iff.mpr hc] at t3
  exact⟨m,_,_,_,_,ok,hs,by lia,hlm,go _ ((a7i t3).trans rfl)⟩
theorem c0E(N:Int):∃m,y6 m/\okS K M m/\t7 m<=8/\(O0 m).length<=380/\P3 [.int N,kd K,.list ((K.map (·.1)).map row),.int (M:Nat)]=ξ (.v (j9 m)):=by
 obtain⟨l,hl',hsl,el⟩:=b7B hM hK hl N;obtain⟨n,hn1,hn⟩:∃n:Nat,n<=3/\((n:Nat):Int)=N*69621 % 1000003 % 4:=⟨(N*69621 % 1000003 % 4).toNat,by lia,by lia⟩
 have e4:M1 (a8 (m2 (J2 (λ_ j=>0<j) λi j=> .int (i % j)) (m2 (J2 (λ_ j=>0<j) λi j=> .int (i % j)) (m2 r6 (b0 0) (mC (.int 69621))) (mC (.int 1000003))) (mC (.int 4))) b8) (N1 (K:=K) (M:=M) N l ζ ζ ζ ζ ζ)=ξ ((AT n).map λk=> .int (k:Nat)):=by
  refine L0 ?_ (by lia)
  rw [hn];exact md (md (ml rfl (by lia)) rfl (by lia)) rfl (by lia)
 have l1:=hl'.2.1;have l2:=hl'.2.2;obtain⟨ρ',e5,m,q5,q6,q7,q8,q9,h1,h2,h3,h4,rfl⟩:=a2z (body:=P4) (tg:=j6 5) (λj ρ=>∃(m:Mo) (q5 q6 q7 q8 q9:Option d7),y6 m/\okS K M m/\t7 m<=1+2*j/\(O0 m).length<=380/\ρ=N1 (K:=K) (M:=M) N m q5 q6 q7 q8 q9)
  (ps:=(AT n).map λk=> .int (k:Nat)) (ρ:=N1 (K:=K) (M:=M) N l ζ ζ ζ ζ ζ)
  (by
   rintro j p hp ρ ⟨m,q5,q6,q7,q8,q9,h1,h2,h3,h4,rfl⟩;obtain⟨rfl,hj⟩:=a7u hp;obtain⟨m',q6',q7',q8',q9',k1,k2,k3,k4,eb⟩:=b6r hM hK hl (N:=N) h1 h2 h3 (by lia) h4 (j:=j) (by lia) q6 q7 q8 q9
   exact a7J (ρ1:=N1 (K:=K) (M:=M) N m (ξ (.v (.int (j:Nat)))) q6 q7 q8 q9) rfl eb ⟨m',_,_,_,_,_,k1,k2,by lia,k4,rfl⟩)
  ⟨l,_,_,_,_,_,hl'.1,hsl,by lia,by lia,rfl⟩
 rw [AW,Ak] at h3;refine⟨m,h1,h2,by lia,h4,n4 (n:=6) ?_⟩
 show a3T [ξ (.v (.int N)),ξ (.v (kd K)),ξ (.v (.list ((K.map (·.1)).map row))),ξ (.v (.int (M:Nat))),ζ,ζ,ζ,ζ,ζ,ζ]=_;unfold a3T;refine(g6 ((O6 rfl rfl).trans el)).trans ?_;obtain⟨q,eq,sq⟩:=a4w K 12 l hl'.1 (by lia)
 obtain⟨d,hd,_⟩:=hsl;rw [hd] at sq;obtain rfl:q=PR d:=sq;have t1:R1 (u6 (m2 (gI λi j=> .bool (decide (j<i))) (b0 3) (mC (.int 0)))) (mtV (m1 (a4a "str") (m2 k6 (j5 C9 (a8 (b0 4) (a8 (b0 1) b8))) (mC (.int 0))))) (N1 (K:=K) (M:=M) N l ζ ζ ζ ζ ζ)=ξ false:=by
  refine c3T (G0 (r:= .v (.int (M:Nat))) rfl (q:= .v (.int 0)) rfl (by show ξ (d7.v (.bool (decide ((0:Int)<(M:Nat)))))=_;rw [decide_eq_true (by lia)])) ?_
  exact b1Y (a1R (p:=PR d) (.inl ⟨d,rfl⟩) ((O6 rfl rfl).trans eq))
 refine(b7 t1).trans ?_;refine(Y4 e4 e5).trans ?_
 rfl
end
theorem c08(c:Int){k:Nat}(hk:k<=100):∃N:Int,L8 [.int c,.int (k:Nat)]=ξ (.v (.int N)):=by
 refine⟨c % 10 ^ 18*(2*(k:Int)+3)+(k:Int)*k, ?_⟩;have m1:r6 (.v (.int (k:Nat))) (.v (.int (k:Nat)))=ξ (.v (.int ((k:Int)*k))):=b3o (by lia)
 unfold L8 a6O;simp! [c0o,b3o,c0w,c0y,W1,a4y,E8,R4,S5,a2e,G9,N9,AO,AN,An,Al,Ag,Int.reducePow,Int.reduceToNat,m1]
 try rfl
theorem c03:a1P []=ξ (.own (a7U.map row)):=by
 refine n4 (n:=0) ?_
 rfl
theorem b7e{ns:List Int}:∃c:Int,M6 [.list (ns.map .int),.int 0]=ξ (.v (.int c)):=by
 cases ns with
 |nil=>exact⟨0,n4 (n:=0) rfl⟩
 |cons a ns=>
  refine⟨a,n4 (n:=0) ?_⟩;have gl:B4 (.v (.list ((a::ns).map .int)))=ξ (.v (.int ((a::ns).length:Nat))):=by rw [a7Z,AW]
  have t:u6 (m2 a62 (b0 1) (m1 B4 (b0 0))) [ξ (.v (.list ((a::ns).map .int))),ξ (.v (.int 0))]=ξ true:=by
   refine G0 (r:= .v (.int 0)) (q:= .v (.int ((a::ns).length:Nat))) rfl (one rfl gl) ?_;show ξ (d7.v (.bool (decide ((0:Int)<((a::ns).length:Nat)))))=_;rw [decide_eq_true (by rw [AX];lia)]
  exact l7 t (J7 rfl rfl (b4U (c4k _ _)))
theorem c56{a b:MT}{ρ:c5}(h1:a ρ=ξ true):Z1 a b ρ=ξ true:=by
 unfold Z1;rw [h1]
 rfl
theorem b3C{i:Nat}{m:M}{ρ:c5}{kvs:List (List u8×PV)}{r:d7}(h:ρ[i]?=ξ (ξ (.ow (.txt kvs))))(e:m (ρ.set i (ξ (.v (tv kvs))))=ξ r)(c:r.noK=true):W3 i m ρ=ξ r:=by
 unfold W3;rw [h];show(m _).bind _=_;rw [e,AO,if_pos c]
theorem a42{g:RF}{i:Nat}{m:M}{ρ:c5}{kvs:List (List u8×PV)}{p:PV}{r:d7}(h:ρ[i]?=ξ (ξ (.ow (.txt kvs))))(hm:m ρ=ξ (.v p))(e:g [p,tv kvs]=ξ r)(c:r.noK=true):W2 g i m ρ=ξ r:=by
 rw [b44 g i m ρ kvs h,hm];show(g [p,tv kvs]).bind _=_;rw [e,AO,if_pos c]
mutual
theorem a76:∀m:Mo,nk (j9 m)=true
 | .plain rows=>by
   rw [j9];show(nk (.tuple (rows.map row))&& true)=true;rw [Bool.and_true];show nkL (rows.map row)=true
   induction rows with
   |nil=>rfl
   |cons r rows ih=>rw [AN,nkL,ih];rfl
 | .named w=>by rw [j9];rfl
 | .beside ps=>by rw [j9];show(nkL (a4Z ps)&& true)=true;rw [b3H ps];rfl
 | .above ps=>by rw [j9];show(nkL (a4Z ps)&& true)=true;rw [b3H ps];rfl
 | .across k p=>by rw [j9];show(nk (j9 p)&& true)=true;rw [a76 p];rfl
 | .down k p=>by rw [j9];show(nk (j9 p)&& true)=true;rw [a76 p];rfl
 | .turned w p=>by rw [j9];show(nk (j9 p)&& true)=true;rw [a76 p];rfl
 | .dyed a b p=>by rw [j9];show(nk (j9 p)&& true)=true;rw [a76 p];rfl
theorem b3H:∀ps:List Mo,nkL (a4Z ps)=true
 |[]=>by rw [a4Z];rfl
 |p::ps=>by rw [a4Z,nkL,a76 p,b3H ps];rfl
end
theorem c07:∀K:NL x6,nkD (dN PR K)=true
 |[]=>rfl
 |(w,d)::K=>by
  show(nk (PR d)&& nkD (dN PR K))=true;rw [c07 K]
  rfl
inductive Rw where
 |lt (w:List Nat) (m:Mo)|ag (k:Nat) (w:List Nat) (m:Mo)
def Rw.nm:Rw->List Nat
 | .lt w _=>w
 | .ag _ w _=>w
def Rw.mo:Rw->Mo
 | .lt _ m=>m
 | .ag _ _ m=>m
def Rw.cnt:Rw->Nat
 | .lt _ _=>1
 | .ag k _ _=>k
def Rw.isA:Rw->Bool
 | .lt _ _=>false
 | .ag _ _ _=>true
def K0(f:Mo->PV):Rw->PV
 | .lt w m=> .tuple [.str (AC "let"),row w,f m]
 | .ag k w m=> .tuple [.str (AC "again"),.int (k:Nat),row w,f m]
def itK(w:List Nat)(m:Mo):Nat->NL x6->Option (NL x6)
 |0,K=>ξ K
 |n+1,K=>(z8 K m).bind λd=>itK w m n (U3 K w d)
structure OkR(M:Nat)(K:NL x6)(r:Rw)(K':NL x6):Prop where
 ok:y6 r.mo
 dp:t7 r.mo<=8
 a7U:r.nm∈a7U
 c1:1<=r.cnt
 c3:r.cnt<=3
 it:itK r.nm r.mo r.cnt K=ξ K'
 inn:r.isA=true->r.nm∈K.map (·.1)
def Chn(M:Nat):NL x6->List Rw->NL x6->Prop
 |K,[],K'=>K=K'
 |K,r::rs,K'=>∃K1,OkR M K r K1/\Chn M K1 rs K'
theorem Chn.snoc{M:Nat}:∀{rs:List Rw} {K K' K'':NL x6} {r:Rw},Chn M K rs K'->OkR M K' r K''->Chn M K (rs++[r]) K''
 |[],K,K',K'',r,h,o=>by cases h;exact⟨K'',o,rfl⟩
 |q::rs,K,K',K'',r,⟨K1,o1,h⟩,o=>⟨K1,o1,h.snoc o⟩
theorem KM.put{M:Nat}{K:NL x6}{w:List Nat}{d:x6}(h:KM M K)(hw:w∈LW.a7U)(hd:1<=d.1/\d.1<=M/\1<=d.2/\d.2<=M):KM M (U3 K w d):=λx hx=>by
 unfold U3 at hx;split at hx
 ·obtain⟨y,hy,rfl⟩:=BC.mp hx;split
  ·exact⟨(h y hy).1,hd⟩
  ·exact h y hy
 ·rcases Ax.mp hx with hx|hx
  ·exact h x hx
  ·rw [List.mem_singleton.mp hx];exact⟨hw,hd⟩
theorem KM.look{M:Nat}{K:NL x6}(h:KM M K){w:List Nat}{d:x6}(e:C4 K w=ξ d):b5w d:=⟨(h _ (a0x e)).2.1,(h _ (a0x e)).2.2.2.1⟩
section
variable {M:Nat}(hM:3<=M)
include hM
theorem a9v{m:Mo}(ok:y6 m)(dp:t7 m<=8){w:List Nat}(hw:w∈a7U){s2 s3:Option d7}:∀(n:Nat) (is:List PV),is.length=n->∀(K:NL x6) (q6 q7:Option d7),KM M K->K.length+n<=100->
 (z9 u3 (j6 6) is [ξ (.v (j9 m)),ξ (.v (row w)),s2,s3,ξ (.v (.int (M:Nat))),ξ (.ow (.txt (dN PR K))),q6,q7]=ξ (.rt (.v .none)))\/
 ∃K' q6' q7',itK w m n K=ξ K'/\KM M K'/\K'.length<=K.length+n/\z9 u3 (j6 6) is [ξ (.v (j9 m)),ξ (.v (row w)),s2,s3,ξ (.v (.int (M:Nat))),ξ (.ow (.txt (dN PR K))),q6,q7]=ξ (.nx [ξ (.v (j9 m)),ξ (.v (row w)),s2,s3,ξ (.v (.int (M:Nat))),ξ (.ow (.txt (dN PR K'))),q6',q7'])
 |0,[],_,K,q6,q7,h,_=> .inr ⟨K,q6,q7,rfl,h,by lia,rfl⟩
 |n+1,i::is,hi,K,q6,q7,h,hl=>by
  obtain⟨q,eq,sq⟩:=a4w K 12 m ok (by lia)
  have nq:(d7.v q).noK=true:=by
   rcases sq.sz with⟨d,rfl⟩|⟨z,y,rfl⟩<;>rfl
  have e1:W2 C9 5 (b0 0) [ξ (.v (j9 m)),ξ (.v (row w)),s2,s3,ξ (.v (.int (M:Nat))),ξ (.ow (.txt (dN PR K))),ξ (.v i),q7]=ξ (.v q):=a42 rfl rfl eq nq;have t1:=b1Y (a1R (x:=b0 7) (ρ:=[ξ (.v (j9 m)),ξ (.v (row w)),s2,s3,ξ (.v (.int (M:Nat))),ξ (.ow (.txt (dN PR K))),ξ (.v i),ξ (.v q)]) sq.sz rfl);have go:∀o,(j0 (o9 (Z1 (mtV (m1 (a4a "str") (m2 k6 (b0 7) (mC (.int 0))))) (u6 (m2 (gI λi j=> .bool (decide (j<i))) (m1 a2A (b0 7)) (b0 4)))) (l0 (mC .none)) l9) (a3z 5 (b0 1) (b0 7))) [ξ (.v (j9 m)),ξ (.v (row w)),s2,s3,ξ (.v (.int (M:Nat))),ξ (.ow (.txt (dN PR K))),ξ (.v i),ξ (.v q)]=o->u3 [ξ (.v (j9 m)),ξ (.v (row w)),s2,s3,ξ (.v (.int (M:Nat))),ξ (.ow (.txt (dN PR K))),ξ (.v i),q7]=o:=λo z=>by
   unfold u3;exact(g6 e1).trans z
  have fe:z9 u3 (j6 6) (i::is) [ξ (.v (j9 m)),ξ (.v (row w)),s2,s3,ξ (.v (.int (M:Nat))),ξ (.ow (.txt (dN PR K))),q6,q7]=(u3 [ξ (.v (j9 m)),ξ (.v (row w)),s2,s3,ξ (.v (.int (M:Nat))),ξ (.ow (.txt (dN PR K))),ξ (.v i),q7]).bind (λfl=>match fl with
   | .nx ρ2=>z9 u3 (j6 6) is ρ2
   | .ct ρ2=>z9 u3 (j6 6) is ρ2
   | .bk ρ2=>ξ (.nx ρ2)
   | .rt r=>ξ (.rt r)):=by
   rw [z9]
   rfl
  cases es:z8 K m with
  |none=>
   rw [es] at sq;obtain⟨z,y,rfl⟩:=sq
   left
   rw [fe,go _ (l7 (c56 t1) rfl)]
   rfl
  |some d=>
   rw [es] at sq;obtain rfl:q=PR d:=sq;obtain⟨k,hk,k1,k2,k3⟩:=b6H d;have t2:u6 (m2 (gI λi j=> .bool (decide (j<i))) (m1 a2A (b0 7)) (b0 4)) [ξ (.v (j9 m)),ξ (.v (row w)),s2,s3,ξ (.v (.int (M:Nat))),ξ (.ow (.txt (dN PR K))),ξ (.v i),ξ (.v (PR d))]=ξ (decide (((M:Nat):Int)<k)):=G0 (r:= .v (.int k)) (one rfl hk) (q:= .v (.int (M:Nat))) rfl rfl;have t3:=b9d t1 t2;have fp:=a1X (K:=K) (λw d e=>h.look e) _ m d ok (AS _) es
   by_cases hc:((M:Nat):Int)<k
   ·rw [decide_eq_true hc,Bool.or_true] at t3
    left
    rw [fe,go _ (l7 t3 rfl)]
    rfl
   ·rw [decide_eq_false hc,Bool.or_false] at t3;have e2:a3z 5 (b0 1) (b0 7) [ξ (.v (j9 m)),ξ (.v (row w)),s2,s3,ξ (.v (.int (M:Nat))),ξ (.ow (.txt (dN PR K))),ξ (.v i),ξ (.v (PR d))]=ξ (.nx [ξ (.v (j9 m)),ξ (.v (row w)),s2,s3,ξ (.v (.int (M:Nat))),ξ (.ow (.txt (dN PR (U3 K w d)))),ξ (.v i),ξ (.v (PR d))]):=by
     show(if(dN PR K).length<AM then ξ (Fl.nx _) else ζ)=_
     rw [if_pos (by rw [a98,sizeLine_eq];lia),<-b6S]
     rfl
    have hp:=a7s K w d;rcases a9v ok dp hw n is (by simpa using hi) (U3 K w d) (ξ (.v i)) (ξ (.v (PR d))) (h.put hw ⟨fp.1,by lia,fp.2,by lia⟩) (by lia) with z|⟨K',q6',q7',z1,z2,z3,z4⟩
    ·left
     rw [fe,go _ ((b7 t3).trans e2)];exact z
    ·right
     refine⟨K',q6',q7',by rw [itK,es];exact z1,z2,by lia, ?_⟩
     rw [fe,go _ ((b7 t3).trans e2)];exact z4
theorem b9M{m:Mo}(ok:y6 m)(dp:t7 m<=8){w:List Nat}(hw:w∈a7U){k:Nat}(hk:k<=3){K:NL x6}(h:KM M K)(hl:K.length<=60):C1 [j9 m,row w,.int (k:Nat),kd K,.int (M:Nat)]=ξ (.v .none)\/∃K',itK w m k K=ξ K'/\KM M K'/\K'.length<=K.length+k/\C1 [j9 m,row w,.int (k:Nat),kd K,.int (M:Nat)]=ξ (.ow (.txt (dN PR K'))):=by
 have e1:m1 a7Y (b0 3) [ξ (.v (j9 m)),ξ (.v (row w)),ξ (.v (.int (k:Nat))),ξ (.v (kd K)),ξ (.v (.int (M:Nat))),ζ,ζ,ζ]=ξ (.ow (.txt (dN PR K))):=by
  refine one (r:= .v (kd K)) rfl ?_;unfold a7Y;rw [c13 (a5f PR K),AO,if_pos (by rw [a98,sizeLine_eq];lia)]
 have e2:M1 (a8 (b0 2) b8) [ξ (.v (j9 m)),ξ (.v (row w)),ξ (.v (.int (k:Nat))),ξ (.v (kd K)),ξ (.v (.int (M:Nat))),ξ (.ow (.txt (dN PR K))),ζ,ζ]=ξ ((AT k).map λk=> .int (k:Nat)):=L0 rfl (by lia)
 have sq:∀n:MS,j0 (p0 5 (m1 a7Y (b0 3))) n [ξ (.v (j9 m)),ξ (.v (row w)),ξ (.v (.int (k:Nat))),ξ (.v (kd K)),ξ (.v (.int (M:Nat))),ζ,ζ,ζ]=n [ξ (.v (j9 m)),ξ (.v (row w)),ξ (.v (.int (k:Nat))),ξ (.v (kd K)),ξ (.v (.int (M:Nat))),ξ (.ow (.txt (dN PR K))),ζ,ζ]:=λn=>by
  unfold j0 p0;rw [e1]
  rfl
 rcases a9v hM ok dp hw (s2:=ξ (.v (.int (k:Nat)))) (s3:=ξ (.v (kd K))) k ((AT k).map λk=> .int (k:Nat)) (by simp) K ζ ζ h (by lia) with z|⟨K',q6,q7,z1,z2,z3,z4⟩
 ·left
  refine n4 (n:=3) ?_;show K3 [ξ (.v (j9 m)),ξ (.v (row w)),ξ (.v (.int (k:Nat))),ξ (.v (kd K)),ξ (.v (.int (M:Nat))),ζ,ζ,ζ]=_;unfold K3;rw [sq];exact b3l e2 z
 ·right
  refine⟨K',z1,z2,z3,n4 (n:=3) ?_⟩;show K3 [ξ (.v (j9 m)),ξ (.v (row w)),ξ (.v (.int (k:Nat))),ξ (.v (kd K)),ξ (.v (.int (M:Nat))),ζ,ζ,ζ]=_;unfold K3;rw [sq,Y4 e2 z4]
  rfl
end
theorem b8B{K:NL x6}(hl:K.length<=100):a20 (.v (kd K))=ξ (.own ((K.map (·.1)).map row)):=by
 unfold a20;rw [c13 (a5f PR K),AO,if_pos (by rw [a98,sizeLine_eq];lia),c2N]
theorem J5{g:RF}{ma:MA}{ρ:c5}{ps:List PV}(h:ma ρ=ξ ps):j5 g ma ρ=g ps:=by
 unfold j5;rw [h]
 rfl
theorem e9{x:M}{r:MA}{ρ:c5}{q:d7}{p:PV}{ps:List PV}(h:x ρ=ξ q)(hq:q.toVal=ξ p)(hr:r ρ=ξ ps):a8 x r ρ=ξ (p::ps):=by
 unfold a8;rw [h];show(q.toVal).bind _=_;rw [hq,AO,hr]
 rfl
section
variable {M:Nat}(hM:3<=M)
include hM
theorem a91{K:NL x6}(hK:KM M K)(hl:K.length<=100)(N:Int){ρ:c5}(h3:ρ[3]?=ξ (ξ (.ow (.txt (dN PR K)))))(h6:ρ[6]?=ξ (ξ (.v (.int N))))(h2:ρ[2]?=ξ (ξ (.v (.int (M:Nat))))):∃m,y6 m/\okS K M m/\t7 m<=8/\W3 3 (j5 P3 (a8 (b0 6) (a8 (b0 3) (a8 (m1 a20 (b0 3)) (a8 (b0 2) b8))))) ρ=ξ (.v (j9 m)):=by
 obtain⟨m,ok,os,dp,_,e⟩:=c0E hM hK hl N;refine⟨m,ok,os,dp,b3C h3 ?_ (a76 m)⟩;have hlt:3<ρ.length:=(Aj.mp h3).1;have v3:b0 3 (ρ.set 3 (ξ (.v (tv (dN PR K)))))=ξ (.v (kd K)):=by
  unfold b0;rw [BF hlt]
 have v6:b0 6 (ρ.set 3 (ξ (.v (tv (dN PR K)))))=ξ (.v (.int N)):=by
  unfold b0;rw [List.getElem?_set_ne (by lia),h6]
 have v2:b0 2 (ρ.set 3 (ξ (.v (tv (dN PR K)))))=ξ (.v (.int (M:Nat))):=by
  unfold b0;rw [List.getElem?_set_ne (by lia),h2]
 rw [J5 (e9 v6 rfl (e9 v3 rfl (e9 (one v3 (b8B hl)) rfl (e9 v2 rfl rfl))))];exact e
abbrev prS(ns:List Int)(K:NL x6)(rs:List Rw)(q5 q6 q7 q8 q9 q10:Option d7):c5:=[ξ (.v (.list (ns.map .int))),ξ (.v (.int 21)),ξ (.v (.int (M:Nat))),ξ (.ow (.txt (dN PR K))),ξ (.own (rs.map (K0 j9))),q5,q6,q7,q8,q9,q10]
theorem c0f{j:Int}(h0:0<=j)(h1:j<5):∃w∈a7U,k6 (.own (a7U.map row)) (.v (.int j))=ξ (.v (row w)):=by
 have:j=0\/j=1\/j=2\/j=3\/j=4:=by lia
 rcases this with h|h|h|h|h<;>rw [h]
 ·exact⟨_,by decide,rfl⟩
 ·exact⟨[115,116,97,121],by decide,rfl⟩
 ·exact⟨[108,101,116],by decide,rfl⟩
 ·exact⟨[107,110,111,116,115],by decide,rfl⟩
 ·exact⟨[122,122],by decide,rfl⟩
theorem b9l{ns:List Int}{at_:Nat}(ha:at_<ns.length)(ha2:at_<=63){K:NL x6}(hK:KM M K)(hl:K.length<=60){rs:List Rw}(hr:rs.length<=100)(q6 q7 q8 q9 q10:Option d7):∃r K' q6' q7' q8' q9' q10',OkR M K r K'/\KM M K'/\K'.length<=K.length+3/\
 K8 (prS (M:=M) ns K rs (ξ (.v (.int (at_:Nat)))) q6 q7 q8 q9 q10)=ξ (.nx (prS (M:=M) ns K' (rs++[r]) (ξ (.v (.int (at_:Nat)))) q6' q7' q8' q9' q10')):=by
 obtain⟨c,hc⟩:=c4I ha
 obtain⟨N,eN⟩:=c08 c (k:=at_) (by lia)
 have e1:j5 L8 (a8 (m2 k6 (b0 0) (b0 5)) (a8 (b0 5) b8)) (prS (M:=M) ns K rs (ξ (.v (.int (at_:Nat)))) q6 q7 q8 q9 q10)=ξ (.v (.int N)):=(O6 (J7 rfl rfl hc) rfl).trans eN
 obtain⟨w,hw,ew⟩:=c0f hM (j:=N*950706376 % 999917 % 5) (by lia) (by lia)
 have e2:m2 k6 (λ_=>a1P []) (m2 (J2 (λ_ j=>0<j) λi j=> .int (i % j)) (m2 (J2 (λ_ j=>0<j) λi j=> .int (i % j)) (m2 r6 (b0 6) (mC (.int 950706376))) (mC (.int 999917))) (mC (.int 5))) (prS (M:=M) ns K rs (ξ (.v (.int (at_:Nat)))) (ξ (.v (.int N))) q7 q8 q9 q10)=ξ (.v (row w)):=J7 (r:= .own (a7U.map row)) c03 (md (md (ml rfl (by lia)) rfl (by lia)) rfl (by lia)) ew
 obtain⟨m,ok,os,dp,e3⟩:=a91 hM hK (by lia) N (ρ:=prS (M:=M) ns K rs (ξ (.v (.int (at_:Nat)))) (ξ (.v (.int N))) (ξ (.v (row w))) q8 q9 q10) rfl rfl rfl
 obtain⟨k,hk1,hk3,hk⟩:∃k:Nat,1<=k/\k<=3/\((k:Nat):Int)=1+N*742938285 % 999959 % 3:=⟨(1+N*742938285 % 999959 % 3).toNat,by lia,by lia,by lia⟩
 have e4:m2 y8 (mC (.int 1)) (m2 (J2 (λ_ j=>0<j) λi j=> .int (i % j)) (m2 (J2 (λ_ j=>0<j) λi j=> .int (i % j)) (m2 r6 (b0 6) (mC (.int 742938285))) (mC (.int 999959))) (mC (.int 3))) (prS (M:=M) ns K rs (ξ (.v (.int (at_:Nat)))) (ξ (.v (.int N))) (ξ (.v (row w))) (ξ (.v (j9 m))) q9 q10)=ξ (.v (.int (k:Nat))):=by
  rw [hk];exact adI rfl (md (md (ml rfl (by lia)) rfl (by lia)) rfl (by lia))
 obtain⟨d,hd,d1,d2,d3,d4⟩:=os
 have hsz:C9 [j9 m,kd K]=ξ (.v (PR d)):=by
  obtain⟨q,eq,sq⟩:=a4w K 12 m ok (by lia)
  rw [hd] at sq;obtain rfl:q=PR d:=sq;exact eq
 have hin:u6 (b1o false 3 (b0 7)) (prS (M:=M) ns K rs (ξ (.v (.int (at_:Nat)))) (ξ (.v (.int N))) (ξ (.v (row w))) (ξ (.v (j9 m))) (ξ (.v (.int (k:Nat)))) (ξ (.v .none)))=ξ (C4 K w).isSome:=by
  show ξ (O4 (dN PR K) [.inr (S w)]).isSome=_;rw [a40];cases C4 K w<;>rfl
 have hq:u6 (m2 D0 (m2 (J2 (λ_ j=>0<j) λi j=> .int (i % j)) (b0 6) (mC (.int 4))) (mC (.int 1))) (prS (M:=M) ns K rs (ξ (.v (.int (at_:Nat)))) (ξ (.v (.int N))) (ξ (.v (row w))) (ξ (.v (j9 m))) (ξ (.v (.int (k:Nat)))) (ξ (.v .none)))=ξ (N % 4==1):=G0 (r:= .v (.int (N % 4))) (md rfl rfl (by lia)) (q:= .v (.int 1)) rfl (b7q _ _)
 have hcd:R1 (u6 (m2 D0 (m2 (J2 (λ_ j=>0<j) λi j=> .int (i % j)) (b0 6) (mC (.int 4))) (mC (.int 1)))) (u6 (b1o false 3 (b0 7))) (prS (M:=M) ns K rs (ξ (.v (.int (at_:Nat)))) (ξ (.v (.int N))) (ξ (.v (row w))) (ξ (.v (j9 m))) (ξ (.v (.int (k:Nat)))) (ξ (.v .none)))=ξ ((N % 4==1)&&(C4 K w).isSome):=by
  unfold R1;rw [hq,AO,hin];cases(N % 4==1)<;>rfl
 have lets:(j0 (Q4 4 (u5 (a8 (mC (.str (AC "let"))) (a8 (b0 7) (a8 (b0 8) b8))))) (a3z 3 (b0 7) (W2 C9 3 (b0 8)))) (prS (M:=M) ns K rs (ξ (.v (.int (at_:Nat)))) (ξ (.v (.int N))) (ξ (.v (row w))) (ξ (.v (j9 m))) (ξ (.v (.int (k:Nat)))) (ξ (.v .none)))=ξ (.nx (prS (M:=M) ns (U3 K w d) (rs++[.lt w m]) (ξ (.v (.int (at_:Nat)))) (ξ (.v (.int N))) (ξ (.v (row w))) (ξ (.v (j9 m))) (ξ (.v (.int (k:Nat)))) (ξ (.v .none)))):=by
  refine(N3 (ρ':=prS (M:=M) ns K (rs++[.lt w m]) (ξ (.v (.int (at_:Nat)))) (ξ (.v (.int N))) (ξ (.v (row w))) (ξ (.v (j9 m))) (ξ (.v (.int (k:Nat)))) (ξ (.v .none))) ?_).trans ?_
  ·rw [D9 (r:= .v (.tuple [.str (AC "let"),row w,j9 m])) (p:= .tuple [.str (AC "let"),row w,j9 m]) (ps:=rs.map (K0 j9)) rfl rfl rfl (by rw [AW];lia)]
   unfold prS;rw [Au]
   rfl
  ·have ec:W2 C9 3 (b0 8) (prS (M:=M) ns K (rs++[.lt w m]) (ξ (.v (.int (at_:Nat)))) (ξ (.v (.int N))) (ξ (.v (row w))) (ξ (.v (j9 m))) (ξ (.v (.int (k:Nat)))) (ξ (.v .none)))=ξ (.v (PR d)):=a42 rfl rfl hsz rfl;unfold a3z;rw [ec];show(if(dN PR K).length<AM then ξ (Fl.nx _) else ζ)=_
   rw [if_pos (by rw [a98,sizeLine_eq];lia)]
   unfold prS;rw [<-b6S]
   rfl
 have okl:OkR M K (.lt w m) (U3 K w d):=⟨ok,dp,hw,AS _,by show 1<=3;lia,by show itK w m 1 K=_;rw [itK,hd];rfl,λh=>nomatch h⟩
 have kml:KM M (U3 K w d):=hK.put hw ⟨d1,d2,d3,d4⟩
 have hpl:=a7s K w d
 have go:∀o,(j0 (o9 (R1 (u6 (m2 D0 (m2 (J2 (λ_ j=>0<j) λi j=> .int (i % j)) (b0 6) (mC (.int 4))) (mC (.int 1)))) (u6 (b1o false 3 (b0 7)))) (p0 10 (W3 3 (j5 C1 (a8 (b0 8) (a8 (b0 7) (a8 (b0 9) (a8 (b0 3) (a8 (b0 2) b8)))))))) l9)
  (o9 (u6 (m2 (c2A false) (b0 10) (mC .none))) (j0 (Q4 4 (u5 (a8 (mC (.str (AC "let"))) (a8 (b0 7) (a8 (b0 8) b8))))) (a3z 3 (b0 7) (W2 C9 3 (b0 8)))) (j0 (Q4 4 (u5 (a8 (mC (.str (AC "again"))) (a8 (b0 9) (a8 (b0 7) (a8 (b0 8) b8)))))) (b2s 3 10)))) (prS (M:=M) ns K rs (ξ (.v (.int (at_:Nat)))) (ξ (.v (.int N))) (ξ (.v (row w))) (ξ (.v (j9 m))) (ξ (.v (.int (k:Nat)))) (ξ (.v .none)))=o->K8 (prS (M:=M) ns K rs (ξ (.v (.int (at_:Nat)))) q6 q7 q8 q9 q10)=o:=λo h=>by
  unfold K8
  refine(g6 e1).trans ?_
  refine(g6 e2).trans ?_
  refine(g6 e3).trans ?_
  refine(g6 e4).trans ?_
  refine(g6 (p:= .none) rfl).trans ?_
  exact h
 cases hb:((N % 4==1)&&(C4 K w).isSome) with
 |false=>
  rw [hb] at hcd
  exact⟨.lt w m,U3 K w d,_,_,_,_,_,okl,kml,by lia,go _ ((b7 hcd).trans ((a3A rfl).trans lets))⟩
 |true=>
  rw [hb] at hcd
  rw [Bool.and_eq_true] at hb
  have lent:∀r:d7,r.noK=true->C1 [j9 m,row w,.int (k:Nat),kd K,.int (M:Nat)]=ξ r->W3 3 (j5 C1 (a8 (b0 8) (a8 (b0 7) (a8 (b0 9) (a8 (b0 3) (a8 (b0 2) b8)))))) (prS (M:=M) ns K rs (ξ (.v (.int (at_:Nat)))) (ξ (.v (.int N))) (ξ (.v (row w))) (ξ (.v (j9 m))) (ξ (.v (.int (k:Nat)))) (ξ (.v .none)))=ξ r:=λr hn e=>b3C rfl ((J5 (e9 (q:= .v (j9 m)) rfl rfl (e9 (q:= .v (row w)) rfl rfl (e9 (q:= .v (.int (k:Nat))) rfl rfl (e9 (q:= .v (kd K)) rfl rfl (e9 (q:= .v (.int (M:Nat))) rfl rfl rfl)))))).trans e) hn
  rcases b9M hM ok dp hw (k:=k) hk3 hK hl with ea|⟨K',i1,i2,i3,ea⟩
  ·refine⟨.lt w m,U3 K w d,_,_,_,_,_,okl,kml,by lia,go _ ((N3 ?_).trans ((a3A rfl).trans lets))⟩
   rw [a3A hcd]
   exact X5 (lent _ rfl ea)
  ·have hin':w∈K.map (·.1):=by
    obtain⟨d',hd'⟩:=Option.isSome_iff_exists.mp hb.2;exact BC.mpr ⟨_,a0x hd',rfl⟩
   refine⟨.ag k w m,K',ξ (.v (.int N)),ξ (.v (row w)),ξ (.v (j9 m)),ξ (.v (.int (k:Nat))),ζ,⟨ok,dp,hw,hk1,hk3,i1,λ_=>hin'⟩,i2,by lia,go _ ((N3 (ρ':=prS (M:=M) ns K rs (ξ (.v (.int (at_:Nat)))) (ξ (.v (.int N))) (ξ (.v (row w))) (ξ (.v (j9 m))) (ξ (.v (.int (k:Nat)))) (ξ (.ow (.txt (dN PR K'))))) ?_).trans ?_)⟩
   ·rw [a3A hcd];unfold p0;rw [lent (.ow (.txt (dN PR K'))) (c07 K') ea]
    rfl
   ·refine(a7i rfl).trans ?_;refine(N3 (ρ':=prS (M:=M) ns K (rs++[.ag k w m]) (ξ (.v (.int (at_:Nat)))) (ξ (.v (.int N))) (ξ (.v (row w))) (ξ (.v (j9 m))) (ξ (.v (.int (k:Nat)))) (ξ (.ow (.txt (dN PR K'))))) ?_).trans ?_
    ·rw [D9 (r:= .v (.tuple [.str (AC "again"),.int (k:Nat),row w,j9 m])) (p:= .tuple [.str (AC "again"),.int (k:Nat),row w,j9 m]) (ps:=rs.map (K0 j9)) rfl rfl rfl (by rw [AW];lia)]
     unfold prS;rw [Au]
     rfl
    ·rw [b8Z (c:= .txt (dN PR K')) rfl]
     rfl
theorem b6P{ns:List Int}(hn:ns.length<=63):∃rs K m,Chn M [] rs K/\y6 m/\t7 m<=8/\(∃d,z8 K m=ξ d/\d.1<=M/\d.2<=M)/\rs.length<=20/\a0e [.list (ns.map .int),.int 21,.int (M:Nat)]=ξ (.own (rs.map (K0 j9)++[.tuple [.str (AC "knot"),j9 m]])):=by
 obtain⟨E,hE⟩:∃E:Int,E=(if(21:Int)<(ns.length:Int) then(21:Int) else(ns.length:Int)):=⟨_,rfl⟩
 have hE1:E<=21/\E<=(ns.length:Nat)/\0<=E:=by rw [hE];split<;>lia
 have ht:(a1E 1 E).length=(E - 1).toNat:=a4F _ _;have gl:B4 (.v (.list (ns.map .int)))=ξ (.v (.int (ns.length:Nat))):=by
  show ξ _=_;rw [AW]
 have er:b7D (a8 (mC (.int 1)) (a8 (m2 (gI λi j=> .int (if j<i then j else i)) (m1 B4 (b0 0)) (b0 1)) b8)) (prS (M:=M) ns [] [] ζ ζ ζ ζ ζ ζ)=ξ (a1E 1 E):=by
  rw [b81,e9 (q:= .v (.int 1)) rfl rfl (e9 (q:= .v (.int E)) (by rw [hE];exact J7 (one rfl gl) (q:= .v (.int 21)) rfl rfl) rfl rfl),AO]
  exact c3r (by lia)
 obtain⟨ρ',e5,rs,K,q5,q6,q7,q8,q9,q10,h1,h2,h3,h4,rfl⟩:=a2z (body:=K8) (tg:=j6 5) (λj ρ=>∃(rs:List Rw) (K:NL x6) (q5 q6 q7 q8 q9 q10:Option d7),rs.length=j/\Chn M [] rs K/\KM M K/\K.length<=3*j/\ρ=prS (M:=M) ns K rs q5 q6 q7 q8 q9 q10)
  (ps:=a1E 1 E) (ρ:=prS (M:=M) ns [] [] ζ ζ ζ ζ ζ ζ)
  (by
   rintro j p hp ρ ⟨rs,K,q5,q6,q7,q8,q9,q10,h1,h2,h3,h4,rfl⟩;obtain⟨rfl,hj⟩:=c3s hp;have hlt:1+j<ns.length:=by lia
   obtain⟨r,K',q6',q7',q8',q9',q10',o,k1,k2,eb⟩:=b9l hM (ns:=ns) (at_:=1+j) hlt (by lia) h3 (by lia) (rs:=rs) (by lia) q6 q7 q8 q9 q10
   rw [show((1+j:Nat):Int)=1+(j:Int) by lia] at eb
   exact a7J (ρ1:=prS (M:=M) ns K rs (ξ (.v (.int (1+(j:Int))))) q6 q7 q8 q9 q10) rfl eb ⟨rs++[r],K',_,_,_,_,_,_,by rw [AY,h1];rfl,h2.snoc o,k1,by lia,rfl⟩)
  ⟨[],[],ζ,ζ,ζ,ζ,ζ,ζ,rfl,rfl,(λx hx=>nomatch hx),by simp,rfl⟩
 rw [ht] at h1 h4;obtain⟨c,hc⟩:=b7e (ns:=ns);obtain⟨N,eN⟩:=c08 c (k:=5) (by lia)
 have e6:j5 L8 (a8 (j5 M6 (a8 (b0 0) (a8 (mC (.int 0)) b8))) (a8 (mC (.int 5)) b8)) (prS (M:=M) ns K rs q5 q6 q7 q8 q9 q10)=ξ (.v (.int N)):=(O6 ((O6 rfl rfl).trans hc) rfl).trans eN;obtain⟨m,ok,⟨d,hd,_,d2,_,d4⟩,dp,e7⟩:=a91 hM h3 (by lia) N (ρ:=prS (M:=M) ns K rs q5 (ξ (.v (.int N))) q7 q8 q9 q10) rfl rfl rfl
 refine⟨rs,K,m,h2,ok,dp,⟨d,hd,d2,d4⟩,by lia,n4 (n:=8) ?_⟩
 show a1Z [ξ (.v (.list (ns.map .int))),ξ (.v (.int 21)),ξ (.v (.int (M:Nat))),ζ,ζ,ζ,ζ,ζ,ζ,ζ,ζ]=_;unfold a1Z;refine(N3 (ρ':=[ξ (.v (.list (ns.map .int))),ξ (.v (.int 21)),ξ (.v (.int (M:Nat))),ξ (.ow (.txt [])),ζ,ζ,ζ,ζ,ζ,ζ,ζ]) rfl).trans ?_;refine(Q8 (l:=[]) rfl).trans ?_;refine(Y4 er e5).trans ?_;refine(g6 e6).trans ?_;have et:u5 (a8 (mC (.str (AC "knot"))) (a8 (W3 3 (j5 P3 (a8 (b0 6) (a8 (b0 3) (a8 (m1 a20 (b0 3)) (a8 (b0 2) b8)))))) b8)) (prS (M:=M) ns K rs q5 (ξ (.v (.int N))) q7 q8 q9 q10)=ξ (.v (.tuple [.str (AC "knot"),j9 m])):=c10 rfl e7;have el:N2 (a8 (u5 (a8 (mC (.str (AC "knot"))) (a8 (W3 3 (j5 P3 (a8 (b0 6) (a8 (b0 3) (a8 (m1 a20 (b0 3)) (a8 (b0 2) b8)))))) b8))) b8) (prS (M:=M) ns K rs q5 (ξ (.v (.int N))) q7 q8 q9 q10)=ξ (.own [.tuple [.str (AC "knot"),j9 m]]):=by
  unfold N2;rw [e9 et rfl rfl]
  rfl
 have ead:=J7 (g:=y8) (x:=b0 4) (r:= .bor (rs.map (K0 j9))) (ρ:=prS (M:=M) ns K rs q5 (ξ (.v (.int N))) q7 q8 q9 q10) rfl el (c2z (by rw [AW,sizeLine_eq];simp only [AX,Am];lia))
 unfold l0;refine(congrArg (λo=>Option.bind o _) ead).trans rfl
end
theorem c2V{c f:Str}{x:M}{ρ:c5}{p:PV}(h:x ρ=ξ (.v p)):a6j c [f] (a8 x b8) ρ=ξ (.v (obV c [(.str f,p)])):=by
 unfold a6j a8;rw [h]
 rfl
theorem c4V{c f g:Str}{x y:M}{ρ:c5}{p q:PV}(h:x ρ=ξ (.v p))(h2:y ρ=ξ (.v q)):a6j c [f,g] (a8 x (a8 y b8)) ρ=ξ (.v (obV c [(.str f,p),(.str g,q)])):=by
 unfold a6j a8;rw [h,h2]
 rfl
theorem c6J{c f g k:Str}{x y z:M}{ρ:c5}{p q r:PV}(h:x ρ=ξ (.v p))(h2:y ρ=ξ (.v q))(h3:z ρ=ξ (.v r)):a6j c [f,g,k] (a8 x (a8 y (a8 z b8))) ρ=ξ (.v (obV c [(.str f,p),(.str g,q),(.str k,r)])):=by
 unfold a6j a8;rw [h,h2,h3]
 rfl
section
variable {R:RF}
theorem c50{ps:List Mo}{w ww:PV}{elt:M}(he:elt=j5 R (a8 (b0 2) b8))(hp:ps.length<=6)(h:∀p∈ps,R [j9 p]=ξ (.v (t8 p))):
 m1 T0 (F9 1 (v0 (m2 k6 (b0 0) (mC (.int 1)))) (j6 2) N8 elt) [ξ (.v (.tuple [w,.list (ps.map j9)])),ξ (.v ww)]=ξ (.v (.tuple (b6T ps))):=by
 have cm:=C2 (ι:=j9) (f:=t8) (k:=1) (it:=v0 (m2 k6 (b0 0) (mC (.int 1)))) (tg:=j6 2) (elt:=elt) (ρ:=[ξ (.v (.tuple [w,.list (ps.map j9)])),ξ (.v ww)]) ps rfl (by lia) λp hp=>by
  refine⟨[ξ (.v (.tuple [w,.list (ps.map j9)])),ξ (.v ww),ξ (.v (j9 p))],rfl, ?_⟩;rw [he,(N5 rfl).trans (h p hp)]
  rfl
 refine(congrArg (λo=>Option.bind o T0) cm).trans ?_
 rw [a7t]
 rfl
theorem b82(m:Mo)(ok:y6 m)(ih:∀p,y6 p->t7 p<t7 m->R [j9 p]=ξ (.v (t8 p))):m4 1 (a1c R) [j9 m]=ξ (.v (t8 m)):=by
 refine n4 ?_;show a1c R [ξ (.v (j9 m)),ζ]=_;unfold a1c;cases m with
 |plain rows=>
  rw [j9,g6 (p:= .str (AC "plain")) rfl,t8];exact l7 rfl (c2V rfl)
 |named w=>
  rw [j9,g6 (p:= .str (AC "name")) rfl,b7 rfl,t8];exact l7 rfl (c2V rfl)
 |beside ps=>
  ext r
  have d:t7 (.beside ps)=1+a1D ps:=by rw [t7]
  rw [j9,X2,g6 (p:= .str (AC "beside")) rfl,b7 rfl,b7 rfl,t8];exact l7 rfl (c2V (c50 rfl ok.2.1 λp hp=>ih p (C5 ok.2.2 hp) (by have:=E4 hp;lia)))
 |above ps=>
  ext r
  have d:t7 (.above ps)=1+a1D ps:=by rw [t7]
  rw [j9,X2,g6 (p:= .str (AC "above")) rfl,b7 rfl,b7 rfl,b7 rfl,t8];exact l7 rfl (c2V (c50 rfl ok.2.1 λp hp=>ih p (C5 ok.2.2 hp) (by have:=E4 hp;lia)))
 |across k p=>
  ext r
  have d:t7 (.across k p)=1+t7 p:=by rw [t7]
  rw [j9,g6 (p:= .str (AC "across")) rfl,b7 rfl,b7 rfl,b7 rfl,b7 rfl,t8];exact l7 rfl (c4V rfl ((N5 rfl).trans (ih p ok.2.2 (by lia))))
 |down k p=>
  ext r
  have d:t7 (.down k p)=1+t7 p:=by rw [t7]
  rw [j9,g6 (p:= .str (AC "down")) rfl,b7 rfl,b7 rfl,b7 rfl,b7 rfl,b7 rfl,t8];exact l7 rfl (c4V rfl ((N5 rfl).trans (ih p ok.2.2 (by lia))))
 |turned w p=>
  ext r
  have d:t7 (.turned w p)=1+t7 p:=by rw [t7]
  rw [j9,g6 (p:= .str (AC "turned")) rfl,b7 rfl,b7 rfl,b7 rfl,b7 rfl,b7 rfl,b7 rfl,t8];exact l7 rfl (c4V rfl ((N5 rfl).trans (ih p ok.2 (by lia))))
 |dyed a b p=>
  ext r
  have d:t7 (.dyed a b p)=1+t7 p:=by rw [t7]
  rw [j9,g6 (p:= .str (AC "dye")) rfl,b7 rfl,b7 rfl,b7 rfl,b7 rfl,b7 rfl,b7 rfl,b7 rfl,t8];have e:=c6J (c:=AC "Dyed") (f:=AC "one") (g:=AC "other") (k:=AC "part") (x:=m2 k6 (b0 0) (mC (.int 1))) (y:=m2 k6 (b0 0) (mC (.int 2))) (z:=j5 R (a8 (m2 k6 (b0 0) (mC (.int 3))) b8)) (ρ:=[ξ (.v (.tuple [.str (AC "dye"),row [a],row [b],j9 p])),ξ (.v (.str (AC "dye")))]) (p:=row [a]) (q:=row [b]) rfl rfl ((N5 rfl).trans (ih p ok.2.2 (by lia)))
  show l0 _ _=_;unfold l0;exact(congrArg (λo=>Option.bind o _) e).trans rfl
end
theorem b0a:∀(n:Nat) (m:Mo),y6 m->t7 m<=n->a4m n [j9 m]=ξ (.v (t8 m))
 |0,m,_,h=>by have:=a0d m;lia
 |n+1,m,ok,h=>b82 m ok λp okp hp=>b0a n p okp (by lia)
theorem a6k{x:M}{ρ:c5}{ps:List PV}{p:PV}(h:x ρ=ξ (.v (.tuple (ps++[p])))):m2 k6 x (W4 (mC (.int 1))) ρ=ξ (.v p):=by
 refine J7 (q:= .v (.int (-1))) h rfl ?_;show(L2.atI (ps++[p]) (-1)).map d7.v=_;have:L2.atI (ps++[p]) (-1)=ξ p:=by
  unfold L2.atI;have:ixN (ps++[p]).length (-1)=ξ ps.length:=by
   unfold ixN;rw [AY,List.length_singleton];simp
   try lia
  rw [this];simp
 rw [this]
 rfl
theorem b24{ps qs:List PV}(h1:ps.length≠0)(h2:qs.length≠0)(h3:ps.length+qs.length<=16777216):y8 (.v (.tuple ps)) (.v (.tuple qs))=ξ (.v (.tuple (ps++qs))):=by
 show(if(ps.length≠0/\qs.length≠0)/\ps.length+qs.length<=AM then ξ (d7.v (.tuple (ps++qs))) else ζ)=_
 rw [if_pos ⟨⟨h1,h2⟩,by rw [sizeLine_eq];exact h3⟩]
theorem b6b(r:Rw)(ok:y6 r.mo)(dp:t7 r.mo<=8){s0:Option d7}{A:List PV}(hA:A.length<=100):A0 [s0,ξ (.own A),ξ (.v (K0 j9 r))]=ξ (.nx [s0,ξ (.own (A++[K0 t8 r])),ξ (.v (K0 j9 r))]):=by
 have em:=b0a 12 r.mo ok (by lia)
 unfold A0;cases r with
 |lt w m=>
  have e1:j5 E6 (a8 (m2 k6 (b0 2) (W4 (mC (.int 1)))) b8) [s0,ξ (.own A),ξ (.v (K0 j9 (.lt w m)))]=ξ (.v (t8 m)):=(N5 (a6k (ps:=[.str (AC "let"),row w]) rfl)).trans em;have e2:u5 (a8 (j5 E6 (a8 (m2 k6 (b0 2) (W4 (mC (.int 1)))) b8)) b8) [s0,ξ (.own A),ξ (.v (K0 j9 (.lt w m)))]=ξ (.v (.tuple [t8 m])):=by
   unfold u5;rw [e9 e1 rfl rfl]
   rfl
  have e3:m2 y8 (P5 (b0 2) T3 (R5 (W4 (mC (.int 1))))) (u5 (a8 (j5 E6 (a8 (m2 k6 (b0 2) (W4 (mC (.int 1)))) b8)) b8)) [s0,ξ (.own A),ξ (.v (K0 j9 (.lt w m)))]=ξ (.v (K0 t8 (.lt w m))):=J7 (r:= .v (.tuple [.str (AC "let"),row w])) rfl e2 (b24 (by simp) (by simp) (by simp))
  rw [D9 e3 rfl rfl (by lia)]
  rfl
 |ag k w m=>
  have e1:j5 E6 (a8 (m2 k6 (b0 2) (W4 (mC (.int 1)))) b8) [s0,ξ (.own A),ξ (.v (K0 j9 (.ag k w m)))]=ξ (.v (t8 m)):=(N5 (a6k (ps:=[.str (AC "again"),.int (k:Nat),row w]) rfl)).trans em;have e2:u5 (a8 (j5 E6 (a8 (m2 k6 (b0 2) (W4 (mC (.int 1)))) b8)) b8) [s0,ξ (.own A),ξ (.v (K0 j9 (.ag k w m)))]=ξ (.v (.tuple [t8 m])):=by
   unfold u5;rw [e9 e1 rfl rfl]
   rfl
  have e3:m2 y8 (P5 (b0 2) T3 (R5 (W4 (mC (.int 1))))) (u5 (a8 (j5 E6 (a8 (m2 k6 (b0 2) (W4 (mC (.int 1)))) b8)) b8)) [s0,ξ (.own A),ξ (.v (K0 j9 (.ag k w m)))]=ξ (.v (K0 t8 (.ag k w m))):=J7 (r:= .v (.tuple [.str (AC "again"),.int (k:Nat),row w])) rfl e2 (b24 (by simp) (by simp) (by simp))
  rw [D9 e3 rfl rfl (by lia)]
  rfl
abbrev kn(f:Mo->PV)(m:Mo):PV:= .tuple [.str (AC "knot"),f m]
theorem a9E{s0:Option d7}{qs:List PV}:∀(rs:List Rw) (A:List PV) (q2:Option d7),(∀r∈rs,y6 r.mo/\t7 r.mo<=8)->A.length+rs.length<=100->∃q2',z9 A0 (j6 2) (rs.map (K0 j9)++qs) [s0,ξ (.own A),q2]=z9 A0 (j6 2) qs [s0,ξ (.own (A++rs.map (K0 t8))),q2']
 |[],A,q2,_,_=>⟨q2,by rw [An,An,Ag];rfl⟩
 |r::rs,A,q2,h,hl=>by
  rw [AX] at hl;have h1:=h r AZ;obtain⟨q2',e⟩:=a9E (s0:=s0) (qs:=qs) rs (A++[K0 t8 r]) (ξ (.v (K0 j9 r))) (λx hx=>h x (Aa _ hx)) (by rw [AY,List.length_singleton];lia)
  refine⟨q2', ?_⟩;rw [AN,Ar,z9];show(A0 [s0,ξ (.own A),ξ (.v (K0 j9 r))]).bind _=_;rw [b6b r h1.1 h1.2 (by lia),AO]
  rw [List.append_assoc] at e;exact e
theorem b6a(m:Mo)(ok:y6 m)(dp:t7 m<=8){s0:Option d7}{A:List PV}(hA:A.length<=100):A0 [s0,ξ (.own A),ξ (.v (kn j9 m))]=ξ (.nx [s0,ξ (.own (A++[kn t8 m])),ξ (.v (kn j9 m))]):=by
 have em:=b0a 12 m ok (by lia)
 unfold A0;have e1:j5 E6 (a8 (m2 k6 (b0 2) (W4 (mC (.int 1)))) b8) [s0,ξ (.own A),ξ (.v (kn j9 m))]=ξ (.v (t8 m)):=(N5 (a6k (ps:=[.str (AC "knot")]) rfl)).trans em;have e2:u5 (a8 (j5 E6 (a8 (m2 k6 (b0 2) (W4 (mC (.int 1)))) b8)) b8) [s0,ξ (.own A),ξ (.v (kn j9 m))]=ξ (.v (.tuple [t8 m])):=by
  unfold u5;rw [e9 e1 rfl rfl]
  rfl
 have e3:m2 y8 (P5 (b0 2) T3 (R5 (W4 (mC (.int 1))))) (u5 (a8 (j5 E6 (a8 (m2 k6 (b0 2) (W4 (mC (.int 1)))) b8)) b8)) [s0,ξ (.own A),ξ (.v (kn j9 m))]=ξ (.v (kn t8 m)):=J7 (r:= .v (.tuple [.str (AC "knot")])) rfl e2 (b24 (by simp) (by simp) (by simp))
 rw [D9 e3 rfl rfl (by lia)]
 rfl
theorem Chn.all{M:Nat}:∀{rs:List Rw} {K K':NL x6},Chn M K rs K'->∀r∈rs,y6 r.mo/\t7 r.mo<=8
 |[],_,_,_,r,hr=>nomatch hr
 |q::rs,K,K',⟨K1,o,h⟩,r,hr=>by
  rcases Ab.mp hr with rfl|hr
  ·exact⟨o.ok,o.dp⟩
  ·exact h.all r hr
theorem b9W{M:Nat}{rs:List Rw}{K:NL x6}(h:Chn M [] rs K)(hl:rs.length<=20){m:Mo}(ok:y6 m)(dp:t7 m<=8):a4k [.list (rs.map (K0 j9)++[kn j9 m])]=ξ (.own (rs.map (K0 t8)++[kn t8 m])):=by
 obtain⟨q2,e⟩:=a9E (s0:=ξ (.v (.list (rs.map (K0 j9)++[kn j9 m])))) (qs:=[kn j9 m]) rs [] ζ h.all (by simp;lia)
 have e2:z9 A0 (j6 2) (rs.map (K0 j9)++[kn j9 m]) [ξ (.v (.list (rs.map (K0 j9)++[kn j9 m]))),ξ (.own []),ζ]=ξ (.nx [ξ (.v (.list (rs.map (K0 j9)++[kn j9 m]))),ξ (.own (rs.map (K0 t8)++[kn t8 m])),ξ (.v (kn j9 m))]):=by
  rw [e,z9];show(A0 [ξ (.v (.list (rs.map (K0 j9)++[kn j9 m]))),ξ (.own ([]++rs.map (K0 t8))),ξ (.v (kn j9 m))]).bind _=_;rw [b6a m ok dp (by simp;lia),AO]
  rfl
 refine n4 (n:=2) ?_;show a3R [ξ (.v (.list (rs.map (K0 j9)++[kn j9 m]))),ζ,ζ]=_;unfold a3R;refine(Q8 (l:=[]) rfl).trans ?_;exact(Y4 (ps:=rs.map (K0 j9)++[kn j9 m]) rfl e2).trans rfl
def a5L(f1 f2 f3 f4 f5 f6 f7 f8:RF):Mo->RF
 | .plain _=>f1
 | .named _=>f2
 | .beside _=>f3
 | .above _=>f4
 | .across _ _=>f5
 | .down _ _=>f6
 | .turned _ _=>f7
 | .dyed _ _ _=>f8
abbrev c5D(f1 f2 f3 f4 f5 f6 f7 f8:RF):List (Str×RF):=[(AC "Plain",f1),(AC "Named",f2),(AC "Beside",f3),(AC "Above",f4),(AC "Across",f5),(AC "Down",f6),(AC "Turned",f7),(AC "Dyed",f8)]
theorem a3d{f1 f2 f3 f4 f5 f6 f7 f8:RF}{mo:M}{ma:MA}{ρ:c5}{m:Mo}{x:Str}{qs:List PV}(hx:x=AC "size"\/x=AC "cloth")(h:mo ρ=ξ (.v (t8 m)))(ha:ma ρ=ξ qs):
 U0 (c5D f1 f2 f3 f4 f5 f6 f7 f8) x mo ma ρ=a5L f1 f2 f3 f4 f5 f6 f7 f8 m (t8 m::qs):=by
 unfold U0
 rw [h,ha]
 cases m<;>rw [t8]<;>rcases hx with rfl|rfl<;>rfl
theorem b7n(R:List (List Nat)):E5 [AC "Plain"] (AC "rows") (.v (t8 (.plain R)))=ξ (.v (.tuple (R.map row))):=by rw [t8];rfl
theorem b7l(w:List Nat):E5 [AC "Named"] (AC "name") (.v (t8 (.named w)))=ξ (.v (row w)):=by rw [t8];rfl
theorem b2f(ps:List Mo):E5 [AC "Beside",AC "Above"] (AC "parts") (.v (t8 (.beside ps)))=ξ (.v (.tuple (ps.map t8))):=by rw [t8,a7t];rfl
theorem b2e(ps:List Mo):E5 [AC "Beside",AC "Above"] (AC "parts") (.v (t8 (.above ps)))=ξ (.v (.tuple (ps.map t8))):=by rw [t8,a7t];rfl
theorem b4R(k:Nat)(p:Mo):E5 [AC "Across",AC "Down"] (AC "many") (.v (t8 (.across k p)))=ξ (.v (.int (k:Nat))):=by rw [t8];rfl
theorem b4Q(k:Nat)(p:Mo):E5 [AC "Across",AC "Down"] (AC "many") (.v (t8 (.down k p)))=ξ (.v (.int (k:Nat))):=by rw [t8];rfl
theorem c0h(w:List Nat)(p:Mo):E5 [AC "Turned"] (AC "way") (.v (t8 (.turned w p)))=ξ (.v (row w)):=by rw [t8];rfl
theorem c4z(a b:Nat)(p:Mo):E5 [AC "Dyed"] (AC "one") (.v (t8 (.dyed a b p)))=ξ (.v (row [a])):=by rw [t8];rfl
theorem c0g(a b:Nat)(p:Mo):E5 [AC "Dyed"] (AC "other") (.v (t8 (.dyed a b p)))=ξ (.v (row [b])):=by rw [t8];rfl
abbrev c1i:List Str:=[AC "Across",AC "Down",AC "Turned",AC "Dyed"]
theorem b7m{m p:Mo}(h:(∃k,m= .across k p)\/(∃k,m= .down k p)\/(∃w,m= .turned w p)\/∃a b,m= .dyed a b p):E5 c1i (AC "part") (.v (t8 m))=ξ (.v (t8 p)):=by
 rcases h with⟨k,rfl⟩|⟨k,rfl⟩|⟨w,rfl⟩|⟨a,b,rfl⟩<;>rw [t8]<;>rfl
theorem a4G{x:M}{ps:List PV}{p:PV}(h:x (ps.map λq=>ξ (.v q))=ξ (.v p)):m4 0 (l0 x) ps=ξ (.v p):=by
 have e:x (ps.map (λq=>ξ (d7.v q))++AQ 0 ζ)=ξ (.v p):=by
  rw [Al,Ag];exact h
 unfold m4 l0;rw [e]
 rfl
theorem a3F{tab:List Str}{f:Str}{v p:PV}{ρ:c5}(h:E5 tab f (.v v)=ξ (.v p)):m1 (E5 tab f) (b0 0) (ξ (.v v)::ρ)=ξ (.v p):=h
theorem a9F{x:Str}{g:RF}{i:Nat}{m:MA}{ρ:c5}{qs:List PV}{tab:List (Str×RF)}(h:ρ[i]?=ξ (ξ (.v (a0L x))))(hl:tab.lookup x=ξ g)(hm:m ρ=ξ qs):a4z tab i m ρ=g qs:=by
 unfold a4z;rw [h];show(tab.lookup x).bind (λg=>(m ρ).bind g)=_;rw [hl,AO,hm,AO]
theorem b3f{a b:Nat}(h1:a<=24)(h2:b<=24)(p:PV):K5 [.int (a:Nat),.int (b:Nat),p]=ξ (.v (PR (a,b))):=by
 have t1:Z1 (u6 (m2 (gI λi j=> .bool (decide (j<i))) (b0 0) (mC E1))) (u6 (m2 (gI λi j=> .bool (decide (j<i))) (b0 1) (mC E1))) [ξ (.v (.int (a:Nat))),ξ (.v (.int (b:Nat))),ξ (.v p)]=ξ false:=by
  have e1:u6 (m2 (gI λi j=> .bool (decide (j<i))) (b0 0) (mC E1)) [ξ (.v (.int (a:Nat))),ξ (.v (.int (b:Nat))),ξ (.v p)]=ξ false:=by
   refine(G0 (r:= .v (.int (a:Nat))) rfl (q:= .v (.int 24)) rfl (b:=decide ((24:Int)<(a:Nat))) rfl).trans ?_;rw [decide_eq_false (by lia)]
  have e2:u6 (m2 (gI λi j=> .bool (decide (j<i))) (b0 1) (mC E1)) [ξ (.v (.int (a:Nat))),ξ (.v (.int (b:Nat))),ξ (.v p)]=ξ false:=by
   refine(G0 (r:= .v (.int (b:Nat))) rfl (q:= .v (.int 24)) rfl (b:=decide ((24:Int)<(b:Nat))) rfl).trans ?_;rw [decide_eq_false (by lia)]
  exact c48 e1 e2
 refine n4 (n:=0) ?_;show a09 [ξ (.v (.int (a:Nat))),ξ (.v (.int (b:Nat))),ξ (.v p)]=_;unfold a09;exact(b7 t1).trans rfl
theorem c5z(be:Bool){x d y:x6}(h:a0v be x d=ξ y)(p:PV):(if be=true then a0f else a0Y) [PR x,PR d,p]=ξ (.v (PR y)):=by
 cases be with
 |true=>
  rw [if_pos rfl];unfold a0v at h;rw [if_pos rfl] at h;split at h
  ·rename_i c;cases h;refine n4 (n:=0) ?_;show a10 [ξ (.v (PR x)),ξ (.v (PR d)),ξ (.v p)]=_;unfold a10;have t:u6 (m2 gNe (m2 k6 (b0 0) (mC (.int 0))) (m2 k6 (b0 1) (mC (.int 0)))) [ξ (.v (PR x)),ξ (.v (PR d)),ξ (.v p)]=ξ (!decide (((x.1:Nat):Int)=(d.1:Nat))):=G0 (r:= .v (.int (x.1:Nat))) rfl (q:= .v (.int (d.1:Nat))) rfl (b0h _ _);rw [decide_eq_true (by lia)] at t
   refine(b7 t).trans (G1 ((J5 (ps:=[.int (x.1:Nat),.int ((x.2+d.2:Nat):Int),p]) ?_).trans (b3f c.2.1 c.2.2 p)));exact e9 (q:= .v (.int (x.1:Nat))) rfl rfl (e9 (q:= .v (.int ((x.2:Nat)+(d.2:Nat)))) rfl (by rw [Int.natCast_add];rfl) (e9 (q:= .v p) rfl rfl rfl))
  ·cases h
 |false=>
  rw [if_neg Ac];unfold a0v at h;rw [if_neg Ac] at h;split at h
  ·rename_i c;cases h;refine n4 (n:=0) ?_;show a2R [ξ (.v (PR x)),ξ (.v (PR d)),ξ (.v p)]=_;unfold a2R;have t:u6 (m2 gNe (m2 k6 (b0 0) (mC (.int 1))) (m2 k6 (b0 1) (mC (.int 1)))) [ξ (.v (PR x)),ξ (.v (PR d)),ξ (.v p)]=ξ (!decide (((x.2:Nat):Int)=(d.2:Nat))):=G0 (r:= .v (.int (x.2:Nat))) rfl (q:= .v (.int (d.2:Nat))) rfl (b0h _ _);rw [decide_eq_true (by lia)] at t
   refine(b7 t).trans (G1 ((J5 (ps:=[.int ((x.1+d.1:Nat):Int),.int (x.2:Nat),p]) ?_).trans (b3f c.2.1 c.2.2 p)));exact e9 (q:= .v (.int ((x.1:Nat)+(d.1:Nat)))) rfl (by rw [Int.natCast_add];rfl) (e9 (q:= .v (.int (x.2:Nat))) rfl rfl (e9 (q:= .v p) rfl rfl rfl))
  ·cases h
abbrev fnL(be:Bool):PV:=a0L (if be=true then AC "size_beside" else AC "size_above")
section
variable {RAb RAc RBe RDo RDy RTu RLa:RF}{K:NL x6}
theorem b0P(be:Bool){s0 s1 s4:Option d7}{i:Int}:∀(ds:List x6) (x y:x6) (q6:Option d7),V5 be x ds=ξ y->∃q6',z9 (G7 RAb RAc RBe RDo RDy RTu RLa) (j6 6) (ds.map PR) [s0,s1,ξ (.v (.int i)),ξ (.v (fnL be)),s4,ξ (.v (PR x)),q6]=ξ (.nx [s0,s1,ξ (.v (.int i)),ξ (.v (fnL be)),s4,ξ (.v (PR y)),q6'])
 |[],x,y,q6,h=>by cases h;exact⟨q6,rfl⟩
 |d::ds,x,y,q6,h=>by
  rw [V5] at h;obtain⟨z,h1,h⟩:=bind_some h;obtain⟨q6',e⟩:=b0P be (s0:=s0) (s1:=s1) (s4:=s4) (i:=i) ds z y (ξ (.v (PR d))) h;refine⟨q6', ?_⟩;have hb:G7 RAb RAc RBe RDo RDy RTu RLa [s0,s1,ξ (.v (.int i)),ξ (.v (fnL be)),s4,ξ (.v (PR x)),ξ (.v (PR d))]=ξ (.nx [s0,s1,ξ (.v (.int i)),ξ (.v (fnL be)),s4,ξ (.v (PR z)),ξ (.v (PR d))]):=by
   unfold G7;refine X5 ((a9F (x:=if be=true then AC "size_beside" else AC "size_above") (g:=if be=true then a0f else a0Y) (qs:=[PR x,PR d,.int i]) rfl ?_ rfl).trans (c5z be h1 _))
   cases be<;>rfl
  rw [AN,z9];show(G7 RAb RAc RBe RDo RDy RTu RLa [s0,s1,ξ (.v (.int i)),ξ (.v (fnL be)),s4,ξ (.v (PR x)),ξ (.v (PR d))]).bind _=_;rw [hb,AO];exact e
theorem b7Z:∀{ps:List Mo} {ds:List x6},J6 K ps=ξ ds->ps.length=ds.length/\∀(f:Mo->PV),(∀p∈ps,∀d,z8 K p=ξ d->f p=PR d)->ps.map f=ds.map PR
 |[],ds,h=>by rw [J6] at h;cases h;exact⟨rfl,λ_ _=>rfl⟩
 |p::ps,ds,h=>by
  rw [J6] at h;obtain⟨d,e1,h⟩:=bind_some h;cases e2:J6 K ps with
  |none=>rw [e2] at h;cases h
  |some es=>
   rw [e2] at h;cases h;obtain⟨i1,i2⟩:=b7Z e2;refine⟨by simp [i1],λf hf=> ?_⟩
   rw [AN,AN,hf p AZ d e1,i2 f λq hq=>hf q (Aa _ hq)]
theorem a5k:∀{ps:List Mo} {ds:List x6},J6 K ps=ξ ds->∀p∈ps,∃d,z8 K p=ξ d
 |[],_,_,p,hp=>nomatch hp
 |q::ps,ds,h,p,hp=>by
  rw [J6] at h;obtain⟨d,e1,h⟩:=bind_some h;rcases Ab.mp hp with rfl|hp
  ·exact⟨d,e1⟩
  ·cases e2:J6 K ps with
   |none=>rw [e2] at h;cases h
   |some es=>exact a5k e2 p hp
theorem b2P(be:Bool){ps:List Mo}{y:x6}{i:Int}(hp:ps.length<=6)(h:(J6 K ps).bind (a8A be)=ξ y)(ih:∀p∈ps,∀d,z8 K p=ξ d->a5L z6 y9 RBe RAb RAc RDo RTu RDy p [t8 p,kd K,.int i]=ξ (.v (PR d))):
 m4 3 (O5 RAb RAc RBe RDo RDy RTu RLa) [.tuple (ps.map t8),kd K,.int i,fnL be]=ξ (.v (PR y)):=by
 obtain⟨ds,h1,h⟩:=bind_some h
 obtain⟨hl,hm⟩:=b7Z h1
 have c1:=C2 (ι:=t8) (f:=λp=>b5M (a5L z6 y9 RBe RAb RAc RDo RTu RDy p [t8 p,kd K,.int i])) (k:=1) (it:=v0 (b0 0)) (tg:=j6 7) (elt:=W0 RAb RAc RBe RDo RDy RTu RLa) (ρ:=[ξ (.v (.tuple (ps.map t8))),ξ (.v (kd K)),ξ (.v (.int i)),ξ (.v (fnL be)),ζ,ζ,ζ]) ps rfl (by lia) λp hp=>by
  obtain⟨d,hd⟩:=a5k h1 p hp;refine⟨[ξ (.v (.tuple (ps.map t8))),ξ (.v (kd K)),ξ (.v (.int i)),ξ (.v (fnL be)),ζ,ζ,ζ,ξ (.v (t8 p))],rfl, ?_⟩;unfold W0;rw [a3d (.inl rfl) (m:=p) (qs:=[kd K,.int i]) rfl rfl,ih p hp d hd]
  rfl
 rw [hm (λp=>b5M (a5L z6 y9 RBe RAb RAc RDo RTu RDy p [t8 p,kd K,.int i])) λp hp d hd=>by show b5M _=_;rw [ih p hp d hd];rfl] at c1
 cases ds with
 |nil=>cases h
 |cons x ds=>
  obtain⟨q6,e⟩:=b0P (RAb:=RAb) (RAc:=RAc) (RBe:=RBe) (RDo:=RDo) (RDy:=RDy) (RTu:=RTu) (RLa:=RLa) be (s0:=ξ (.v (.tuple (ps.map t8)))) (s1:=ξ (.v (kd K))) (s4:=ξ (.own ((x::ds).map PR))) (i:=i) ds x y ζ h
  refine n4 (n:=3) ?_
  show O5 RAb RAc RBe RDo RDy RTu RLa [ξ (.v (.tuple (ps.map t8))),ξ (.v (kd K)),ξ (.v (.int i)),ξ (.v (fnL be)),ζ,ζ,ζ]=_
  unfold O5
  refine(Q8 c1).trans ?_
  refine(g6 (p:=PR x) (J7 (r:= .bor ((x::ds).map PR)) (q:= .v (.int 0)) rfl rfl (at0 (.inl rfl)))).trans ?_
  have e0:Y9 (P5 (b0 4) (R5 (mC (.int 1))) T3) [ξ (.v (.tuple (ps.map t8))),ξ (.v (kd K)),ξ (.v (.int i)),ξ (.v (fnL be)),ξ (.own ((x::ds).map PR)),ξ (.v (PR x)),ζ]=ξ (ds.map PR):=by
   show ξ (cut (PR x::ds.map PR) (ξ 1) ζ)=ξ (ds.map PR);unfold cut HT.sIx;simp;exact List.take_of_length_le (by simp)
  exact(Y4 e0 e).trans rfl
theorem b32{m p:Mo}{d:x6}{i:Int}{q3:List (Option d7)}(hm:(∃k,m= .across k p)\/(∃k,m= .down k p)\/(∃w,m= .turned w p)\/∃a b,m= .dyed a b p)(h:a5L z6 y9 RBe RAb RAc RDo RTu RDy p [t8 p,kd K,.int i]=ξ (.v (PR d))):
 U0 (c5D z6 y9 RBe RAb RAc RDo RTu RDy) (AC "size") (m1 (E5 c1i (AC "part")) (b0 0)) (a8 (b0 1) (a8 (b0 2) b8)) (ξ (.v (t8 m))::ξ (.v (kd K))::ξ (.v (.int i))::q3)=ξ (.v (PR d)):=(a3d (.inl rfl) (qs:=[kd K,.int i]) (a3F (b7m hm)) rfl).trans h
end
def c6Q(n:Nat)(m:Mo):RF:=a5L z6 y9 (a1r n) (a14 n) (a1q n) (a26 n) (a1s n) (a27 n) m
theorem c3C{K:NL x6}(i:Int):∀(n:Nat) (m:Mo) (d:x6),y6 m->2*t7 m<=n->z8 K m=ξ d->c6Q n m [t8 m,kd K,.int i]=ξ (.v (PR d)):=by
 intro n
 induction n using Nat.strongRecOn with
 |ind n ih=>
  intro m d ok hd e;have hp:=a0d m;obtain⟨n,rfl⟩:∃k,n=k+2:=⟨n - 2,by lia⟩
  cases m with
  |plain R=>
   ext r
   obtain⟨v,v1,v2,v3,v4,v5⟩:=ok;rw [z8] at e;cases e;cases R with
   |nil=>simp at v3
   |cons r R=>
    have hr:=v5 r AZ;have gl:B4 (.v (.tuple ((r::R).map row)))=ξ (.v (.int (((r::R).length:Nat):Int))):=by
     show ξ _=_;rw [AW]
    have e1:a71 [.tuple ((r::R).map row)]=ξ (.v (PR ((r::R).length,r.length))):=a4G (c10 (one (r:= .v (.tuple ((r::R).map row))) rfl gl) (one (J7 (r:= .v (.tuple ((r::R).map row))) (q:= .v (.int 0)) rfl rfl (at0 (.inr rfl))) (a61 (by lia))))
    exact a4G ((N5 (a3F (b7n _))).trans e1)
  |named w=>
   rw [z8] at e;have nm:∀ρ,m1 (E5 [AC "Named"] (AC "name")) (b0 0) (ξ (.v (t8 (.named w)))::ρ)=ξ (.v (row w)):=λρ=>a3F (b7l w);have tw:=b4f (i:=1) (ρ:=[ξ (.v (t8 (.named w))),ξ (.v (kd K)),ξ (.v (.int i))]) rfl (a5f PR K);have t:b47 true 1 (m1 (E5 [AC "Named"] (AC "name")) (b0 0)) [ξ (.v (t8 (.named w))),ξ (.v (kd K)),ξ (.v (.int i))]=ξ (.v (.bool false)):=by
    unfold b47;rw [nm];show(tvw 1 _).bind _=_;rw [tw,AO,a40,e]
    rfl
   have g:a3b 1 (m1 (E5 [AC "Named"] (AC "name")) (b0 0)) [ξ (.v (t8 (.named w))),ξ (.v (kd K)),ξ (.v (.int i))]=ξ (.v (PR d)):=by
    unfold a3b;rw [nm];show(tvw 1 _).bind _=_;rw [tw,AO,a40,e]
    rfl
   refine n4 (n:=0) ?_;show a2P [ξ (.v (t8 (.named w))),ξ (.v (kd K)),ξ (.v (.int i))]=_;unfold a2P;refine(b7 (by unfold u6;rw [t];rfl)).trans (G1 g)
  |beside ps=>
   ext d
   have hw:a0E (n+1) [.tuple (ps.map t8),kd K,.int i,fnL true]=ξ (.v (PR d)):=b2P true ok.2.1 e λp hp d hd'=>ih n (by lia) p d (C5 ok.2.2 hp) (by have:=E4 hp;lia) hd'
   exact a4G ((J5 (e9 (a3F (b2f ps)) rfl rfl)).trans hw)
  |above ps=>
   ext d
   have hw:a0E (n+1) [.tuple (ps.map t8),kd K,.int i,fnL false]=ξ (.v (PR d)):=b2P false ok.2.1 e λp hp d hd'=>ih n (by lia) p d (C5 ok.2.2 hp) (by have:=E4 hp;lia) hd'
   exact a4G ((J5 (e9 (a3F (b2e ps)) rfl rfl)).trans hw)
  |across k p=>
   ext d
   ext p
   ext w
   ·rename_i c;cases e;refine n4 (n:=1) ?_;show a0b _ _ _ _ _ _ _ [ξ (.v (t8 (.across k p))),ξ (.v (kd K)),ξ (.v (.int i)),ζ]=_;unfold a0b;refine(g6 (b32 (.inl ⟨k,rfl⟩) hp')).trans ?_;refine G1 ((J5 (ps:=[.int (x.1:Nat),.int ((x.2*k:Nat):Int),.int i]) ?_).trans (b3f c.1 c.2 _));refine e9 (q:= .v (.int (x.1:Nat))) rfl rfl (e9 (q:= .v (.int ((x.2:Nat)*(k:Nat)))) (mlv (x:=(x.2:Nat)) rfl (a3F (b4R k p)) (by lia)) (by rw [Int.natCast_mul];rfl) (e9 (q:= .v (.int i)) rfl rfl rfl))
   ·cases e
  |down k p=>
   ext d
   ext p
   ext x
   ·rename_i c;cases e;refine n4 (n:=1) ?_;show a1I _ _ _ _ _ _ _ [ξ (.v (t8 (.down k p))),ξ (.v (kd K)),ξ (.v (.int i)),ζ]=_;unfold a1I;refine(g6 (b32 (.inr (.inl ⟨k,rfl⟩)) hp')).trans ?_;refine G1 ((J5 (ps:=[.int ((x.1*k:Nat):Int),.int (x.2:Nat),.int i]) ?_).trans (b3f c.1 c.2 _));refine e9 (q:= .v (.int ((x.1:Nat)*(k:Nat)))) (mlv (x:=(x.1:Nat)) rfl (a3F (b4Q k p)) (by lia)) (by rw [Int.natCast_mul];rfl) (e9 (q:= .v (.int (x.2:Nat))) rfl rfl (e9 (q:= .v (.int i)) rfl rfl rfl))
   ·cases e
  |turned w p=>
   ext d
   cases e1:z8 K p with
   |none=>rw [e1] at e;cases e
   |some x=>
    rw [e1] at e;cases e;have hp':=ih (n+1) (by lia) p x ok.2 (by lia) e1
    have t:b1h false (.v (row w)) (.v Q9)=ξ (.v (.bool (a4x w))):=by
     have h2:w=[116,117,114,110]\/w=[104,97,108,102]\/w=[98,97,99,107]\/w=[115,105,100,101]\/w=[102,108,105,112]\/w=[99,114,111,115,115]\/w=[111,116,104,101,114]:=by
      simpa [a0y] using ok.1
     rcases h2 with rfl|rfl|rfl|rfl|rfl|rfl|rfl<;>rfl
    refine n4 (n:=1) ?_;show a0c _ _ _ _ _ _ _ [ξ (.v (t8 (.turned w p))),ξ (.v (kd K)),ξ (.v (.int i)),ζ]=_;unfold a0c;refine(g6 (b32 (.inr (.inr (.inl ⟨w,rfl⟩))) hp')).trans ?_;have t2:u6 (m2 (b1h false) (m1 (E5 [AC "Turned"] (AC "way")) (b0 0)) (mC Q9)) [ξ (.v (t8 (.turned w p))),ξ (.v (kd K)),ξ (.v (.int i)),ξ (.v (PR x))]=ξ (a4x w):=G0 (a3F (c0h w p)) rfl t;unfold b2Q;cases hv:a4x w with
    |true=>rw [hv] at t2;exact l7 t2 rfl
    |false=>rw [hv] at t2;exact(b7 t2).trans rfl
  |dyed a b p=>
   ext d
   exact a4G (b32 (q3:=[]) (.inr (.inr (.inr ⟨a,b,rfl⟩))) (ih (n+1) (by lia) p d ok.2.2 (by lia) e))
theorem c0j{body:MS}{tg:PV->c5->Option c5}{p:PV}{ps:List PV}{ρ ρ1 ρ2:c5}(h1:tg p ρ=ξ ρ1)(h2:body ρ1=ξ (.nx ρ2)):z9 body tg (p::ps) ρ=z9 body tg ps ρ2:=by
 rw [z9,h1];show(body ρ1).bind _=_;rw [h2];rfl
theorem a0r{body:MS}{tg:PV->c5->Option c5}{ρ:c5}:z9 body tg [] ρ=ξ (.nx ρ):=by rw [z9]
def T4(m:Nat)(g:Nat->Nat):List Nat:=(AT m).map g
def cl(n m:Nat)(f:Nat->Nat->Nat):PV:= .tuple ((AT n).map λi=>row (T4 m (f i)))
theorem a3g(m:Nat)(g:Nat->Nat):(T4 m g).length=m:=by simp [T4]
theorem c6g{m:Nat}{g:Nat->Nat}{j:Nat}(h:j<m):L2.atI (T4 m g) (j:Int)=ξ (g j):=by
 rw [b14];simp [T4,h]
theorem a4c(n m:Nat)(f:Nat->Nat->Nat):B4 (.v (cl n m f))=ξ (.v (.int n)):=by
 show B4 (.v (.tuple _))=_;rw [c0u,AW,Ak]
theorem c3Y{n m:Nat}{f:Nat->Nat->Nat}{i:Nat}(h:i<n):k6 (.v (cl n m f)) (.v (.int (i:Int)))=ξ (.v (row (T4 m (f i)))):=by
 refine c2C ?_;rw [b14];simp [h]
theorem a4b{n m:Nat}{f:Nat->Nat->Nat}(h:0<n):k6 (.v (cl n m f)) (.v (.int 0))=ξ (.v (row (T4 m (f 0)))):=c3Y (i:=0) h
theorem c3Z{m:Nat}{g:Nat->Nat}{j:Nat}(hm:m<=10000)(h:j<m):k6 (.v (row (T4 m g))) (.v (.int (j:Int)))=ξ (.v (row [g j])):=
 c0t (by rw [a3g];lia) (c6g h)
theorem a4d{m:Nat}{g:Nat->Nat}(hm:m<=10000):B4 (.v (row (T4 m g)))=ξ (.v (.int m)):=by
 show(if(S (T4 m g)).length<=AM then ξ (d7.v (.int (S (T4 m g)).length)) else ζ)=_
 rw [if_pos (by rw [a2o,a3g,sizeLine_eq];lia),a2o,a3g]
theorem a9h(n m:Nat)(f:Nat->Nat->Nat){mm:M}{ρ:c5}(h:mm ρ=ξ (.v (cl n m f))):v0 mm ρ=ξ ((AT n).map λi=>row (T4 m (f i))):=b46 h rfl
theorem b9Y{n m:Nat}{f g:Nat->Nat->Nat}(h:∀i j,i<n->j<m->f i j=g i j):cl n m f=cl n m g:=by
 unfold cl
 congr 1
 refine List.map_congr_left λi hi=> ?_;have hi:=List.mem_range.mp hi;have e:T4 m (f i)=T4 m (g i):=List.map_congr_left λj hj=>h i j hi (List.mem_range.mp hj);show row (T4 m (f i))=row (T4 m (g i));rw [e]
theorem b2B{α:Type}(n:Nat)(g:Nat->α):((AT n).map g).reverse=(AT n).map λj=>g (n - 1 - j):=by
 apply List.ext_getElem (by simp)
 intro i h1 h2;simp
theorem b8m{n m:Nat}{f:Nat->Nat->Nat}{c:Nat}(hn:n<=1000)(hm:m<=1000)(hc:c<m):a67 [cl n m f,.int (c:Int)]=ξ (.v (row (T4 n λi=>f i c))):=by
 unfold a67 b4v;simp! [W1,a4y,S5,G9,AO,AN,An,Al,Ag];rw [C2 (f:=λi:Nat=>row [f i c]) (AT n) (a9h n m f rfl) (by rw [Ak];lia)]
 ·simp! [a2e,N9,AO,show AC ""=S [] from rfl,b6n (k:=n) (by lia)]
  rfl
 ·intro i hi;refine⟨_,rfl, ?_⟩;unfold a8B;simp! [W1,E8,R4,G2,AO,Ap,Al,Ar,As,Ay,Az,c3Z (m:=m) (by lia) hc]
theorem b05{n m:Nat}{f:Nat->Nat->Nat}(hn0:0<n)(hn:n<=1000)(hm:m<=1000):a0W [cl n m f]=ξ (.v (cl m n λi j=>f j i)):=by
 unfold a0W a6L;simp! [b0d,S5,G9,AN,An,Al,Ag];rw [C2 (f:=λc:Nat=>row (T4 n λi=>f i c)) (AT m) (L0 (n:=m) (by simp! [W1,b0d,a4y,E8,AO,a4b hn0,a4d (m:=m) (by lia)]) (by lia)) (by rw [Ak];lia)]
 ·simp! [a2e,N9,AO,a6d]
  rfl
 ·intro c hc;refine⟨_,rfl, ?_⟩;unfold a3y;simp! [E8,R4,Z0,P6,G2,Y8,AO,Ap,Al,Ar,As,Ay,Az,b8m hn hm (List.mem_range.mp hc)]
theorem b8N{m:Nat}{g:Nat->Nat}(hm:m<=1000):a60 (.v (.str (S []))) (.v (row (T4 m g)))=ξ (.v (row (T4 m λj=>g (m - 1 - j)))):=by
 show(if(S (T4 m g)).length+(S (T4 m g)).length*(S []).length<=16777216 then ξ (d7.v (.str (Txt.join (S []) ((S (T4 m g)).cps.toList.reverse.map λc=>⟨#[c]⟩)))) else ζ)=_
 rw [if_pos (by rw [a2o,a3g,a2o];simp only [Am];lia),b7a]
 have e:((T4 m g).reverse.map λc=>(⟨#[c]⟩:Str))=((T4 m g).reverse.map λc=>[c]).map S:=by rw [Ah];rfl
 rw [e,c0L,a68,a1N];unfold T4;rw [b2B]
theorem c1B{n m:Nat}{f:Nat->Nat->Nat}(hn:n<=1000)(hm:m<=1000):Q2 [cl n m f]=ξ (.v (cl n m λi j=>f i (m - 1 - j))):=by
 unfold Q2 a2r;simp! [b0d,S5,G9,AN,An,Al,Ag];rw [C2 (f:=λi:Nat=>row (T4 m λj=>f i (m - 1 - j))) (AT n) (a9h n m f rfl) (by rw [Ak];lia)]
 ·simp! [a2e,N9,AO,a6d]
  rfl
 ·intro i hi;refine⟨_,rfl, ?_⟩;unfold a0M;simp! [W1,a4y,E8,R4,G2,AO,Ap,Al,Ar,As,Ay,Az,show AC ""=S [] from rfl,b8N (m:=m) hm]
theorem b9T{n m:Nat}{f:Nat->Nat->Nat}:a0X [cl n m f]=ξ (.v (cl n m λi j=>f (n - 1 - i) j)):=by
 unfold a0X a6N cl;simp! [b8G,b0d,E8,S5,a2e,G9,N9,AO,AN,An,Al,Ag];rw [b2B]
theorem c2t(a b:Str):PyData.eqv (.str a) (.str b)=(a==b):=by simp only [PyData.eqv]
theorem b3n(a b:Str):D0 (.v (.str a)) (.v (.str b))=ξ (.v (.bool (a==b))):=by
 rw [b6m (x:= .v (.str a)) (y:= .v (.str b)) ⟨rfl,rfl⟩,a8b,a8b,c2t]
theorem a3v{n m:Nat}{f:Nat->Nat->Nat}(hn0:0<n)(hn:n<=1000)(hm:m<=1000):Q3 [cl n m f,.str (AC "cross")]=ξ (.v (cl m n λi j=>f j i)):=by
 unfold Q3 a41;simp! [W1,a4y,E8,R4,Z0,P6,G2,Y8,S5,a2e,a1u,a9k,a2B,b7x,G9,N9,a5d,a8d,AO,AN,An,Al,Ag,beq_self_eq_true,b3n,b05 hn0 hn hm]
theorem a5j{n m:Nat}{f:Nat->Nat->Nat}(hn:n<=1000)(hm:m<=1000):Q3 [cl n m f,.str (AC "side")]=ξ (.v (cl n m λi j=>f i (m - 1 - j))):=by
 unfold Q3 a41;simp! [W1,a4y,E8,R4,Z0,P6,G2,Y8,S5,a2e,a1u,a7I,a9k,a2B,b7x,b7w,a5c,G9,N9,a5d,a8d,AO,AN,An,Al,Ag,beq_self_eq_true,b3n,c1B hn hm,show(AC "side"==AC "cross")=false from by decide+kernel]
theorem a5i{n m:Nat}{f:Nat->Nat->Nat}:Q3 [cl n m f,.str (AC "flip")]=ξ (.v (cl n m λi j=>f (n - 1 - i) j)):=by
 unfold Q3 a41;simp! [W1,a4y,E8,R4,Z0,P6,G2,Y8,S5,a2e,a1u,a7I,a2B,b7w,a5c,G9,N9,a5d,a8d,AO,AN,An,Al,Ag,b3n,b9T,show(AC "flip"==AC "cross")=false from by decide+kernel,show(AC "flip"==AC "side")=false from by decide+kernel]
theorem S9{q0 q1 q3:Option d7}{p p':PV}{st:Str}(h:Q3 [p,.str st]=ξ (.v p')){ps:List PV}:z9 a0w (j6 3) (.str st::ps) [q0,q1,ξ (.v p),q3]=z9 a0w (j6 3) ps [q0,q1,ξ (.v p'),ξ (.v (.str st))]:=by
 refine c0j rfl ?_;unfold a0w;simp! [E8,R4,Z0,P6,G2,Y8,b43,b9Q,AO,Ay,Az,h]
theorem P7{p p':PV}{w:Str}{ps:List PV}{q:Option d7}(ht:a8E a5l (.inr w)=ξ (.tuple ps))(h:z9 a0w (j6 3) ps [ξ (.v p),ξ (.v (.str w)),ξ (.v p),ζ]=ξ (.nx [ξ (.v p),ξ (.v (.str w)),ξ (.v p'),q])):K6 [p,.str w]=ξ (.v p'):=by
 unfold K6 b4y;simp! [E8,R4,G2,b43,b9Q,a1u,a7I,G9,N9,c00,c5F,c0W,AO,BA,AN,An,Ap,Al,Ar,As,Ay,Az,b4Z,b6D,a9i,b3F,ht,h]
def wy:Nat->Str
 |0=>AC "stay"
 |1=>AC "turn"
 |2=>AC "half"
 |3=>AC "back"
 |4=>AC "side"
 |5=>AC "flip"
 |6=>AC "cross"
 |7=>AC "other"
 |_=>AC "stay"
def tf(k n m:Nat)(f:Nat->Nat->Nat):Nat->Nat->Nat:=match k with
 |1=>λr c=>f (n - 1 - c) r
 |2=>λr c=>f (n - 1 - r) (m - 1 - c)
 |3=>λr c=>f c (m - 1 - r)
 |4=>λr c=>f r (m - 1 - c)
 |5=>λr c=>f (n - 1 - r) c
 |6=>λr c=>f c r
 |7=>λr c=>f (n - 1 - c) (m - 1 - r)
 |_=>f
def sw:Nat->Bool
 |1=>true
 |3=>true
 |6=>true
 |7=>true
 |_=>false
def hh(k n m:Nat):Nat:=if sw k=true then m else n
def wd(k n m:Nat):Nat:=if sw k=true then n else m
section
variable {n m:Nat}{f:Nat->Nat->Nat}
theorem td0(hn0:0<n)(hm0:0<m)(hn:n<=1000)(hm:m<=1000):K6 [cl n m f,.str (wy 0)]=ξ (.v (cl (hh 0 n m) (wd 0 n m) (tf 0 n m f))):=by
 refine P7 (ps:=[]) (q:=ζ) (by kernel_rfl) ?_
 rw [a0r]
 rfl
theorem td1(hn0:0<n)(hm0:0<m)(hn:n<=1000)(hm:m<=1000):K6 [cl n m f,.str (wy 1)]=ξ (.v (cl (hh 1 n m) (wd 1 n m) (tf 1 n m f))):=by
 refine P7 (ps:=[.str (AC "cross"),.str (AC "side")]) (q:=ξ (.v (.str (AC "side")))) (by kernel_rfl) ?_
 rw [S9 (a3v hn0 hn hm)];rw [S9 (a5j hm hn)];rw [a0r]
 rfl
theorem td2(hn0:0<n)(hm0:0<m)(hn:n<=1000)(hm:m<=1000):K6 [cl n m f,.str (wy 2)]=ξ (.v (cl (hh 2 n m) (wd 2 n m) (tf 2 n m f))):=by
 refine P7 (ps:=[.str (AC "side"),.str (AC "flip")]) (q:=ξ (.v (.str (AC "flip")))) (by kernel_rfl) ?_
 rw [S9 (a5j hn hm)];rw [S9 a5i];rw [a0r]
 rfl
theorem td3(hn0:0<n)(hm0:0<m)(hn:n<=1000)(hm:m<=1000):K6 [cl n m f,.str (wy 3)]=ξ (.v (cl (hh 3 n m) (wd 3 n m) (tf 3 n m f))):=by
 refine P7 (ps:=[.str (AC "cross"),.str (AC "flip")]) (q:=ξ (.v (.str (AC "flip")))) (by kernel_rfl) ?_
 rw [S9 (a3v hn0 hn hm)];rw [S9 a5i];rw [a0r]
 rfl
theorem td4(hn0:0<n)(hm0:0<m)(hn:n<=1000)(hm:m<=1000):K6 [cl n m f,.str (wy 4)]=ξ (.v (cl (hh 4 n m) (wd 4 n m) (tf 4 n m f))):=by
 refine P7 (ps:=[.str (AC "side")]) (q:=ξ (.v (.str (AC "side")))) (by kernel_rfl) ?_
 rw [S9 (a5j hn hm)];rw [a0r]
 rfl
theorem td5(hn0:0<n)(hm0:0<m)(hn:n<=1000)(hm:m<=1000):K6 [cl n m f,.str (wy 5)]=ξ (.v (cl (hh 5 n m) (wd 5 n m) (tf 5 n m f))):=by
 refine P7 (ps:=[.str (AC "flip")]) (q:=ξ (.v (.str (AC "flip")))) (by kernel_rfl) ?_
 rw [S9 a5i];rw [a0r]
 rfl
theorem td6(hn0:0<n)(hm0:0<m)(hn:n<=1000)(hm:m<=1000):K6 [cl n m f,.str (wy 6)]=ξ (.v (cl (hh 6 n m) (wd 6 n m) (tf 6 n m f))):=by
 refine P7 (ps:=[.str (AC "cross")]) (q:=ξ (.v (.str (AC "cross")))) (by kernel_rfl) ?_
 rw [S9 (a3v hn0 hn hm)];rw [a0r]
 rfl
theorem td7(hn0:0<n)(hm0:0<m)(hn:n<=1000)(hm:m<=1000):K6 [cl n m f,.str (wy 7)]=ξ (.v (cl (hh 7 n m) (wd 7 n m) (tf 7 n m f))):=by
 refine P7 (ps:=[.str (AC "cross"),.str (AC "side"),.str (AC "flip")]) (q:=ξ (.v (.str (AC "flip")))) (by kernel_rfl) ?_
 rw [S9 (a3v hn0 hn hm)];rw [S9 (a5j hm hn)];rw [S9 a5i];rw [a0r]
 rfl
theorem b9A{k:Nat}(hk:k<8)(hn0:0<n)(hm0:0<m)(hn:n<=1000)(hm:m<=1000):K6 [cl n m f,.str (wy k)]=ξ (.v (cl (hh k n m) (wd k n m) (tf k n m f))):=by
 match k,hk with
 |0,_=>exact td0 hn0 hm0 hn hm
 |1,_=>exact td1 hn0 hm0 hn hm
 |2,_=>exact td2 hn0 hm0 hn hm
 |3,_=>exact td3 hn0 hm0 hn hm
 |4,_=>exact td4 hn0 hm0 hn hm
 |5,_=>exact td5 hn0 hm0 hn hm
 |6,_=>exact td6 hn0 hm0 hn hm
 |7,_=>exact td7 hn0 hm0 hn hm
end
theorem b7F{α:Type}(a b:Nat)(f g:Nat->α):(AT a).map f++(AT b).map g=(AT (a+b)).map λj=>if j<a then f j else g (j - a):=by
 rw [List.range_add,Au]
 congr 1
 ·refine List.map_congr_left λj hj=> ?_;rw [if_pos (List.mem_range.mp hj)]
 ·rw [Ah];refine List.map_congr_left λj _=> ?_;show g j=if a+j<a then f (a+j) else g (a+j - a)
  rw [if_neg (by lia),Nat.add_sub_cancel_left]
theorem b3G{α:Type}(m:Nat)(g:Nat->α):∀k:Nat,(AQ k ((AT m).map g)).flatten=(AT (m*k)).map λj=>g (j % m)
 |0=>by simp
 |k+1=>by
  rw [List.replicate_succ',List.flatten_append,b3G m g k,Nat.mul_succ,List.range_add,Au]
  congr 1
  rw [Ah];simp only [List.flatten_cons,List.flatten_nil,Ag];refine List.map_congr_left λj hj=> ?_;show g j=g ((m*k+j) % m);rw [Nat.mul_add_mod,Nat.mod_eq_of_lt (List.mem_range.mp hj)]
def bF(m:Nat)(f g:Nat->Nat->Nat):Nat->Nat->Nat:=λi j=>if j<m then f i j else g i (j - m)
def aF(n:Nat)(f g:Nat->Nat->Nat):Nat->Nat->Nat:=λi j=>if i<n then f i j else g (i - n) j
theorem c5q(m1 q2:Nat)(f g:Nat->Nat):T4 m1 f++T4 q2 g=T4 (m1+q2) λj=>if j<m1 then f j else g (j - m1):=b7F m1 q2 f g
theorem b8A{a b:List Nat}(h:a.length+b.length<=1000):y8 (.v (row a)) (.v (row b))=ξ (.v (row (a++b))):=by
 show(if(S a).length+(S b).length<=AM then ξ (d7.v (.str (S a++S b))) else ζ)=_
 rw [if_pos (by rw [a2o,a2o,sizeLine_eq];lia)]
 congr 3
 exact c3R a b
theorem c6y(n m1 q2:Nat)(f g:Nat->Nat->Nat):b0S ((AT n).map λi=>row (T4 m1 (f i))) ((AT n).map λi=>row (T4 q2 (g i)))=(AT n).map λi=> .tuple [row (T4 m1 (f i)),row (T4 q2 (g i))]:=by
 unfold b0S;rw [List.zipWith_map,List.zipWith_self]
theorem c5N{a b:Nat}:S [a]=S [b]↔a=b:=⟨λh=>by simpa using c3S h,λh=>by rw [h]⟩
def ex(a b x:Nat):Nat:=if x=a then b else if x=b then a else x
theorem a39(a b:Nat):D0 (.v (row [a])) (.v (row [b]))=ξ (.v (.bool (decide (a=b)))):=by
 rw [b6m (x:= .v (row [a])) (y:= .v (row [b])) ⟨rfl,rfl⟩,a8b,a8b];have:PyData.eqv (row [a]) (row [b])=(S [a]==S [b]):=by simp only [PyData.eqv]
 rw [this]
 congr 3
 rw [Bool.eq_iff_iff,beq_iff_eq,decide_eq_true_eq];exact c5N
theorem b3j(x a b:Nat):a1O [row [x],row [a],row [b]]=ξ (.v (row [ex a b x])):=by
 unfold a1O a8s ex
 by_cases h1:x=a
 ·simp! [W1,E8,R4,a1u,a9k,a2B,b7x,G9,N9,a5d,a8d,AO,AN,An,Al,Ag,↓reduceIte,a9i,b3F,a39,h1,decide_true]
 ·by_cases h2:x=b
  ·simp! [W1,E8,R4,a1u,a7I,a9k,a2B,b7x,b7w,a5c,G9,N9,a5d,a8d,AO,AN,An,Al,Ag,a9i,b3F,a39,decide_eq_false h1,decide_eq_true h2];rw [if_neg h1,if_pos h2]
  ·simp! [W1,E8,R4,a1u,a7I,a2B,b7w,a5c,G9,N9,a5d,a8d,AO,AN,An,Al,Ag,a9i,a39,decide_eq_false h1,decide_eq_false h2];rw [if_neg h1,if_neg h2]
theorem c32{l:List Nat}(hl:l.length<=10000){y:d7}(hy:PyData.items? y.rd=ξ (l.map λx=>row [x])):a0t (.v (.str (AC ""))) y=ξ (.v (row l)):=by
 have e:AC ""=S []:=by decide+kernel
 have h1:(l.map λx=>row [x])=(l.map λx=>[x]).map row:=by rw [Ah];rfl
 rw [h1] at hy;rw [e,a2Z (sep:=[]) (rows:=l.map λx=>[x]) hy (by
  have:((l.map λx=>[x]).map (·.length)).sum=l.length:=b0N l λx=>x;rw [this];simp;lia),a68,a1N]
theorem b4L{l:List Nat}(hl:l.length<=1000)(a b:Nat):a21 [row l,row [a],row [b]]=ξ (.v (row (l.map (ex a b)))):=by
 have c2:=C2 (ι:=λx=>row [x]) (f:=λx=>row [ex a b x]) (k:=1) (elt:=a19) (tg:=j6 3) (it:=b0e (b0 0)) (ρ:=[ξ (.v (row l)),ξ (.v (row [a])),ξ (.v (row [b]))]) l (c0Z rfl) (by lia) λx hx=>⟨_,rfl,by
  unfold a19;simp! [E8,R4,Z0,P6,G2,Y8,AO,Ap,Al,Ar,As,Ay,Az,b3j x a b]⟩
 have e2:l.map (λx=>row [ex a b x])=(l.map (ex a b)).map λy=>row [y]:=by rw [Ah];rfl
 rw [e2] at c2;unfold a21 a9A;simp! [W1,a4y,S5,a2e,G9,N9,AO,AN,An,Al,Ag,AW,c2,c32 (l:=l.map (ex a b)) (y:= .own ((l.map (ex a b)).map λy=>row [y])) (by rw [AW];lia) rfl]
theorem b4M{n m:Nat}(hn8:n<=24)(hm:m<=24)(f:Nat->Nat->Nat)(a b:Nat):a22 [cl n m f,row [a],row [b]]=ξ (.v (cl n m λi j=>ex a b (f i j))):=by
 unfold a22 a9B;simp! [b0d,S5,G9,AN,An,Al,Ag];rw [C2 (f:=λi:Nat=>row (T4 m λj=>ex a b (f i j))) (AT n) (a9h n m f rfl) (by rw [Ak];lia)]
 ·simp! [a2e,N9,AO,a6d]
  rfl
 ·intro i hi;refine⟨_,rfl, ?_⟩;have:=b4L (l:=T4 m (f i)) (by rw [a3g];lia) a b
  unfold T4 at this;rw [Ah] at this;unfold a5J T4;simp! [E8,R4,Z0,P6,G2,Y8,AO,Ap,Al,Ar,As,Ay,Az,this]
  rfl
theorem b9Z{rows:List (List Nat)}{n m:Nat}(C:c4f rows n m):b4E rows=cl n m λi j=>(rows.getD i []).getD j 0:=by
 unfold b4E cl
 congr 1
 apply List.ext_getElem (by simp [C.len])
 intro i h1 h2;rw [AW] at h1;simp only [List.getElem_map,List.getElem_range];show row rows[i]=row _
 congr 1
 congr 1
 have hl:rows[i].length=m:=C.wid _ (List.getElem_mem _);apply List.ext_getElem (by rw [a3g,hl])
 intro j h3 h4;simp [T4,List.getD,h1,h3]
theorem a6Q{a b:Nat}(h1:a<=24)(h2:b<=24):L7 [.int (a:Nat),.int (b:Nat)]=ξ (.v .none):=by
 have e1:u6 (m2 (gI λi j=> .bool (decide (j<i))) (b0 0) (mC E1)) [ξ (.v (.int (a:Nat))),ξ (.v (.int (b:Nat)))]=ξ false:=by
  refine(G0 (r:= .v (.int (a:Nat))) rfl (q:= .v (.int 24)) rfl (b:=decide ((24:Int)<(a:Nat))) rfl).trans ?_;rw [decide_eq_false (by lia)]
 have e2:u6 (m2 (gI λi j=> .bool (decide (j<i))) (b0 1) (mC E1)) [ξ (.v (.int (a:Nat))),ξ (.v (.int (b:Nat)))]=ξ false:=by
  refine(G0 (r:= .v (.int (b:Nat))) rfl (q:= .v (.int 24)) rfl (b:=decide ((24:Int)<(b:Nat))) rfl).trans ?_;rw [decide_eq_false (by lia)]
 unfold L7 a6M;show(o9 _ _ _ [ξ (.v (.int (a:Nat))),ξ (.v (.int (b:Nat)))]).bind _=_;rw [a7i (c48 e1 e2)]
 rfl
theorem a9V{x:M}{n:MS}{ρ:c5}{r:d7}(h:x ρ=ξ r):j0 (b45 x) n ρ=n ρ:=by
 unfold j0 b45;rw [h]
 rfl
theorem c04{x y:M}{ρ:c5}{a b:Nat}(h1:x ρ=ξ (.v (.int (a:Nat))))(h2:y ρ=ξ (.v (.int (b:Nat))))(h:a=b):u6 (m2 gNe x y) ρ=ξ false:=by
 refine(G0 h1 h2 (b0h _ _)).trans ?_;rw [decide_eq_true (by lia)]
 rfl
section
variable {n m p q:Nat}(hn:0<n/\n<=24)(hm:0<m/\m<=24)(hp:0<p/\p<=24)(hq:0<q/\q<=24)(f g:Nat->Nat->Nat)
include hn hm hp hq
theorem b8i(h:n=p)(h2:m+q<=24):a4i [cl n m f,cl p q g]=ξ (.v (cl n (m+q) (bF m f g))):=by
 subst h;have l1:m1 B4 (m2 k6 (b0 0) (mC (.int 0))) [ξ (.v (cl n m f)),ξ (.v (cl n q g))]=ξ (.v (.int (m:Nat))):=one (J7 rfl rfl (a4b hn.1)) (a4d (by lia))
 have l2:m1 B4 (m2 k6 (b0 1) (mC (.int 0))) [ξ (.v (cl n m f)),ξ (.v (cl n q g))]=ξ (.v (.int (q:Nat))):=one (J7 rfl rfl (a4b hn.1)) (a4d (by lia))
 have hz:b7E (a8 (b0 0) (a8 (b0 1) b8)) [ξ (.v (cl n m f)),ξ (.v (cl n q g))]=ξ ((AT n).map λi=> .tuple [row (T4 m (f i)),row (T4 q (g i))]):=by
  show ξ (b0S _ _)=_;rw [c6y]
 have c2:=C2 (ι:=λi:Nat=> .tuple [row (T4 m (f i)),row (T4 q (g i))]) (f:=λi:Nat=>row (T4 (m+q) (bF m f g i))) (k:=2) (elt:=a4u) (tg:=a7K [2,3]) (it:=b7E (a8 (b0 0) (a8 (b0 1) b8))) (ρ:=[ξ (.v (cl n m f)),ξ (.v (cl n q g))]) (AT n) hz (by rw [Ak];lia) λi hi=>⟨_,rfl,by
  unfold a4u;show(m2 y8 (b0 2) (b0 3) [_,_,ξ (.v (row (T4 m (f i)))),ξ (.v (row (T4 q (g i))))]).bind _=_;simp! [W1,E8,R4,G2,AO,b8A (a:=T4 m (f i)) (b:=T4 q (g i)) (by rw [a3g,a3g];lia),c5q]
  rfl⟩
 refine n4 (n:=0) ?_;show a9z [ξ (.v (cl n m f)),ξ (.v (cl n q g))]=_;unfold a9z;refine(b7 (c04 (one rfl (a4c n m f)) (one rfl (a4c n q g)) rfl)).trans ?_;refine(a9V ((J5 (ps:=[.int (n:Nat),.int ((m+q:Nat):Int)]) (e9 (one rfl (a4c n m f)) rfl (e9 (adI l1 l2) (by rw [Int.natCast_add];rfl) rfl))).trans (a6Q hn.2 h2))).trans ?_
 exact G1 (one c2 rfl)
theorem b9K(h:m=q)(h2:n+p<=24):a66 [cl n m f,cl p q g]=ξ (.v (cl (n+p) m (aF n f g))):=by
 subst h;have l1:m1 B4 (m2 k6 (b0 0) (mC (.int 0))) [ξ (.v (cl n m f)),ξ (.v (cl p m g))]=ξ (.v (.int (m:Nat))):=one (J7 rfl rfl (a4b hn.1)) (a4d (by lia))
 have l2:m1 B4 (m2 k6 (b0 1) (mC (.int 0))) [ξ (.v (cl n m f)),ξ (.v (cl p m g))]=ξ (.v (.int (m:Nat))):=one (J7 rfl rfl (a4b hp.1)) (a4d (by lia))
 have ea:y8 (.v (cl n m f)) (.v (cl p m g))=ξ (.v (cl (n+p) m (aF n f g))):=by
  refine(b24 (by rw [AW,Ak];lia) (by rw [AW,Ak];lia) (by rw [AW,AW,Ak,Ak];lia)).trans ?_
  rw [b7F];unfold cl aF
  congr 3
  refine List.map_congr_left λi _=> ?_;split<;>rfl
 refine n4 (n:=0) ?_;show b28 [ξ (.v (cl n m f)),ξ (.v (cl p m g))]=_;unfold b28;refine(b7 (c04 l1 l2 rfl)).trans ?_;refine(a9V ((J5 (ps:=[.int ((n+p:Nat):Int),.int (m:Nat)]) (e9 (adI (one rfl (a4c n m f)) (one rfl (a4c p m g))) (by rw [Int.natCast_add];rfl) (e9 l1 rfl rfl))).trans (a6Q h2 hm.2))).trans ?_
 exact G1 (J7 rfl rfl ea)
end
section
variable {n m k:Nat}(hn:0<n/\n<=24)(hm:0<m/\m<=24)(hk:0<k/\k<=24)(f:Nat->Nat->Nat)
include hn hm hk
theorem b8e(h:m*k<=24):a9Y [cl n m f,.int (k:Nat)]=ξ (.v (cl n (m*k) λi j=>f i (j % m))):=by
 have l1:m1 B4 (m2 k6 (b0 0) (mC (.int 0))) [ξ (.v (cl n m f)),ξ (.v (.int (k:Nat)))]=ξ (.v (.int (m:Nat))):=one (J7 rfl rfl (a4b hn.1)) (a4d (by lia))
 have c2:=C2 (ι:=λi:Nat=>row (T4 m (f i))) (f:=λi:Nat=>row (T4 (m*k) λj=>f i (j % m))) (k:=1) (elt:=a4t) (tg:=j6 2) (it:=v0 (b0 0)) (ρ:=[ξ (.v (cl n m f)),ξ (.v (.int (k:Int)))]) (AT n) (a9h n m f rfl) (by rw [Ak];lia) λi hi=>⟨_,rfl,by
  unfold a4t;show(m2 r6 (b0 2) (b0 1) [_,ξ (.v (.int (k:Int))),ξ (.v (row (T4 m (f i))))]).bind _=_;simp! [W1,E8,R4,G2,AO,c2I (l:=T4 m (f i)) (k:=(k:Int)) ⟨by lia,by rw [a3g];lia⟩]
  unfold T4;rw [BB,b3G]⟩
 refine n4 (n:=0) ?_;show a9y [ξ (.v (cl n m f)),ξ (.v (.int (k:Nat)))]=_;unfold a9y;refine(a9V ((J5 (ps:=[.int (n:Nat),.int ((m*k:Nat):Int)]) (e9 (one rfl (a4c n m f)) rfl (e9 (mlv l1 rfl (by lia)) (by rw [Int.natCast_mul];rfl) rfl))).trans (a6Q hn.2 h))).trans ?_
 exact G1 (one c2 rfl)
theorem c2p(h:n*k<=24):b6o [cl n m f,.int (k:Nat)]=ξ (.v (cl (n*k) m λi j=>f (i % n) j)):=by
 have l1:m1 B4 (m2 k6 (b0 0) (mC (.int 0))) [ξ (.v (cl n m f)),ξ (.v (.int (k:Nat)))]=ξ (.v (.int (m:Nat))):=one (J7 rfl rfl (a4b hn.1)) (a4d (by lia))
 have mi:a8v (.v (.int (n:Int))) (.v (.int (k:Int)))=ξ (.v (.int ((n*k:Nat):Int))):=by
  show r6 (.v (.int (n:Int))) (.v (.int (k:Int)))=_;rw [b3o (by lia),Int.natCast_mul]
 have em:a8v (.v (cl n m f)) (.v (.int (k:Int)))=ξ (.v (cl (n*k) m λi j=>f (i % n) j)):=by
  by_cases k1:k=1
  ·subst k1;show ξ (d7.v (cl n m f))=_;rw [Nat.mul_one]
   congr 2
   exact b9Y λi j hi _=>by rw [Nat.mod_eq_of_lt hi]
  ·have:a8v (.v (cl n m f)) (.v (.int (k:Int)))=r6 (.v (cl n m f)) (.v (.int (k:Int))):=by
    unfold a8v;split
    ·rename_i ps e1 e2;have:(k:Int)=1:=by simpa using e2
     lia
    ·rfl
   rw [this];show r6 (.v (.tuple ((AT n).map λi=>row (T4 m (f i))))) _=_;rw [b8E ⟨by lia,by rw [AW,Ak];lia⟩,BB,b3G]
   rfl
 refine n4 (n:=0) ?_;show b58 [ξ (.v (cl n m f)),ξ (.v (.int (k:Nat)))]=_;unfold b58;refine(a9V ((J5 (ps:=[.int ((n*k:Nat):Int),.int (m:Nat)]) (e9 (J7 (one rfl (a4c n m f)) rfl mi) rfl (e9 l1 rfl rfl))).trans (a6Q h hm.2))).trans ?_;exact G1 (J7 rfl rfl em)
end
structure Ct where
 n:Nat
 m:Nat
 f:Nat->Nat->Nat
def L9(c:Ct):PV:=cl c.n c.m c.f
def dmC(c:Ct):x6:=(c.n,c.m)
def bes(x y:Ct):Ct:=⟨x.n,x.m+y.m,bF x.m x.f y.f⟩
def abv(x y:Ct):Ct:=⟨x.n+y.n,x.m,aF x.n x.f y.f⟩
def lyC(be:Bool)(x y:Ct):Ct:=if be=true then bes x y else abv x y
def la0(be:Bool):List Ct->Ct
 |[]=>⟨0,0,λ_ _=>0⟩
 |c::cs=>cs.foldl (lyC be) c
def kw(w:List Nat):Nat:=a0y.idxOf w+1
def trC(w:List Nat)(c:Ct):Ct:=⟨hh (kw w) c.n c.m,wd (kw w) c.n c.m,tf (kw w) c.n c.m c.f⟩
mutual
def m7(C:NL Ct):Mo->Ct
 | .plain rows=>⟨rows.length,(rows.headD []).length,λi j=>(rows.getD i []).getD j 0⟩
 | .named w=>(C4 C w).getD ⟨0,0,λ_ _=>0⟩
 | .beside ps=>la0 true (a6U C ps)
 | .above ps=>la0 false (a6U C ps)
 | .across k p=>⟨(m7 C p).n,(m7 C p).m*k,λi j=>(m7 C p).f i (j %(m7 C p).m)⟩
 | .down k p=>⟨(m7 C p).n*k,(m7 C p).m,λi j=>(m7 C p).f (i %(m7 C p).n) j⟩
 | .turned w p=>trC w (m7 C p)
 | .dyed a b p=>⟨(m7 C p).n,(m7 C p).m,λi j=>ex a b ((m7 C p).f i j)⟩
def a6U(C:NL Ct):List Mo->List Ct
 |[]=>[]
 |p::ps=>m7 C p::a6U C ps
end
theorem a2t(C:NL Ct):∀ps:List Mo,a6U C ps=ps.map (m7 C)
 |[]=>by rw [a6U];rfl
 |p::ps=>by rw [a6U,a2t C ps];rfl
def Mt(K:NL x6)(C:NL Ct):Prop:=∀w,C4 K w=(C4 C w).map dmC
theorem Mt.put{K:NL x6}{C:NL Ct}(h:Mt K C)(w:List Nat){d:x6}{c:Ct}(e:dmC c=d):Mt (U3 K w d) (U3 C w c):=λv=>by
 rw [a7h,a7h];split
 ·rw [<-e];rfl
 ·exact h v
theorem c0O{w:List Nat}(h:w∈a0y):kw w<8/\S w=wy (kw w)/\sw (kw w)=a4x w:=by
 have h2:w=[116,117,114,110]\/w=[104,97,108,102]\/w=[98,97,99,107]\/w=[115,105,100,101]\/w=[102,108,105,112]\/w=[99,114,111,115,115]\/w=[111,116,104,101,114]:=by
  simpa [a0y] using h
 rcases h2 with rfl|rfl|rfl|rfl|rfl|rfl|rfl<;>exact⟨by decide+kernel,by decide+kernel,by decide+kernel⟩
def a8X(d:x6):Prop:=(0<d.1/\d.1<=24)/\(0<d.2/\d.2<=24)
theorem c0R{be:Bool}{x y:Ct}{d:x6}(h:a0v be (dmC x) (dmC y)=ξ d):dmC (lyC be x y)=d:=by
 unfold a0v at h;unfold lyC;cases be with
 |true=>
  rw [if_pos rfl] at h ⊢;split at h
  ·cases h;rfl
  ·cases h
 |false=>
  rw [if_neg Ac] at h ⊢;split at h
  ·cases h;rfl
  ·cases h
theorem b3z{be:Bool}:∀{cs:List Ct} {x:Ct} {d:x6},V5 be (dmC x) (cs.map dmC)=ξ d->dmC (cs.foldl (lyC be) x)=d
 |[],x,d,h=>by cases h;rfl
 |c::cs,x,d,h=>by
  rw [AN,V5] at h;obtain⟨y,e,h⟩:=bind_some h;rw [List.foldl_cons];refine b3z ?_;rw [c0R e];exact h
section
variable {K:NL x6}{C:NL Ct}(hM:Mt K C)
include hM
theorem a44:∀(n:Nat) (m:Mo) (d:x6),y6 m->t7 m<=n->z8 K m=ξ d->dmC (m7 C m)=d
 |0,m,_,_,h,_=>by have:=a0d m;lia
 |n+1,m,d,ok,h,e=>by
  have lst:∀(ps:List Mo) (ds:List x6),a2E ps->a1D ps<=n->J6 K ps=ξ ds->(a6U C ps).map dmC=ds:=λps=>by
   induction ps with
   |nil=>intro ds _ _ e;rw [J6] at e;cases e;rw [a6U];rfl
   |cons p ps ih=>
    ext q
    cases e2:J6 K ps with
    |none=>rw [e2] at e;cases e
    |some es=>
     rw [e2] at e;cases e;rw [a6U,AN,a44 n p d o.1 (by lia) e1,ih es o.2 (by lia) e2]
  cases m with
  |plain rows=>rw [z8] at e;cases e;rw [m7];rfl
  |named w=>
   rw [z8,hM w] at e;rw [m7];cases hc:C4 C w with
   |none=>rw [hc] at e;cases e
   |some c=>rw [hc] at e;cases e;rfl
  |beside ps=>
   ext g
   obtain⟨ds,e1,e⟩:=bind_some e;have hl:=lst ps ds ok.2.2 (by lia) e1
   rw [m7];cases hc:a6U C ps with
   |nil=>rw [hc] at hl;subst hl;cases e
   |cons c cs=>rw [hc] at hl;subst hl;exact b3z e
  |above ps=>
   ext g
   obtain⟨ds,e1,e⟩:=bind_some e;have hl:=lst ps ds ok.2.2 (by lia) e1
   rw [m7];cases hc:a6U C ps with
   |nil=>rw [hc] at hl;subst hl;cases e
   |cons c cs=>rw [hc] at hl;subst hl;exact b3z e
  |across k p=>
   ext g
   obtain⟨x,e1,e⟩:=bind_some e;have hp:=a44 n p x ok.2.2 (by lia) e1
   ext w
   ·cases e;rw [m7,<-hp];rfl
   ·cases e
  |down k p=>
   ext g
   obtain⟨x,e1,e⟩:=bind_some e;have hp:=a44 n p x ok.2.2 (by lia) e1
   ext x
   ·cases e;rw [m7,<-hp];rfl
   ·cases e
  |turned w p=>
   ext g
   cases e1:z8 K p with
   |none=>rw [e1] at e;cases e
   |some x=>
    rw [e1] at e;cases e;have hp:=a44 n p x ok.2 (by lia) e1
    rw [m7,<-hp];have hs:=(c0O ok.1).2.2;unfold trC b2Q hh wd dmC;rw [hs];cases a4x w<;>rfl
  |dyed a b p=>
   ext g
   rw [m7,<-a44 n p d ok.2.2 (by lia) e]
   rfl
end
theorem a97{be:Bool}:∀{ds:List x6} {x y:x6},(x.1<=24/\x.2<=24)->V5 be x ds=ξ y->y.1<=24/\y.2<=24
 |[],x,y,h,e=>by cases e;exact h
 |d::ds,x,y,h,e=>by
  rw [V5] at e;obtain⟨z,e1,e⟩:=bind_some e;refine a97 ?_ e;unfold a0v at e1;split at e1<;>split at e1<;>cases e1<;>simp only<;>lia
section
variable {K:NL x6}(hK:∀w d,C4 K w=ξ d->d.1<=24/\d.2<=24)
include hK
theorem b4e:∀(n:Nat) (m:Mo) (d:x6),y6 m->t7 m<=n->z8 K m=ξ d->d.1<=24/\d.2<=24
 |0,m,_,_,h,_=>by have:=a0d m;lia
 |n+1,m,d,ok,h,e=>by
  have lst:∀(ps:List Mo) (ds:List x6),a2E ps->a1D ps<=n->J6 K ps=ξ ds->∀d∈ds,d.1<=24/\d.2<=24:=λps=>by
   induction ps with
   |nil=>intro ds _ _ e;rw [J6] at e;cases e;intro d hd;cases hd
   |cons p ps ih=>
    ext q
    cases e2:J6 K ps with
    |none=>rw [e2] at e;cases e
    |some es=>
     rw [e2] at e;cases e;intro x hx;rcases Ab.mp hx with rfl|hx
     ·exact b4e n p _ o.1 (by lia) e1
     ·exact ih es o.2 (by lia) e2 x hx
  cases m with
  |plain rows=>
   ext r
   obtain⟨v,v1,v2,v3,v4,v5⟩:=ok;rw [z8] at e;cases e;cases rows with
   |nil=>simp at v3
   |cons r rows=>have:=v5 r AZ;exact⟨by simp only;lia,by show r.length<=24;lia⟩
  |named w=>rw [z8] at e;exact hK w d e
  |beside ps=>
   ext g
   ext t
   cases ds with
   |nil=>cases e
   |cons x ds=>exact a97 (hp x AZ) e
  |above ps=>
   ext g
   ext t
   cases ds with
   |nil=>cases e
   |cons x ds=>exact a97 (hp x AZ) e
  |across k p=>
   rw [z8] at e;obtain⟨x,e1,e⟩:=bind_some e
   ext w
   ·rename_i c;cases e;exact c
   ·cases e
  |down k p=>
   rw [z8] at e;obtain⟨x,e1,e⟩:=bind_some e
   ext x
   ·rename_i c;cases e;exact c
   ·cases e
  |turned w p=>
   ext g
   cases e1:z8 K p with
   |none=>rw [e1] at e;cases e
   |some x=>
    rw [e1] at e;cases e;have hp:=b4e n p x ok.2 (by lia) e1
    unfold b2Q;split
    ·exact⟨hp.2,hp.1⟩
    ·exact hp
  |dyed a b p=>
   ext g
   exact b4e n p d ok.2.2 (by lia) e
end
structure Gd(K:NL x6)(C:NL Ct):Prop where
 mt:Mt K C
 pos:∀w d,C4 K w=ξ d->b5w d
 le:∀w d,C4 K w=ξ d->d.1<=24/\d.2<=24
theorem Gd.dm{K:NL x6}{C:NL Ct}(G:Gd K C){m:Mo}{d:x6}(ok:y6 m)(e:z8 K m=ξ d):dmC (m7 C m)=d/\a8X d:=by
 have h1:=a1X G.pos _ m d ok (AS _) e;have h2:=b4e G.le _ m d ok (AS _) e;exact⟨a44 G.mt _ m d ok (AS _) e,⟨h1.1,h2.1⟩,⟨h1.2,h2.2⟩⟩
abbrev cd(C:NL Ct):PV:=tv (dN L9 C)
abbrev fnC(be:Bool):PV:=a0L (if be=true then AC "beside" else AC "above")
theorem c4S(be:Bool){x c:Ct}{y:x6}(hx:a8X (dmC x))(hc:a8X (dmC c))(h:a0v be (dmC x) (dmC c)=ξ y):(if be=true then a4i else a66) [L9 x,L9 c]=ξ (.v (L9 (lyC be x c))):=by
 unfold a0v at h;cases be with
 |true=>
  rw [if_pos rfl] at h ⊢;split at h
  ·rename_i k;exact b8i hx.1 hx.2 hc.1 hc.2 x.f c.f k.1.symm k.2.2
  ·cases h
 |false=>
  rw [if_neg Ac] at h ⊢;split at h
  ·rename_i k;exact b9K hx.1 hx.2 hc.1 hc.2 x.f c.f k.1.symm k.2.1
  ·cases h
theorem b8W{be:Bool}{x d y:x6}(hx:a8X x)(hd:a8X d)(h:a0v be x d=ξ y):a8X y:=by
 unfold a0v at h;unfold a8X at*;split at h<;>split at h<;>cases h<;>simp only<;>lia
section
variable {RAb RAc RBe RDo RDy RTu RLa:RF}{K:NL x6}{C:NL Ct}(G:Gd K C)
include G
theorem b7f(be:Bool){s0:Option d7}:∀(ps:List Mo) (ds:List x6) (x:Ct) (y:x6) (q4:Option d7),a2E ps->(∀p∈ps,∀d,z8 K p=ξ d->a5L t6 t5 RBe RAb RAc RDo RTu RDy p [t8 p,cd C]=ξ (.v (L9 (m7 C p))))->J6 K ps=ξ ds->a8X (dmC x)->V5 be (dmC x) ds=ξ y->
 ∃q4',z9 (E7 RAb RAc RBe RDo RDy RTu RLa) (j6 4) (ps.map t8) [s0,ξ (.v (cd C)),ξ (.v (fnC be)),ξ (.v (L9 x)),q4]=ξ (.nx [s0,ξ (.v (cd C)),ξ (.v (fnC be)),ξ (.v (L9 ((ps.map (m7 C)).foldl (lyC be) x))),q4'])
 |[],ds,x,y,q4,_,_,_,_,_=>⟨q4,rfl⟩
 |p::ps,ds,x,y,q4,ok,ih,hs,hx,hl=>by
  rw [J6] at hs;rw [a2E] at ok;obtain⟨d,e1,hs⟩:=bind_some hs;cases e2:J6 K ps with
  |none=>rw [e2] at hs;cases hs
  |some es=>
   rw [e2] at hs;cases hs;rw [V5] at hl;obtain⟨z,h1,hl⟩:=bind_some hl;obtain⟨g1,g2⟩:=G.dm ok.1 e1;rw [<-g1] at g2 h1;have hz:=c0R h1;obtain⟨q4',e⟩:=b7f be (s0:=s0) ps es (lyC be x (m7 C p)) y (ξ (.v (t8 p))) ok.2 (λq hq=>ih q (Aa _ hq)) e2 (by rw [hz];exact b8W hx g2 h1) (by rw [hz];exact hl)
   refine⟨q4', ?_⟩;have hb:E7 RAb RAc RBe RDo RDy RTu RLa [s0,ξ (.v (cd C)),ξ (.v (fnC be)),ξ (.v (L9 x)),ξ (.v (t8 p))]=ξ (.nx [s0,ξ (.v (cd C)),ξ (.v (fnC be)),ξ (.v (L9 (lyC be x (m7 C p)))),ξ (.v (t8 p))]):=by
    unfold E7;have em:=(a3d (f1:=t6) (f2:=t5) (f3:=RBe) (f4:=RAb) (f5:=RAc) (f6:=RDo) (f7:=RTu) (f8:=RDy) (mo:=b0 4) (ma:=a8 (b0 1) b8) (ρ:=[s0,ξ (.v (cd C)),ξ (.v (fnC be)),ξ (.v (L9 x)),ξ (.v (t8 p))]) (m:=p) (qs:=[cd C]) (.inr rfl) rfl rfl).trans (ih p AZ d e1);refine X5 ((a9F (x:=if be=true then AC "beside" else AC "above") (g:=if be=true then a4i else a66) (qs:=[L9 x,L9 (m7 C p)]) rfl ?_ (e9 (q:= .v (L9 x)) rfl rfl (e9 em rfl rfl))).trans (c4S be hx g2 h1))
    cases be<;>rfl
   rw [AN,z9];show(E7 RAb RAc RBe RDo RDy RTu RLa [s0,ξ (.v (cd C)),ξ (.v (fnC be)),ξ (.v (L9 x)),ξ (.v (t8 p))]).bind _=_;rw [hb,AO];exact e
theorem b4D(be:Bool){ps:List Mo}{y:x6}(okp:a2E ps)(h:(J6 K ps).bind (a8A be)=ξ y)(ih:∀p∈ps,∀d,z8 K p=ξ d->a5L t6 t5 RBe RAb RAc RDo RTu RDy p [t8 p,cd C]=ξ (.v (L9 (m7 C p)))):
 m4 2 (M0 RAb RAc RBe RDo RDy RTu RLa) [.tuple (ps.map t8),cd C,fnC be]=ξ (.v (L9 (la0 be (a6U C ps)))):=by
 obtain⟨ds,h1,h⟩:=bind_some h
 rw [a2t]
 cases ps with
 |nil=>rw [J6] at h1;cases h1;cases h
 |cons p ps=>
  rw [J6] at h1
  rw [a2E] at okp
  obtain⟨d,e1,h1⟩:=bind_some h1
  cases e2:J6 K ps with
  |none=>rw [e2] at h1;cases h1
  |some es=>
   rw [e2] at h1;cases h1
   obtain⟨g1,g2⟩:=G.dm okp.1 e1
   obtain⟨q4,e⟩:=b7f (RAb:=RAb) (RAc:=RAc) (RBe:=RBe) (RDo:=RDo) (RDy:=RDy) (RTu:=RTu) (RLa:=RLa) G be (s0:=ξ (.v (.tuple ((p::ps).map t8)))) ps es (m7 C p) y ζ okp.2 (λq hq=>ih q (Aa _ hq)) e2 (by rw [g1];exact g2) (by rw [g1];exact h)
   refine n4 (n:=2) ?_
   show M0 RAb RAc RBe RDo RDy RTu RLa [ξ (.v (.tuple ((p::ps).map t8))),ξ (.v (cd C)),ξ (.v (fnC be)),ζ,ζ]=_
   unfold M0
   have em:=(a3d (f1:=t6) (f2:=t5) (f3:=RBe) (f4:=RAb) (f5:=RAc) (f6:=RDo) (f7:=RTu) (f8:=RDy) (mo:=m2 k6 (b0 0) (mC (.int 0))) (ma:=a8 (b0 1) b8) (ρ:=[ξ (.v (.tuple ((p::ps).map t8))),ξ (.v (cd C)),ξ (.v (fnC be)),ζ,ζ]) (m:=p) (qs:=[cd C]) (.inr rfl) (J7 (r:= .v (.tuple ((p::ps).map t8))) (q:= .v (.int 0)) rfl rfl (at0 (.inr rfl))) rfl).trans (ih p AZ d e1)
   refine(g6 em).trans ?_
   have e0:Y9 (P5 (b0 0) (R5 (mC (.int 1))) T3) [ξ (.v (.tuple ((p::ps).map t8))),ξ (.v (cd C)),ξ (.v (fnC be)),ξ (.v (L9 (m7 C p))),ζ]=ξ (ps.map t8):=by
    show ξ (cut (t8 p::ps.map t8) (ξ 1) ζ)=ξ (ps.map t8);unfold cut HT.sIx;simp;exact List.take_of_length_le (by simp)
   exact(Y4 e0 e).trans rfl
omit G in
theorem b31{m p:Mo}{c:PV}(hm:(∃k,m= .across k p)\/(∃k,m= .down k p)\/(∃w,m= .turned w p)\/∃a b,m= .dyed a b p)(h:a5L t6 t5 RBe RAb RAc RDo RTu RDy p [t8 p,cd C]=ξ (.v c)):
 U0 (c5D t6 t5 RBe RAb RAc RDo RTu RDy) (AC "cloth") (m1 (E5 c1i (AC "part")) (b0 0)) (a8 (b0 1) b8) [ξ (.v (t8 m)),ξ (.v (cd C))]=ξ (.v c):=(a3d (.inr rfl) (qs:=[cd C]) (a3F (b7m hm)) rfl).trans h
end
def c6D(n:Nat)(m:Mo):RF:=a5L t6 t5 (a0C n) (a1p n) (a0B n) (a15 n) (a0D n) (a16 n) m
theorem b5v{R:List (List Nat)}(h:okP R)(C:NL Ct): .tuple (R.map row)=L9 (m7 C (.plain R)):=by
 obtain⟨v,v1,v2,v3,v4,v5⟩:=h;rw [m7];have hv:(R.headD []).length=v:=by
  cases R with
  |nil=>simp at v3
  |cons r R=>exact v5 r AZ
 unfold L9;rw [hv];exact b9Z ⟨rfl,v5⟩
theorem b90{K:NL x6}{C:NL Ct}(G:Gd K C):∀(n:Nat) (m:Mo) (d:x6),y6 m->2*t7 m<=n->z8 K m=ξ d->c6D n m [t8 m,cd C]=ξ (.v (L9 (m7 C m))):=by
 intro n
 induction n using Nat.strongRecOn with
 |ind n ih=>
  intro m d ok hd e;have hp:=a0d m;obtain⟨n,rfl⟩:∃k,n=k+2:=⟨n - 2,by lia⟩
  cases m with
  |plain R=>
   ext r
   rw [<-b5v ok C];exact a4G (x:=m1 (E5 [AC "Plain"] (AC "rows")) (b0 0)) (ps:=[t8 (.plain R),cd C]) (a3F (b7n R))
  |named w=>
   rw [z8,G.mt w] at e;have nm:∀ρ,m1 (E5 [AC "Named"] (AC "name")) (b0 0) (ξ (.v (t8 (.named w)))::ρ)=ξ (.v (row w)):=λρ=>a3F (b7l w);have tw:=b4f (i:=1) (ρ:=[ξ (.v (t8 (.named w))),ξ (.v (cd C))]) rfl (a5f L9 C);refine a4G ?_;show a3b 1 _ [ξ (.v (t8 (.named w))),ξ (.v (cd C))]=_;unfold a3b;rw [nm];show(tvw 1 _).bind _=_;rw [tw,AO,a40,m7];cases hc:C4 C w with
   |none=>rw [hc] at e;cases e
   |some c=>rfl
  |beside ps=>
   ext d
   have hw:Y7 (n+1) [.tuple (ps.map t8),cd C,fnC true]=ξ (.v (L9 (la0 true (a6U C ps)))):=b4D G true ok.2.2 e λp hp d hd'=>ih n (by lia) p d (C5 ok.2.2 hp) (by have:=E4 hp;lia) hd'
   rw [m7];exact a4G ((J5 (e9 (a3F (b2f ps)) rfl rfl)).trans hw)
  |above ps=>
   ext d
   have hw:Y7 (n+1) [.tuple (ps.map t8),cd C,fnC false]=ξ (.v (L9 (la0 false (a6U C ps)))):=b4D G false ok.2.2 e λp hp d hd'=>ih n (by lia) p d (C5 ok.2.2 hp) (by have:=E4 hp;lia) hd'
   rw [m7];exact a4G ((J5 (e9 (a3F (b2e ps)) rfl rfl)).trans hw)
  |across k p=>
   ext d
   ext p
   obtain⟨g1,g2⟩:=G.dm ok.2.2 e1
   ext w
   ·rename_i c;cases e;rw [<-g1] at g2 c;rw [m7];exact a4G ((J5 (e9 (b31 (.inl ⟨k,rfl⟩) hp') rfl (e9 (a3F (b4R k p)) rfl rfl))).trans (b8e g2.1 g2.2 ⟨ok.1,ok.2.1⟩ _ c.2))
   ·cases e
  |down k p=>
   ext d
   ext p
   obtain⟨g1,g2⟩:=G.dm ok.2.2 e1
   ext x
   ·rename_i c;cases e;rw [<-g1] at g2 c;rw [m7];exact a4G ((J5 (e9 (b31 (.inr (.inl ⟨k,rfl⟩)) hp') rfl (e9 (a3F (b4Q k p)) rfl rfl))).trans (c2p g2.1 g2.2 ⟨ok.1,ok.2.1⟩ _ c.1))
   ·cases e
  |turned w p=>
   ext d
   cases e1:z8 K p with
   |none=>rw [e1] at e;cases e
   |some x=>
    have hp':=ih (n+1) (by lia) p x ok.2 (by lia) e1
    obtain⟨g1,g2⟩:=G.dm ok.2 e1;rw [<-g1] at g2;obtain⟨k1,k2,_⟩:=c0O ok.1;rw [m7];have te:=b9A (n:=(m7 C p).n) (m:=(m7 C p).m) (f:=(m7 C p).f) k1 g2.1.1 g2.2.1 (by have:=g2.1.2;unfold dmC at this;simp only at this;lia) (by have:=g2.2.2;unfold dmC at this;simp only at this;lia)
    rw [<-k2] at te;exact a4G ((J5 (e9 (b31 (.inr (.inr (.inl ⟨w,rfl⟩))) hp') rfl (e9 (a3F (c0h w p)) rfl rfl))).trans te)
  |dyed a b p=>
   ext d
   have hp':=ih (n+1) (by lia) p d ok.2.2 (by lia) e
   obtain⟨g1,g2⟩:=G.dm ok.2.2 e;rw [<-g1] at g2;rw [m7];exact a4G ((J5 (e9 (b31 (.inr (.inr (.inr ⟨a,b,rfl⟩))) hp') rfl (e9 (a3F (c4z a b p)) rfl (e9 (a3F (c0g a b p)) rfl rfl)))).trans (b4M g2.1.2 g2.2.2 _ a b))
abbrev pl4(w:PV)(c:Ct)(p:PV):PV:= .tuple [w,.int (c.n:Nat),.int (c.m:Nat),p]
mutual
def B5(C:NL Ct):Mo->PV
 | .plain rows=>pl4 (.str (AC "plain")) (m7 C (.plain rows)) (L9 (m7 C (.plain rows)))
 | .named w=>pl4 (.str (AC "plain")) (m7 C (.named w)) (L9 (m7 C (.named w)))
 | .beside ps=>pl4 (.str (AC "beside")) (m7 C (.beside ps)) (.list (b9g C ps))
 | .above ps=>pl4 (.str (AC "above")) (m7 C (.above ps)) (.list (b9g C ps))
 | .across k p=>pl4 (.str (AC "across")) (m7 C (.across k p)) (B5 C p)
 | .down k p=>pl4 (.str (AC "down")) (m7 C (.down k p)) (B5 C p)
 | .turned w p=>pl4 (row w) (m7 C (.turned w p)) (B5 C p)
 | .dyed a b p=> .tuple [.str (AC "dye"),.int ((m7 C (.dyed a b p)).n:Nat),.int ((m7 C (.dyed a b p)).m:Nat),B5 C p,row [a],row [b]]
def b9g(C:NL Ct):List Mo->List PV
 |[]=>[]
 |p::ps=>B5 C p::b9g C ps
end
theorem a4C(C:NL Ct):∀ps:List Mo,b9g C ps=ps.map (B5 C)
 |[]=>by rw [b9g];rfl
 |p::ps=>by rw [b9g,a4C C ps];rfl
theorem a7q(C:NL Ct)(m:Mo):k6 (.v (B5 C m)) (.v (.int 1))=ξ (.v (.int ((m7 C m).n:Nat))):=by cases m<;>rw [B5]<;>rfl
theorem a7r(C:NL Ct)(m:Mo):k6 (.v (B5 C m)) (.v (.int 2))=ξ (.v (.int ((m7 C m).m:Nat))):=by cases m<;>rw [B5]<;>rfl
theorem b9U:∀(cs:List Ct) (x:Ct),(cs.foldl (lyC true) x).m=x.m+(cs.map (·.m)).sum/\(cs.foldl (lyC true) x).n=x.n
 |[],x=>⟨by simp,rfl⟩
 |c::cs,x=>by
  have h:=b9U cs (lyC true x c);rw [List.foldl_cons,h.1,h.2,AN,List.sum_cons];exact⟨by show x.m+c.m+_=_;lia,rfl⟩
theorem b9L:∀(cs:List Ct) (x:Ct),(cs.foldl (lyC false) x).n=x.n+(cs.map (·.n)).sum/\(cs.foldl (lyC false) x).m=x.m
 |[],x=>⟨by simp,rfl⟩
 |c::cs,x=>by
  have h:=b9L cs (lyC false x c);rw [List.foldl_cons,h.1,h.2,AN,List.sum_cons];exact⟨by show x.n+c.n+_=_;lia,rfl⟩
theorem b7X:∀(l:List Nat),a17 (l.map λ(k:Nat)=>PyData.int (k:Int))=ξ (l.map λ(k:Nat)=>(k:Int))/\(l.map λ(k:Nat)=>(k:Int)).sum=((l.sum:Nat):Int)
 |[]=>⟨rfl,rfl⟩
 |a::l=>by
  obtain⟨h1,h2⟩:=b7X l;refine⟨?_,by rw [AN,List.sum_cons,List.sum_cons,h2,Int.natCast_add]⟩
  rw [AN,a17,h1]
  rfl
theorem b7Y{α:Type}(l:List α)(g:α->Nat):c0z (.own (l.map λx=>PyData.int ((g x:Nat):Int)))=ξ (.v (.int (((l.map g).sum:Nat):Int))):=by
 have e:(l.map λx=>PyData.int ((g x:Nat):Int))=(l.map g).map λ(k:Nat)=>PyData.int (k:Int):=by rw [Ah];rfl
 rw [e];obtain⟨h1,h2⟩:=b7X (l.map g);show(a17 _).map _=_;rw [h1];show ξ (d7.v (.int _))=_;rw [h2]
theorem c0X{c:MT}{a b:M}{ρ:c5}(h:c ρ=ξ true):mIf c a b ρ=a ρ:=by
 unfold mIf;rw [h]
 rfl
theorem c36{c:MT}{a b:M}{ρ:c5}(h:c ρ=ξ false):mIf c a b ρ=b ρ:=by
 unfold mIf;rw [h]
 rfl
section
variable {R:RF}{K:NL x6}{C:NL Ct}(G:Gd K C)
include G
theorem b2y{ps:List Mo}(hp0:ps≠[])(hp:ps.length<=6)(h:∀p∈ps,R [j9 p,cd C]=ξ (.v (B5 C p))){ww w2:PV}:∃n1:PV,True/\
 F9 1 (v0 (m2 k6 (b0 0) (mC (.int 1)))) (j6 6) N8 (a0g R) [ξ (.v (.tuple [ww,.list (ps.map j9)])),ξ (.v (cd C)),ξ (.v w2),ζ,ζ,ζ]=ξ (.own (ps.map (B5 C))):=by
 refine⟨.none,trivial, ?_⟩
 exact C2 (ι:=j9) (f:=B5 C) (k:=1) (it:=v0 (m2 k6 (b0 0) (mC (.int 1)))) (tg:=j6 6) (elt:=a0g R) (ρ:=[ξ (.v (.tuple [ww,.list (ps.map j9)])),ξ (.v (cd C)),ξ (.v w2),ζ,ζ,ζ]) ps rfl (by lia) λp hp=>by
  refine⟨[ξ (.v (.tuple [ww,.list (ps.map j9)])),ξ (.v (cd C)),ξ (.v w2),ζ,ζ,ζ,ξ (.v (j9 p))],rfl, ?_⟩;unfold a0g;rw [(O6 rfl rfl).trans (h p hp)]
  rfl
theorem b2z{m:Mo}{d:x6}{s0 s1 s2 s4 s5:Option d7}(ok:y6 m)(e:z8 K m=ξ d):l0 (u5 (a8 (mC (.str (AC "plain"))) (a8 (m1 B4 (b0 3)) (a8 (m1 B4 (m2 k6 (b0 3) (mC (.int 0)))) (a8 (b0 3) b8))))) [s0,s1,s2,ξ (.v (L9 (m7 C m))),s4,s5]=ξ (.rt (.v (pl4 (.str (AC "plain")) (m7 C m) (L9 (m7 C m))))):=by
 obtain⟨g1,g2⟩:=G.dm ok e;rw [<-g1] at g2;refine G1 ?_;unfold u5;have hm:(m7 C m).m<=10000:=by have:=g2.2.2;unfold dmC at this;simp only at this;lia
 rw [e9 (q:= .v (.str (AC "plain"))) rfl rfl (e9 (one (r:= .v (L9 (m7 C m))) rfl (a4c _ _ _)) rfl (e9 (one (J7 (r:= .v (L9 (m7 C m))) rfl rfl (a4b g2.1.1)) (a4d hm)) rfl (e9 (q:= .v (L9 (m7 C m))) rfl rfl rfl)))]
 rfl
theorem b9i(m:Mo)(d:x6)(ok:y6 m)(e:z8 K m=ξ d)(ih:∀p d,y6 p->t7 p<t7 m->z8 K p=ξ d->R [j9 p,cd C]=ξ (.v (B5 C p))):m4 4 (a1d R) [j9 m,cd C]=ξ (.v (B5 C m)):=by
 refine n4 (n:=4) ?_;show a1d R [ξ (.v (j9 m)),ξ (.v (cd C)),ζ,ζ,ζ,ζ]=_;unfold a1d;cases m with
 |plain rows=>
  rw [B5]
  ext r
  have pc:=b5v ok C;rw [j9,g6 (p:= .str (AC "plain")) rfl];refine M3 rfl ?_;refine(g6 (p:=L9 (m7 C (.plain rows))) ?_).trans (b2z G (by rw [y6];exact ok) e)
  rw [<-pc]
  rfl
 |named w=>
  rw [B5,j9,g6 (p:= .str (AC "name")) rfl];refine M3 rfl ?_;refine(g6 (p:=L9 (m7 C (.named w))) ?_).trans (b2z G ok e);rw [z8,G.mt w] at e;have tw:=b4f (i:=1) (ρ:=[ξ (.v (.tuple [.str (AC "name"),row w])),ξ (.v (cd C)),ξ (.v (.str (AC "name"))),ζ,ζ,ζ]) rfl (a5f L9 C);refine(c0X rfl).trans ?_;unfold a3b;show(tvw 1 [ξ (.v (.tuple [.str (AC "name"),row w])),ξ (.v (cd C)),ξ (.v (.str (AC "name"))),ζ,ζ,ζ]).bind _=_;rw [tw,AO,a40,m7];cases hc:C4 C w with
  |none=>rw [hc] at e;cases e
  |some c=>rfl
 |beside ps=>
  have d0:t7 (.beside ps)=1+a1D ps:=by rw [t7]
  ext r
  rw [z8] at e;obtain⟨ds,e1,_⟩:=bind_some e;rw [j9,X2,g6 (p:= .str (AC "beside")) rfl,b7 rfl];obtain⟨_,_,c1⟩:=b2y (R:=R) G (ps:=ps) (ww:= .str (AC "beside")) (w2:= .str (AC "beside")) (by intro z;rw [z] at ok;simp at ok) ok.2.1 λp hp=>by
   obtain⟨d',hd'⟩:=a5k e1 p hp;exact ih p d' (C5 ok.2.2 hp) (by have:=E4 hp;lia) hd'
  refine M3 rfl ?_;refine(Q8 c1).trans ?_;refine M3 rfl ?_;have c2:=C2 (ι:=B5 C) (f:=λp=>PyData.int (((m7 C p).m:Nat):Int)) (k:=1) (it:=v0 (b0 4)) (tg:=j6 6) (elt:=a2a R) (ρ:=[ξ (.v (.tuple [.str (AC "beside"),.list (ps.map j9)])),ξ (.v (cd C)),ξ (.v (.str (AC "beside"))),ζ,ξ (.v (.list (ps.map (B5 C)))),ζ]) ps rfl (by lia) λp hp=>by
   refine⟨[ξ (.v (.tuple [.str (AC "beside"),.list (ps.map j9)])),ξ (.v (cd C)),ξ (.v (.str (AC "beside"))),ζ,ξ (.v (.list (ps.map (B5 C)))),ζ,ξ (.v (B5 C p))],rfl, ?_⟩;unfold a2a;rw [J7 (r:= .v (B5 C p)) rfl rfl (a7r C p)]
   rfl
  cases ps with
  |nil=>simp at ok
  |cons p ps=>
   show l0 _ [ξ (.v (.tuple [.str (AC "beside"),.list ((p::ps).map j9)])),ξ (.v (cd C)),ξ (.v (.str (AC "beside"))),ζ,ξ (.v (.list ((p::ps).map (B5 C)))),ζ]=_;refine G1 ?_;have hb:=b9U (ps.map (m7 C)) (m7 C p);rw [B5,a4C];have hct:m7 C (.beside (p::ps))=(ps.map (m7 C)).foldl (lyC true) (m7 C p):=by rw [m7,a2t];rfl
   unfold u5;rw [e9 (q:= .v (.str (AC "beside"))) rfl rfl (e9 (J7 (J7 (r:= .v (.list ((p::ps).map (B5 C)))) (q:= .v (.int 0)) rfl rfl (at0 (.inl rfl))) rfl (a7q C p)) rfl (e9 (one c2 (b7Y (p::ps) λp=>(m7 C p).m)) rfl (e9 (q:= .v (.list ((p::ps).map (B5 C)))) rfl rfl rfl)))];unfold pl4;rw [hct,hb.1,hb.2,Ah]
   rfl
 |above ps=>
  have d0:t7 (.above ps)=1+a1D ps:=by rw [t7]
  ext r
  rw [z8] at e;obtain⟨ds,e1,_⟩:=bind_some e;rw [j9,X2,g6 (p:= .str (AC "above")) rfl,b7 rfl];obtain⟨_,_,c1⟩:=b2y (R:=R) G (ps:=ps) (ww:= .str (AC "above")) (w2:= .str (AC "above")) (by intro z;rw [z] at ok;simp at ok) ok.2.1 λp hp=>by
   obtain⟨d',hd'⟩:=a5k e1 p hp;exact ih p d' (C5 ok.2.2 hp) (by have:=E4 hp;lia) hd'
  refine M3 rfl ?_;refine(Q8 c1).trans ?_;refine(b7 rfl).trans ?_;have c2:=C2 (ι:=B5 C) (f:=λp=>PyData.int (((m7 C p).n:Nat):Int)) (k:=1) (it:=v0 (b0 4)) (tg:=j6 6) (elt:=a2b R) (ρ:=[ξ (.v (.tuple [.str (AC "above"),.list (ps.map j9)])),ξ (.v (cd C)),ξ (.v (.str (AC "above"))),ζ,ξ (.v (.list (ps.map (B5 C)))),ζ]) ps rfl (by lia) λp hp=>by
   refine⟨[ξ (.v (.tuple [.str (AC "above"),.list (ps.map j9)])),ξ (.v (cd C)),ξ (.v (.str (AC "above"))),ζ,ξ (.v (.list (ps.map (B5 C)))),ζ,ξ (.v (B5 C p))],rfl, ?_⟩;unfold a2b;rw [J7 (r:= .v (B5 C p)) rfl rfl (a7q C p)]
   rfl
  cases ps with
  |nil=>simp at ok
  |cons p ps=>
   show l0 _ [ξ (.v (.tuple [.str (AC "above"),.list ((p::ps).map j9)])),ξ (.v (cd C)),ξ (.v (.str (AC "above"))),ζ,ξ (.v (.list ((p::ps).map (B5 C)))),ζ]=_;refine G1 ?_;have hb:=b9L (ps.map (m7 C)) (m7 C p);rw [B5,a4C];have hct:m7 C (.above (p::ps))=(ps.map (m7 C)).foldl (lyC false) (m7 C p):=by rw [m7,a2t];rfl
   unfold u5;rw [e9 (q:= .v (.str (AC "above"))) rfl rfl (e9 (one c2 (b7Y (p::ps) λp=>(m7 C p).n)) rfl (e9 (J7 (J7 (r:= .v (.list ((p::ps).map (B5 C)))) (q:= .v (.int 0)) rfl rfl (at0 (.inl rfl))) rfl (a7r C p)) rfl (e9 (q:= .v (.list ((p::ps).map (B5 C)))) rfl rfl rfl)))];unfold pl4;rw [hct,hb.1,hb.2,Ah]
   rfl
 |across k p=>
  ext r
  rw [z8] at e;obtain⟨x,e1,_⟩:=bind_some e;have ep:=ih p x ok.2.2 (by rw [t7];lia) e1
  rw [j9,g6 (p:= .str (AC "across")) rfl,b7 rfl,b7 rfl,g6 ((O6 rfl rfl).trans ep)];refine l7 rfl ?_;rw [B5];unfold u5 pl4;rw [e9 (q:= .v (.str (AC "across"))) rfl rfl (e9 (J7 (r:= .v (B5 C p)) rfl rfl (a7q C p)) rfl (e9 (mlv (k:=(k:Nat)) (J7 (r:= .v (B5 C p)) rfl rfl (a7r C p)) rfl (by lia)) rfl (e9 (q:= .v (B5 C p)) rfl rfl rfl))),m7,Int.natCast_mul]
  rfl
 |down k p=>
  ext r
  rw [z8] at e;obtain⟨x,e1,_⟩:=bind_some e;have ep:=ih p x ok.2.2 (by rw [t7];lia) e1
  rw [j9,g6 (p:= .str (AC "down")) rfl,b7 rfl,b7 rfl,g6 ((O6 rfl rfl).trans ep),b7 rfl];refine l7 rfl ?_;rw [B5];unfold u5 pl4;rw [e9 (q:= .v (.str (AC "down"))) rfl rfl (e9 (mlv (k:=(k:Nat)) (J7 (r:= .v (B5 C p)) rfl rfl (a7q C p)) rfl (by lia)) rfl (e9 (J7 (r:= .v (B5 C p)) rfl rfl (a7r C p)) rfl (e9 (q:= .v (B5 C p)) rfl rfl rfl))),m7,Int.natCast_mul]
  rfl
 |turned w p=>
  ext r
  rw [z8] at e;cases e1:z8 K p with
  |none=>rw [e1] at e;cases e
  |some x=>
   have ep:=ih p x ok.2 (by rw [t7];lia) e1
   rw [j9,g6 (p:= .str (AC "turned")) rfl,b7 rfl,b7 rfl,g6 ((O6 rfl rfl).trans ep),b7 rfl,b7 rfl,b7 rfl];have t2:u6 (m2 (b1h false) (m2 k6 (b0 0) (mC (.int 1))) (N2 (a8 (mC (.str (AC "turn"))) (a8 (mC (.str (AC "back"))) (a8 (mC (.str (AC "cross"))) (a8 (mC (.str (AC "other"))) b8)))))) [ξ (.v (.tuple [.str (AC "turned"),row w,j9 p])),ξ (.v (cd C)),ξ (.v (.str (AC "turned"))),ζ,ζ,ξ (.v (B5 C p))]=ξ (a4x w):=G0 (r:= .v (row w)) rfl (q:= .own [.str (AC "turn"),.str (AC "back"),.str (AC "cross"),.str (AC "other")]) rfl (b75 ok.1);rw [B5,m7];have hs:=(c0O ok.1).2.2;unfold pl4 trC hh wd;rw [hs];cases hv:a4x w with
   |true=>
    rw [hv] at t2;refine l7 t2 ?_;unfold u5;rw [e9 (q:= .v (row w)) rfl rfl (e9 (J7 (r:= .v (B5 C p)) rfl rfl (a7r C p)) rfl (e9 (J7 (r:= .v (B5 C p)) rfl rfl (a7q C p)) rfl (e9 (q:= .v (B5 C p)) rfl rfl rfl)))]
    rfl
   |false=>
    rw [hv] at t2;refine(b7 t2).trans (G1 ?_);unfold u5;rw [e9 (q:= .v (row w)) rfl rfl (e9 (J7 (r:= .v (B5 C p)) rfl rfl (a7q C p)) rfl (e9 (J7 (r:= .v (B5 C p)) rfl rfl (a7r C p)) rfl (e9 (q:= .v (B5 C p)) rfl rfl rfl)))]
    rfl
 |dyed a b p=>
  ext r
  rw [z8] at e;have ep:=ih p d ok.2.2 (by rw [t7];lia) e
  rw [j9,g6 (p:= .str (AC "dye")) rfl,b7 rfl,b7 rfl,g6 ((O6 rfl rfl).trans ep),b7 rfl,b7 rfl];refine l7 rfl ?_;rw [B5,m7];unfold u5;rw [e9 (q:= .v (.str (AC "dye"))) rfl rfl (e9 (J7 (r:= .v (B5 C p)) rfl rfl (a7q C p)) rfl (e9 (J7 (r:= .v (B5 C p)) rfl rfl (a7r C p)) rfl (e9 (q:= .v (B5 C p)) rfl rfl (e9 (q:= .v (row [a])) rfl rfl (e9 (q:= .v (row [b])) rfl rfl rfl)))))]
  rfl
end
theorem b7O{K:NL x6}{C:NL Ct}(G:Gd K C):∀(n:Nat) (m:Mo) (d:x6),y6 m->t7 m<=n->z8 K m=ξ d->a4n n [j9 m,cd C]=ξ (.v (B5 C m))
 |0,m,_,_,h,_=>by have:=a0d m;lia
 |n+1,m,d,ok,h,e=>b9i G m d ok e λp d' okp hp e'=>b7O G n p d' okp (by lia) e'
def wkB:List Ct->Nat->Nat->Nat
 |[],_,_=>0
 |x::xs,r,c=>if c<x.m then x.f r c else wkB xs r (c - x.m)
def wkA:List Ct->Nat->Nat->Nat
 |[],_,_=>0
 |x::xs,r,c=>if r<x.n then x.f r c else wkA xs (r - x.n) c
theorem c18(r:Nat):∀(cs:List Ct) (x:Ct) (c:Nat),c<x.m+(cs.map (·.m)).sum->(cs.foldl (lyC true) x).f r c=wkB (x::cs) r c
 |[],x,c,h=>by
  rw [wkB,if_pos (by simpa using h)]
  rfl
 |y::cs,x,c,h=>by
  rw [AN,List.sum_cons] at h;rw [List.foldl_cons,c18 r cs (lyC true x y) c (by show c<x.m+y.m+_;lia),wkB,wkB,wkB]
  show(if c<x.m+y.m then(if c<x.m then x.f r c else y.f r (c - x.m)) else wkB cs r (c - (x.m+y.m)))=_
  by_cases h1:c<x.m
  ·rw [if_pos (by lia),if_pos h1,if_pos h1]
  ·rw [if_neg h1,if_neg h1]
   by_cases h2:c<x.m+y.m
   ·rw [if_pos h2,if_pos (by lia)]
   ·rw [if_neg h2,if_neg (by lia),Nat.sub_sub]
theorem c17(c:Nat):∀(cs:List Ct) (x:Ct) (r:Nat),r<x.n+(cs.map (·.n)).sum->(cs.foldl (lyC false) x).f r c=wkA (x::cs) r c
 |[],x,r,h=>by
  rw [wkA,if_pos (by simpa using h)]
  rfl
 |y::cs,x,r,h=>by
  rw [AN,List.sum_cons] at h;rw [List.foldl_cons,c17 c cs (lyC false x y) r (by show r<x.n+y.n+_;lia),wkA,wkA,wkA]
  show(if r<x.n+y.n then(if r<x.n then x.f r c else y.f (r - x.n) c) else wkA cs (r - (x.n+y.n)) c)=_
  by_cases h1:r<x.n
  ·rw [if_pos (by lia),if_pos h1,if_pos h1]
  ·rw [if_neg h1,if_neg h1]
   by_cases h2:r<x.n+y.n
   ·rw [if_pos h2,if_pos (by lia)]
   ·rw [if_neg h2,if_neg (by lia),Nat.sub_sub]
section
variable {RS RW:RF}{C:NL Ct}
theorem b3D{x y:M}{ρ:c5}{a b:Nat}(h1:x ρ=ξ (.v (.int (a:Nat))))(h2:y ρ=ξ (.v (.int (b:Nat)))):u6 (m2 a62 x y) ρ=ξ (decide (a<b)):=by
 refine(G0 h1 h2 (b:=decide ((a:Int)<(b:Int))) rfl).trans ?_
 congr 1
 exact decide_eq_decide.mpr (by lia)
theorem b9O{a b:MT}{ρ:c5}{x y:Bool}(h1:a ρ=ξ x)(h2:b ρ=ξ y):R1 a b ρ=ξ (x && y):=by
 unfold R1;rw [h1];cases x
 ·rfl
 ·exact h2
theorem b7W{x y:M}{ρ:c5}{a b:Nat}(h1:x ρ=ξ (.v (.int (a:Nat))))(h2:y ρ=ξ (.v (.int (b:Nat))))(h:b<=a):m2 (gI λi j=> .int (i - j)) x y ρ=ξ (.v (.int ((a - b:Nat):Int))):=by
 refine J7 h1 h2 ?_;show ξ (d7.v (.int ((a:Int) - (b:Int))))=_
 congr 3
 lia
theorem b2U{c0:Ct}{L:PV}{r:Nat}:∀(ps:List Mo) (c:Nat) (q3:Option d7),(∀p∈ps,r<(m7 C p).n)->(∀p∈ps,∀c,c<(m7 C p).m->RS [B5 C p,.int (r:Nat),.int (c:Nat)]=ξ (.v (row [(m7 C p).f r c])))->c<((ps.map (m7 C)).map (·.m)).sum->
 z9 (r8 RS RW) (j6 3) (ps.map (B5 C)) [ξ (.v (pl4 (.str (AC "beside")) c0 L)),ξ (.v (.int (r:Nat))),ξ (.v (.int (c:Nat))),q3]=ξ (.rt (.v (row [wkB (ps.map (m7 C)) r c])))
 |[],c,q3,_,_,h=>by simp at h
 |p::ps,c,q3,hr,ih,h=>by
  have hr1:=hr p AZ;rw [AN,AN,List.sum_cons] at h;rw [AN,AN,wkB,z9];show(r8 RS RW [ξ (.v (pl4 (.str (AC "beside")) c0 L)),ξ (.v (.int (r:Nat))),ξ (.v (.int (c:Nat))),ξ (.v (B5 C p))]).bind _=_;have t:=b9O (b3D (x:=b0 1) (y:=m2 k6 (b0 3) (mC (.int 1))) (ρ:=[ξ (.v (pl4 (.str (AC "beside")) c0 L)),ξ (.v (.int (r:Nat))),ξ (.v (.int (c:Nat))),ξ (.v (B5 C p))]) rfl (J7 (r:= .v (B5 C p)) rfl rfl (a7q C p))) (b3D (x:=b0 2) (y:=m2 k6 (b0 3) (mC (.int 2))) rfl (J7 (r:= .v (B5 C p)) rfl rfl (a7r C p)));rw [decide_eq_true hr1,Bool.true_and] at t
  by_cases hc:c<(m7 C p).m
  ·rw [decide_eq_true hc] at t;have e:r8 RS RW [ξ (.v (pl4 (.str (AC "beside")) c0 L)),ξ (.v (.int (r:Nat))),ξ (.v (.int (c:Nat))),ξ (.v (B5 C p))]=ξ (.rt (.v (row [(m7 C p).f r c]))):=by
    unfold r8;exact l7 t ((J5 rfl).trans (ih p AZ c hc))
   rw [e,if_pos hc]
   rfl
  ·rw [decide_eq_false hc] at t;have e:r8 RS RW [ξ (.v (pl4 (.str (AC "beside")) c0 L)),ξ (.v (.int (r:Nat))),ξ (.v (.int (c:Nat))),ξ (.v (B5 C p))]=ξ (.nx [ξ (.v (pl4 (.str (AC "beside")) c0 L)),ξ (.v (.int (r:Nat))),ξ (.v (.int ((c - (m7 C p).m:Nat):Int))),ξ (.v (B5 C p))]):=by
    unfold r8;refine(b7 t).trans ((a3A rfl).trans ?_);exact X5 (b7W rfl (J7 (r:= .v (B5 C p)) rfl rfl (a7r C p)) (by lia))
   rw [e,AO,if_neg hc];exact b2U ps _ _ (λq hq=>hr q (Aa _ hq)) (λq hq=>ih q (Aa _ hq)) (by lia)
theorem b2T{c0:Ct}{L:PV}{c:Nat}:∀(ps:List Mo) (r:Nat) (q3:Option d7),(∀p∈ps,c<(m7 C p).m)->(∀p∈ps,∀r,r<(m7 C p).n->RS [B5 C p,.int (r:Nat),.int (c:Nat)]=ξ (.v (row [(m7 C p).f r c])))->r<((ps.map (m7 C)).map (·.n)).sum->
 z9 (r8 RS RW) (j6 3) (ps.map (B5 C)) [ξ (.v (pl4 (.str (AC "above")) c0 L)),ξ (.v (.int (r:Nat))),ξ (.v (.int (c:Nat))),q3]=ξ (.rt (.v (row [wkA (ps.map (m7 C)) r c])))
 |[],r,q3,_,_,h=>by simp at h
 |p::ps,r,q3,hr,ih,h=>by
  have hr1:=hr p AZ;rw [AN,AN,List.sum_cons] at h;rw [AN,AN,wkA,z9];show(r8 RS RW [ξ (.v (pl4 (.str (AC "above")) c0 L)),ξ (.v (.int (r:Nat))),ξ (.v (.int (c:Nat))),ξ (.v (B5 C p))]).bind _=_;have t:=b9O (b3D (x:=b0 1) (y:=m2 k6 (b0 3) (mC (.int 1))) (ρ:=[ξ (.v (pl4 (.str (AC "above")) c0 L)),ξ (.v (.int (r:Nat))),ξ (.v (.int (c:Nat))),ξ (.v (B5 C p))]) rfl (J7 (r:= .v (B5 C p)) rfl rfl (a7q C p))) (b3D (x:=b0 2) (y:=m2 k6 (b0 3) (mC (.int 2))) rfl (J7 (r:= .v (B5 C p)) rfl rfl (a7r C p)));rw [decide_eq_true hr1,Bool.and_true] at t
  by_cases hc:r<(m7 C p).n
  ·rw [decide_eq_true hc] at t;have e:r8 RS RW [ξ (.v (pl4 (.str (AC "above")) c0 L)),ξ (.v (.int (r:Nat))),ξ (.v (.int (c:Nat))),ξ (.v (B5 C p))]=ξ (.rt (.v (row [(m7 C p).f r c]))):=by
    unfold r8;exact l7 t ((J5 rfl).trans (ih p AZ r hc))
   rw [e,if_pos hc]
   rfl
  ·rw [decide_eq_false hc] at t;have e:r8 RS RW [ξ (.v (pl4 (.str (AC "above")) c0 L)),ξ (.v (.int (r:Nat))),ξ (.v (.int (c:Nat))),ξ (.v (B5 C p))]=ξ (.nx [ξ (.v (pl4 (.str (AC "above")) c0 L)),ξ (.v (.int ((r - (m7 C p).n:Nat):Int))),ξ (.v (.int (c:Nat))),ξ (.v (B5 C p))]):=by
    unfold r8;refine(b7 t).trans ((a7i rfl).trans ?_);exact X5 (b7W rfl (J7 (r:= .v (B5 C p)) rfl rfl (a7q C p)) (by lia))
   rw [e,AO,if_neg hc];exact b2T ps _ _ (λq hq=>hr q (Aa _ hq)) (λq hq=>ih q (Aa _ hq)) (by lia)
end
theorem c2y{C:NL Ct}{p:Mo}{w:List Nat}(hw:w∈a0y){r c:Nat}(hr:r<(trC w (m7 C p)).n)(hc:c<(trC w (m7 C p)).m):∃a b:Nat,a<(m7 C p).n/\b<(m7 C p).m/\a6e [row w,B5 C p,.int (r:Nat),.int (c:Nat)]=ξ (.v (.tuple [.int (a:Nat),.int (b:Nat)]))/\(m7 C p).f a b=(trC w (m7 C p)).f r c:=by
 have h2:w=[116,117,114,110]\/w=[104,97,108,102]\/w=[98,97,99,107]\/w=[115,105,100,101]\/w=[102,108,105,112]\/w=[99,114,111,115,115]\/w=[111,116,104,101,114]:=by
  simpa [a0y] using hw
 have p1:=a7q C p;have p2:=a7r C p;generalize m7 C p=x at*;generalize B5 C p=P at*;have e4:∀w:PV,m2 (gI λi j=> .int (i - j)) (m2 k6 (b0 1) (mC (.int 1))) (mC (.int 1)) [ξ (.v w),ξ (.v P),ξ (.v (.int (r:Nat))),ξ (.v (.int (c:Nat))),ζ,ζ]=ξ (.v (.int (((x.n:Nat):Int) - 1))):=λw=>J7 (J7 (r:= .v P) rfl rfl p1) rfl rfl;have e5:∀w:PV,m2 (gI λi j=> .int (i - j)) (m2 k6 (b0 1) (mC (.int 2))) (mC (.int 1)) [ξ (.v w),ξ (.v P),ξ (.v (.int (r:Nat))),ξ (.v (.int (c:Nat))),ξ (.v (.int (((x.n:Nat):Int) - 1))),ζ]=ξ (.v (.int (((x.m:Nat):Int) - 1))):=λw=>J7 (J7 (r:= .v P) rfl rfl p2) rfl rfl;unfold trC at hr hc ⊢;rcases h2 with rfl|rfl|rfl|rfl|rfl|rfl|rfl
 ·have hk:kw [116,117,114,110]=1:=by decide+kernel
  rw [hk] at hr hc ⊢;have hr:r<x.m:=hr;have hc:c<x.n:=hc;refine⟨x.n - 1 - c,r,by lia,by lia, ?_,rfl⟩
  rw [show(((x.n - 1 - c):Nat):Int)=(((x.n:Nat):Int) - 1) - (c:Nat) by lia,show(((r):Nat):Int)=((r:Nat):Int) by lia]
  refine n4 (n:=2) ?_;show A7 [ξ (.v (row [116,117,114,110])),ξ (.v P),ξ (.v (.int (r:Nat))),ξ (.v (.int (c:Nat))),ζ,ζ]=_;unfold A7;refine(g6 (e4 _)).trans ?_;refine(g6 (e5 _)).trans ?_;exact l7 rfl rfl
 ·have hk:kw [104,97,108,102]=2:=by decide+kernel
  rw [hk] at hr hc ⊢;have hr:r<x.n:=hr;have hc:c<x.m:=hc;refine⟨x.n - 1 - r,x.m - 1 - c,by lia,by lia, ?_,rfl⟩
  rw [show(((x.n - 1 - r):Nat):Int)=(((x.n:Nat):Int) - 1) - (r:Nat) by lia,show(((x.m - 1 - c):Nat):Int)=(((x.m:Nat):Int) - 1) - (c:Nat) by lia]
  refine n4 (n:=2) ?_;show A7 [ξ (.v (row [104,97,108,102])),ξ (.v P),ξ (.v (.int (r:Nat))),ξ (.v (.int (c:Nat))),ζ,ζ]=_;unfold A7;refine(g6 (e4 _)).trans ?_;refine(g6 (e5 _)).trans ?_;refine(b7 rfl).trans ?_;exact l7 rfl rfl
 ·have hk:kw [98,97,99,107]=3:=by decide+kernel
  rw [hk] at hr hc ⊢;have hr:r<x.m:=hr;have hc:c<x.n:=hc;refine⟨c,x.m - 1 - r,by lia,by lia, ?_,rfl⟩
  rw [show(((c):Nat):Int)=((c:Nat):Int) by lia,show(((x.m - 1 - r):Nat):Int)=(((x.m:Nat):Int) - 1) - (r:Nat) by lia]
  refine n4 (n:=2) ?_;show A7 [ξ (.v (row [98,97,99,107])),ξ (.v P),ξ (.v (.int (r:Nat))),ξ (.v (.int (c:Nat))),ζ,ζ]=_
  ext h
  exact l7 rfl rfl
 ·have hk:kw [115,105,100,101]=4:=by decide+kernel
  rw [hk] at hr hc ⊢;have hr:r<x.n:=hr;have hc:c<x.m:=hc;refine⟨r,x.m - 1 - c,by lia,by lia, ?_,rfl⟩
  rw [show(((r):Nat):Int)=((r:Nat):Int) by lia,show(((x.m - 1 - c):Nat):Int)=(((x.m:Nat):Int) - 1) - (c:Nat) by lia]
  refine n4 (n:=2) ?_;show A7 [ξ (.v (row [115,105,100,101])),ξ (.v P),ξ (.v (.int (r:Nat))),ξ (.v (.int (c:Nat))),ζ,ζ]=_
  ext h
  refine(b7 rfl).trans ?_;exact l7 rfl rfl
 ·have hk:kw [102,108,105,112]=5:=by decide+kernel
  rw [hk] at hr hc ⊢;have hr:r<x.n:=hr;have hc:c<x.m:=hc;refine⟨x.n - 1 - r,c,by lia,by lia, ?_,rfl⟩
  rw [show(((x.n - 1 - r):Nat):Int)=(((x.n:Nat):Int) - 1) - (r:Nat) by lia,show(((c):Nat):Int)=((c:Nat):Int) by lia]
  refine n4 (n:=2) ?_;show A7 [ξ (.v (row [102,108,105,112])),ξ (.v P),ξ (.v (.int (r:Nat))),ξ (.v (.int (c:Nat))),ζ,ζ]=_
  ext h
  refine(b7 rfl).trans ?_;refine(b7 rfl).trans ?_;exact l7 rfl rfl
 ·have hk:kw [99,114,111,115,115]=6:=by decide+kernel
  rw [hk] at hr hc ⊢;have hr:r<x.m:=hr;have hc:c<x.n:=hc;refine⟨c,r,by lia,by lia, ?_,rfl⟩
  rw [show(((c):Nat):Int)=((c:Nat):Int) by lia,show(((r):Nat):Int)=((r:Nat):Int) by lia]
  refine n4 (n:=2) ?_;show A7 [ξ (.v (row [99,114,111,115,115])),ξ (.v P),ξ (.v (.int (r:Nat))),ξ (.v (.int (c:Nat))),ζ,ζ]=_
  ext h
  refine(b7 rfl).trans ?_;refine(b7 rfl).trans ?_;refine(b7 rfl).trans ?_;exact l7 rfl rfl
 ·have hk:kw [111,116,104,101,114]=7:=by decide+kernel
  rw [hk] at hr hc ⊢;have hr:r<x.m:=hr;have hc:c<x.n:=hc;refine⟨x.n - 1 - c,x.m - 1 - r,by lia,by lia, ?_,rfl⟩
  rw [show(((x.n - 1 - c):Nat):Int)=(((x.n:Nat):Int) - 1) - (c:Nat) by lia,show(((x.m - 1 - r):Nat):Int)=(((x.m:Nat):Int) - 1) - (r:Nat) by lia]
  refine n4 (n:=2) ?_;show A7 [ξ (.v (row [111,116,104,101,114])),ξ (.v P),ξ (.v (.int (r:Nat))),ξ (.v (.int (c:Nat))),ζ,ζ]=_
  ext h
  refine(b7 rfl).trans ?_;refine(b7 rfl).trans ?_;refine(b7 rfl).trans ?_;refine(b7 rfl).trans ?_
  rfl
theorem c4R{x y:x6}:∀{ds:List x6},V5 true x ds=ξ y->∀d∈ds,d.1=x.1:=λ {ds}=>by
 induction ds generalizing x with
 |nil=>intro _ d hd;cases hd
 |cons c ds ih=>
  intro h d hd;rw [V5] at h;obtain⟨z,h1,h⟩:=bind_some h;unfold a0v at h1;rw [if_pos rfl] at h1;split at h1
  ·rename_i k;cases h1;rcases Ab.mp hd with rfl|hd
   ·exact k.1
   ·exact ih h d hd
  ·cases h1
theorem c4Q{x y:x6}:∀{ds:List x6},V5 false x ds=ξ y->∀d∈ds,d.2=x.2:=λ {ds}=>by
 induction ds generalizing x with
 |nil=>intro _ d hd;cases hd
 |cons c ds ih=>
  intro h d hd;rw [V5] at h;obtain⟨z,h1,h⟩:=bind_some h;unfold a0v at h1;rw [if_neg Ac] at h1;split at h1
  ·rename_i k;cases h1;rcases Ab.mp hd with rfl|hd
   ·exact k.1
   ·exact ih h d hd
  ·cases h1
theorem b0Q{K:NL x6}:∀{ps:List Mo} {ds:List x6},J6 K ps=ξ ds->∀p∈ps,∃d∈ds,z8 K p=ξ d
 |[],_,_,p,hp=>nomatch hp
 |q::ps,ds,h,p,hp=>by
  rw [J6] at h;obtain⟨d,e1,h⟩:=bind_some h;cases e2:J6 K ps with
  |none=>rw [e2] at h;cases h
  |some es=>
   rw [e2] at h;cases h;rcases Ab.mp hp with rfl|hp
   ·exact⟨d,AZ,e1⟩
   ·obtain⟨d',h1,h2⟩:=b0Q e2 p hp;exact⟨d',Aa _ h1,h2⟩
theorem c5s{K:NL x6}{C:NL Ct}(G:Gd K C){p:Mo}{ps:List Mo}{d:x6}(ok:y6 (.beside (p::ps)))(e:z8 K (.beside (p::ps))=ξ d):∀q∈p::ps,(m7 C q).n=(m7 C p).n:=λq hq=>by
 rw [y6,a2E] at ok;rw [z8,J6] at e;obtain⟨ds,e1,e⟩:=bind_some e;obtain⟨x,e2,e1⟩:=bind_some e1;cases e3:J6 K ps with
 |none=>rw [e3] at e1;cases e1
 |some es=>
  rw [e3] at e1;cases e1;have g1:=(G.dm ok.2.2.1 e2).1;rcases Ab.mp hq with rfl|hq
  ·rfl
  ·obtain⟨y,hy,e4⟩:=b0Q e3 q hq;have g2:=(G.dm (C5 ok.2.2.2 hq) e4).1;have:=c4R e y hy;rw [<-g1,<-g2] at this;exact this
theorem c5r{K:NL x6}{C:NL Ct}(G:Gd K C){p:Mo}{ps:List Mo}{d:x6}(ok:y6 (.above (p::ps)))(e:z8 K (.above (p::ps))=ξ d):∀q∈p::ps,(m7 C q).m=(m7 C p).m:=λq hq=>by
 rw [y6,a2E] at ok;rw [z8,J6] at e;obtain⟨ds,e1,e⟩:=bind_some e;obtain⟨x,e2,e1⟩:=bind_some e1;cases e3:J6 K ps with
 |none=>rw [e3] at e1;cases e1
 |some es=>
  rw [e3] at e1;cases e1;have g1:=(G.dm ok.2.2.1 e2).1;rcases Ab.mp hq with rfl|hq
  ·rfl
  ·obtain⟨y,hy,e4⟩:=b0Q e3 q hq;have g2:=(G.dm (C5 ok.2.2.2 hq) e4).1;have:=c4Q e y hy;rw [<-g1,<-g2] at this;exact this
theorem b64{w:List Nat}(hw:w∈a0y)(x:Ct)(P:PV){ρ ρ':c5}:u6 (m2 D0 (m2 k6 (b0 0) (mC (.int 0))) (mC (.str (AC "plain")))) (ξ (.v (pl4 (row w) x P))::ρ)=ξ false/\Z1 (u6 (m2 D0 (m2 k6 (b0 0) (mC (.int 0))) (mC (.str (AC "beside"))))) (u6 (m2 D0 (m2 k6 (b0 0) (mC (.int 0))) (mC (.str (AC "above"))))) (ξ (.v (pl4 (row w) x P))::ρ)=ξ false/\Z1 (u6 (m2 D0 (m2 k6 (b0 0) (mC (.int 0))) (mC (.str (AC "across"))))) (u6 (m2 D0 (m2 k6 (b0 0) (mC (.int 0))) (mC (.str (AC "down"))))) (ξ (.v (pl4 (row w) x P))::ρ')=ξ false/\u6 (m2 D0 (m2 k6 (b0 0) (mC (.int 0))) (mC (.str (AC "dye")))) (ξ (.v (pl4 (row w) x P))::ρ')=ξ false:=by
 have h2:w=[116,117,114,110]\/w=[104,97,108,102]\/w=[98,97,99,107]\/w=[115,105,100,101]\/w=[102,108,105,112]\/w=[99,114,111,115,115]\/w=[111,116,104,101,114]:=by
  simpa [a0y] using hw
 rcases h2 with rfl|rfl|rfl|rfl|rfl|rfl|rfl<;>exact⟨rfl,rfl,rfl,rfl⟩
theorem c3B{K:NL x6}{C:NL Ct}(G:Gd K C):∀(n:Nat) (m:Mo) (d:x6),y6 m->2*t7 m<=n->z8 K m=ξ d->∀r c:Nat,r<(m7 C m).n->c<(m7 C m).m->D8 n [B5 C m,.int (r:Nat),.int (c:Nat)]=ξ (.v (row [(m7 C m).f r c])):=by
 intro n
 induction n using Nat.strongRecOn with
 |ind n ih=>
  intro m d ok hd e r c hr hc;have hp:=a0d m;obtain⟨n,rfl⟩:∃k,n=k+2:=⟨n - 2,by lia⟩
  have ge:∀q:PV,D8 (n+2) [q,.int (r:Nat),.int (c:Nat)]=m4 3 (w8 (D8 (n+1)) (J3 (n+1))) [q,.int (r:Nat),.int (c:Nat)]:=λ_=>rfl;obtain⟨g1,g2⟩:=G.dm ok e;rw [<-g1] at g2;have leaf:∀x:Ct,x=m7 C m->m4 3 (w8 (D8 (n+1)) (J3 (n+1))) [pl4 (.str (AC "plain")) x (L9 x),.int (r:Nat),.int (c:Nat)]=ξ (.v (row [x.f r c])):=λx hx=>by
   subst hx;refine n4 (n:=3) ?_;show w8 _ _ [ξ (.v (pl4 (.str (AC "plain")) (m7 C m) (L9 (m7 C m)))),ξ (.v (.int (r:Nat))),ξ (.v (.int (c:Nat))),ζ,ζ,ζ]=_;unfold w8;refine l7 rfl (J7 (J7 (r:= .v (L9 (m7 C m))) rfl rfl (c3Y hr)) rfl (c3Z ?_ hc));have:=g2.2.2;unfold dmC at this;simp only at this
   lia
  rw [ge];cases m with
  |plain R=>rw [B5];exact leaf _ rfl
  |named w=>rw [B5];exact leaf _ rfl
  |beside ps=>
   have oks:=ok
   ext d
   obtain⟨ds,e1,e2⟩:=bind_some e;rw [B5,a4C];refine n4 (n:=3) ?_;show w8 _ _ [ξ (.v (pl4 (.str (AC "beside")) (m7 C (.beside ps)) (.list (ps.map (B5 C))))),ξ (.v (.int (r:Nat))),ξ (.v (.int (c:Nat))),ζ,ζ,ζ]=_;unfold w8;refine(b7 rfl).trans (l7 rfl ((J5 rfl).trans ?_));cases ps with
   |nil=>simp at ok
   |cons p ps=>
    have hct:m7 C (.beside (p::ps))=(ps.map (m7 C)).foldl (lyC true) (m7 C p):=by rw [m7,a2t];rfl
    have hb:=b9U (ps.map (m7 C)) (m7 C p);rw [hct] at hr hc ⊢;rw [hb.1] at hc;rw [hb.2] at hr;rw [c18 r _ _ c hc];have hn:∀q∈p::ps,(m7 C q).n=(m7 C p).n:=c5s G oks (by rw [z8];exact e)
    have ew:=b2U (RS:=D8 n) (RW:=J3 n) (C:=C) (c0:=(ps.map (m7 C)).foldl (lyC true) (m7 C p)) (L:= .list ((p::ps).map (B5 C))) (r:=r) (p::ps) c ζ (λq hq=>by rw [hn q hq];exact hr) (λq hq c' hc'=>by
     obtain⟨dq,hdq⟩:=a5k e1 q hq;exact ih n (by lia) q dq (C5 ok.2.2 hq) (by have:=E4 hq;lia) hdq r c' (by rw [hn q hq];exact hr) hc') (by rw [AN,AN,List.sum_cons];exact hc)
    show m4 1 (P8 (D8 n) (J3 n)) _=_;refine n4 (n:=1) ?_;unfold P8;exact b3l (ps:=(p::ps).map (B5 C)) rfl ew
  |above ps=>
   have oks:=ok
   ext d
   obtain⟨ds,e1,e2⟩:=bind_some e;rw [B5,a4C];refine n4 (n:=3) ?_;show w8 _ _ [ξ (.v (pl4 (.str (AC "above")) (m7 C (.above ps)) (.list (ps.map (B5 C))))),ξ (.v (.int (r:Nat))),ξ (.v (.int (c:Nat))),ζ,ζ,ζ]=_;unfold w8;refine(b7 rfl).trans (l7 rfl ((J5 rfl).trans ?_));cases ps with
   |nil=>simp at ok
   |cons p ps=>
    have hct:m7 C (.above (p::ps))=(ps.map (m7 C)).foldl (lyC false) (m7 C p):=by rw [m7,a2t];rfl
    have hb:=b9L (ps.map (m7 C)) (m7 C p);rw [hct] at hr hc ⊢;rw [hb.1] at hr;rw [hb.2] at hc;rw [c17 c _ _ r hr];have hn:∀q∈p::ps,(m7 C q).m=(m7 C p).m:=c5r G oks (by rw [z8];exact e)
    have ew:=b2T (RS:=D8 n) (RW:=J3 n) (C:=C) (c0:=(ps.map (m7 C)).foldl (lyC false) (m7 C p)) (L:= .list ((p::ps).map (B5 C))) (c:=c) (p::ps) r ζ (λq hq=>by rw [hn q hq];exact hc) (λq hq r' hr'=>by
     obtain⟨dq,hdq⟩:=a5k e1 q hq;exact ih n (by lia) q dq (C5 ok.2.2 hq) (by have:=E4 hq;lia) hdq r' c hr' (by rw [hn q hq];exact hc)) (by rw [AN,AN,List.sum_cons];exact hr)
    show m4 1 (P8 (D8 n) (J3 n)) _=_;refine n4 (n:=1) ?_;unfold P8;exact b3l (ps:=(p::ps).map (B5 C)) rfl ew
  |across k p=>
   ext d
   obtain⟨x,e1,_⟩:=bind_some e;obtain⟨f1,f2⟩:=G.dm ok.2.2 e1;rw [<-f1] at f2;rw [B5];have hct:m7 C (.across k p)=⟨(m7 C p).n,(m7 C p).m*k,λi j=>(m7 C p).f i (j %(m7 C p).m)⟩:=by rw [m7]
   rw [hct] at hr hc ⊢;have hr:r<(m7 C p).n:=hr;have q0:0<(m7 C p).n:=f2.1.1;have q1:0<(m7 C p).m:=f2.2.1;have eq:=ih (n+1) (by lia) p x ok.2.2 (by lia) e1 (r %(m7 C p).n) (c %(m7 C p).m) (Nat.mod_lt _ q0) (Nat.mod_lt _ q1)
   refine n4 (n:=3) ?_;show w8 _ _ [ξ (.v (pl4 (.str (AC "across")) ⟨(m7 C p).n,(m7 C p).m*k,λi j=>(m7 C p).f i (j %(m7 C p).m)⟩ (B5 C p))),ξ (.v (.int (r:Nat))),ξ (.v (.int (c:Nat))),ζ,ζ,ζ]=_;unfold w8;refine(b7 rfl).trans ((b7 rfl).trans ((g6 (p:=B5 C p) rfl).trans (l7 rfl ?_)));rw [J5 (e9 (q:= .v (B5 C p)) rfl rfl (e9 (md (x:=(r:Nat)) rfl (J7 (r:= .v (B5 C p)) rfl rfl (a7q C p)) (by lia)) (p:= .int ((r %(m7 C p).n:Nat):Int)) (by rw [Int.natCast_emod];rfl) (e9 (md (x:=(c:Nat)) rfl (J7 (r:= .v (B5 C p)) rfl rfl (a7r C p)) (by lia)) (p:= .int ((c %(m7 C p).m:Nat):Int)) (by rw [Int.natCast_emod];rfl) rfl))),eq,Nat.mod_eq_of_lt hr]
  |down k p=>
   ext d
   obtain⟨x,e1,_⟩:=bind_some e;obtain⟨f1,f2⟩:=G.dm ok.2.2 e1;rw [<-f1] at f2;rw [B5];have hct:m7 C (.down k p)=⟨(m7 C p).n*k,(m7 C p).m,λi j=>(m7 C p).f (i %(m7 C p).n) j⟩:=by rw [m7]
   rw [hct] at hr hc ⊢;have hc:c<(m7 C p).m:=hc;have q0:0<(m7 C p).n:=f2.1.1;have q1:0<(m7 C p).m:=f2.2.1;have eq:=ih (n+1) (by lia) p x ok.2.2 (by lia) e1 (r %(m7 C p).n) (c %(m7 C p).m) (Nat.mod_lt _ q0) (Nat.mod_lt _ q1)
   refine n4 (n:=3) ?_;show w8 _ _ [ξ (.v (pl4 (.str (AC "down")) ⟨(m7 C p).n*k,(m7 C p).m,λi j=>(m7 C p).f (i %(m7 C p).n) j⟩ (B5 C p))),ξ (.v (.int (r:Nat))),ξ (.v (.int (c:Nat))),ζ,ζ,ζ]=_;unfold w8;refine(b7 rfl).trans ((b7 rfl).trans ((g6 (p:=B5 C p) rfl).trans (l7 rfl ?_)));rw [J5 (e9 (q:= .v (B5 C p)) rfl rfl (e9 (md (x:=(r:Nat)) rfl (J7 (r:= .v (B5 C p)) rfl rfl (a7q C p)) (by lia)) (p:= .int ((r %(m7 C p).n:Nat):Int)) (by rw [Int.natCast_emod];rfl) (e9 (md (x:=(c:Nat)) rfl (J7 (r:= .v (B5 C p)) rfl rfl (a7r C p)) (by lia)) (p:= .int ((c %(m7 C p).m:Nat):Int)) (by rw [Int.natCast_emod];rfl) rfl))),eq,Nat.mod_eq_of_lt hc]
  |turned w p=>
   ext d
   cases e1:z8 K p with
   |none=>rw [e1] at e;cases e
   |some x=>
    rw [B5];have hct:m7 C (.turned w p)=trC w (m7 C p):=by rw [m7]
    rw [hct] at hr hc ⊢;obtain⟨a,b,ha,hb,ef,ev⟩:=c2y ok.1 hr hc;have eq:=ih (n+1) (by lia) p x ok.2 (by lia) e1 a b ha hb
    refine n4 (n:=3) ?_;show w8 _ _ [ξ (.v (pl4 (row w) (trC w (m7 C p)) (B5 C p))),ξ (.v (.int (r:Nat))),ξ (.v (.int (c:Nat))),ζ,ζ,ζ]=_;unfold w8;obtain⟨t1,t2,t3,t4⟩:=b64 (ρ:=[ξ (.v (.int (r:Nat))),ξ (.v (.int (c:Nat))),ζ,ζ,ζ]) (ρ':=[ξ (.v (.int (r:Nat))),ξ (.v (.int (c:Nat))),ξ (.v (B5 C p)),ζ,ζ]) ok.1 (trC w (m7 C p)) (B5 C p);refine(b7 t1).trans ((b7 t2).trans ((g6 (p:=B5 C p) rfl).trans ((b7 t3).trans ((b7 t4).trans ?_))));refine(g6 ((J5 rfl).trans ef)).trans (G1 ((J5 rfl).trans ?_));rw [eq,ev]
  |dyed a b p=>
   ext d
   have hct:m7 C (.dyed a b p)=⟨(m7 C p).n,(m7 C p).m,λi j=>ex a b ((m7 C p).f i j)⟩:=by rw [m7]
   rw [B5,hct];rw [hct] at hr hc;have eq:=ih (n+1) (by lia) p d ok.2.2 (by lia) e r c hr hc
   obtain⟨P,hP⟩:∃P,P=PyData.tuple [.str (AC "dye"),.int (((m7 C p).n:Nat):Int),.int (((m7 C p).m:Nat):Int),B5 C p,row [a],row [b]]:=⟨_,rfl⟩;refine n4 (n:=3) ?_;show w8 _ _ [ξ (.v (.tuple [.str (AC "dye"),.int (((m7 C p).n:Nat):Int),.int (((m7 C p).m:Nat):Int),B5 C p,row [a],row [b]])),ξ (.v (.int (r:Nat))),ξ (.v (.int (c:Nat))),ζ,ζ,ζ]=_;unfold w8;refine(b7 rfl).trans ((b7 rfl).trans ((g6 (p:=B5 C p) rfl).trans ((b7 rfl).trans (M3 rfl ?_))));refine(g6 ((J5 rfl).trans eq)).trans ?_;show _=ξ (Fl.rt (d7.v (row [ex a b ((m7 C p).f r c)])));generalize (m7 C p).f r c=z at*;have t1:u6 (m2 D0 (b0 4) (m2 k6 (b0 0) (mC (.int 4)))) [ξ (.v (.tuple [.str (AC "dye"),.int (((m7 C p).n:Nat):Int),.int (((m7 C p).m:Nat):Int),B5 C p,row [a],row [b]])),ξ (.v (.int (r:Nat))),ξ (.v (.int (c:Nat))),ξ (.v (B5 C p)),ξ (.v (row [z])),ζ]=ξ (decide (z=a)):=G0 (r:= .v (row [z])) rfl (q:= .v (row [a])) rfl (a39 z a);have t2:u6 (m2 D0 (b0 4) (m2 k6 (b0 0) (mC (.int 5)))) [ξ (.v (.tuple [.str (AC "dye"),.int (((m7 C p).n:Nat):Int),.int (((m7 C p).m:Nat):Int),B5 C p,row [a],row [b]])),ξ (.v (.int (r:Nat))),ξ (.v (.int (c:Nat))),ξ (.v (B5 C p)),ξ (.v (row [z])),ζ]=ξ (decide (z=b)):=G0 (r:= .v (row [z])) rfl (q:= .v (row [b])) rfl (a39 z b);show _=ξ (Fl.rt (d7.v (row [ex a b z])));unfold ex
   by_cases h1:z=a
   ·rw [decide_eq_true h1] at t1;rw [if_pos h1];exact l7 t1 rfl
   ·rw [decide_eq_false h1] at t1;rw [if_neg h1];refine(b7 t1).trans (G1 ?_)
    by_cases h2:z=b
    ·rw [decide_eq_true h2] at t2;rw [if_pos h2];exact(c0X t2).trans rfl
    ·rw [decide_eq_false h2] at t2;rw [if_neg h2];exact(c36 t2).trans rfl
theorem a7e{K:NL x6}{C:NL Ct}(G:Gd K C){m:Mo}{d:x6}(ok:y6 m)(dp:t7 m<=8)(e:z8 K m=ξ d):a4l [j9 m,cd C]=ξ (.v (L9 (m7 C m))):=by
 have hpl:a6g [j9 m,cd C]=ξ (.v (B5 C m)):=b7O G 12 m d ok (by lia) e
 have hsg:=c3B G 24 m d ok (by lia) e
 obtain⟨g1,g2⟩:=G.dm ok e;rw [<-g1] at g2;have n24:(m7 C m).n<=24:=g2.1.2;have m24:(m7 C m).m<=24:=g2.2.2;obtain⟨P,hP⟩:∃P,P=B5 C m:=⟨_,rfl⟩;obtain⟨x,hx⟩:∃x,x=m7 C m:=⟨_,rfl⟩;have p1:=a7q C m;have p2:=a7r C m;rw [<-hP] at hpl p1 p2 hsg;rw [<-hx] at p1 p2 hsg n24 m24 ⊢;have rowok:∀r,r<x.n->∀T:Option d7,m2 a0t (mC (.str (AC ""))) (F9 1 (M1 (a8 (m2 k6 (b0 2) (mC (.int 2))) b8)) (j6 5) N8 V9) [ξ (.v (j9 m)),ξ (.v (cd C)),ξ (.v P),T,ξ (.v (.int (r:Nat)))]=ξ (.v (row (T4 x.m (x.f r)))):=λr hr T=>by
  have er:M1 (a8 (m2 k6 (b0 2) (mC (.int 2))) b8) [ξ (.v (j9 m)),ξ (.v (cd C)),ξ (.v P),T,ξ (.v (.int (r:Nat)))]=ξ ((AT x.m).map λk=> .int (k:Nat)):=L0 (J7 (r:= .v P) rfl rfl p2) (by lia)
  have cm:=C2 (ι:=λk:Nat=>PyData.int (k:Nat)) (f:=λc=>row [x.f r c]) (k:=1) (it:=M1 (a8 (m2 k6 (b0 2) (mC (.int 2))) b8)) (tg:=j6 5) (elt:=V9) (ρ:=[ξ (.v (j9 m)),ξ (.v (cd C)),ξ (.v P),T,ξ (.v (.int (r:Nat)))]) (AT x.m) er (by rw [Ak];lia) λc hc=>by
   refine⟨[ξ (.v (j9 m)),ξ (.v (cd C)),ξ (.v P),T,ξ (.v (.int (r:Nat))),ξ (.v (.int (c:Nat)))],rfl, ?_⟩;unfold V9;rw [J5 (e9 (q:= .v P) rfl rfl (e9 (q:= .v (.int (r:Nat))) rfl rfl (e9 (q:= .v (.int (c:Nat))) rfl rfl rfl)))];rw [show a6h [P,.int (r:Nat),.int (c:Nat)]=_ from hsg r c hr (List.mem_range.mp hc)]
   rfl
  refine J7 rfl cm (c32 (l:=T4 x.m (x.f r)) (by unfold T4;rw [AW,Ak];lia) ?_)
  show ξ _=ξ _;unfold T4;rw [Ah]
  rfl
 have er:M1 (a8 (m2 k6 (b0 2) (mC (.int 1))) b8) [ξ (.v (j9 m)),ξ (.v (cd C)),ξ (.v P),ξ (.own []),ζ]=ξ ((AT x.n).map λk=> .int (k:Nat)):=L0 (J7 (r:= .v P) rfl rfl p1) (by lia)
 obtain⟨ρ',e5,q4,rfl⟩:=a2z (body:=a4s) (tg:=j6 4) (λj ρ=>∃q4:Option d7,ρ=[ξ (.v (j9 m)),ξ (.v (cd C)),ξ (.v P),ξ (.own ((AT j).map λi=>row (T4 x.m (x.f i)))),q4])
  (ps:=(AT x.n).map λk=> .int (k:Nat)) (ρ:=[ξ (.v (j9 m)),ξ (.v (cd C)),ξ (.v P),ξ (.own []),ζ])
  (by
   rintro j p hp ρ ⟨q4,rfl⟩;obtain⟨rfl,hj⟩:=a7u hp;refine a7J (ρ1:=[ξ (.v (j9 m)),ξ (.v (cd C)),ξ (.v P),ξ (.own ((AT j).map λi=>row (T4 x.m (x.f i)))),ξ (.v (.int (j:Nat)))]) rfl (D9 (rowok j hj _) rfl rfl (by rw [AW,Ak];lia)) ⟨ξ (.v (.int (j:Nat))), ?_⟩
   rw [List.range_succ,Au]
   rfl)
  ⟨ζ,rfl⟩
 rw [AW,Ak] at e5;refine n4 (n:=3) ?_;show a3S [ξ (.v (j9 m)),ξ (.v (cd C)),ζ,ζ,ζ]=_;unfold a3S;refine(g6 ((O6 rfl rfl).trans hpl)).trans ((Q8 (l:=[]) rfl).trans ((Y4 er e5).trans ?_))
 rfl
section
variable {α:Type}
def ptN(val:NL α->Mo->α)(w:List Nat)(m:Mo):Nat->NL α->NL α
 |0,A=>A
 |n+1,A=>ptN val w m n (U3 A w (val A m))
def ptR(val:NL α->Mo->α):List Rw->NL α->NL α
 |[],A=>A
 |r::rs,A=>ptR val rs (ptN val r.nm r.mo r.cnt A)
structure Stp(f:α->PV)(val:NL α->Mo->α)(Rl:NL x6->NL α->Prop):Prop where
 nkf:∀a,nk (f a)=true
 put:∀{K A m d w},Rl K A->y6 m->z8 K m=ξ d->Rl (U3 K w d) (U3 A w (val A m))
 inn:∀{K A w},Rl K A->(C4 K w).isSome=(C4 A w).isSome
theorem ix1(f:Mo->PV)(r:Rw){x:M}{ρ:c5}(h:x ρ=ξ (.v (K0 f r))):m2 k6 x (W4 (mC (.int 1))) ρ=ξ (.v (f r.mo)):=by
 cases r with
 |lt w m=>exact a6k (ps:=[.str (AC "let"),row w]) h
 |ag k w m=>exact a6k (ps:=[.str (AC "again"),.int (k:Nat),row w]) h
theorem ix2(f:Mo->PV)(r:Rw){x:M}{ρ:c5}(h:x ρ=ξ (.v (K0 f r))):m2 k6 x (W4 (mC (.int 2))) ρ=ξ (.v (row r.nm)):=by
 cases r with
 |lt w m=>exact J7 (q:= .v (.int (-2))) h rfl rfl
 |ag k w m=>exact J7 (q:= .v (.int (-2))) h rfl rfl
theorem b7H(f:Mo->PV)(r:Rw){x:M}{ρ:c5}(h:x ρ=ξ (.v (K0 f r))):u6 (m2 gNe (m2 k6 x (mC (.int 0))) (mC (.str (AC "knot")))) ρ=ξ true:=by
 cases r with
 |lt w m=>exact G0 (r:= .v (.str (AC "let"))) (J7 (q:= .v (.int 0)) h rfl rfl) rfl rfl
 |ag k w m=>exact G0 (r:= .v (.str (AC "again"))) (J7 (q:= .v (.int 0)) h rfl rfl) rfl rfl
theorem a93(f:Mo->PV)(r:Rw){x:M}{ρ:c5}(h:x ρ=ξ (.v (K0 f r))):u6 (m2 D0 (m2 k6 x (mC (.int 0))) (mC (.str (AC "again")))) ρ=ξ r.isA:=by
 cases r with
 |lt w m=>exact G0 (r:= .v (.str (AC "let"))) (J7 (q:= .v (.int 0)) h rfl rfl) rfl rfl
 |ag k w m=>exact G0 (r:= .v (.str (AC "again"))) (J7 (q:= .v (.int 0)) h rfl rfl) rfl rfl
theorem c1Y(r:Rw):a1o [K0 t8 r]=ξ (.v (.int (r.cnt:Nat))):=by
 have t:=a93 t8 r (x:=b0 0) (ρ:=[ξ (.v (K0 t8 r))]) rfl;refine n4 (n:=0) ?_;show a53 [ξ (.v (K0 t8 r))]=_;unfold a53;cases r with
 |lt w m=>exact(b7 t).trans rfl
 |ag k w m=>exact l7 t rfl
theorem c1z(f:α->PV){A:NL α}(hl:A.length<=200){i:Nat}{w:List Nat}{a:α}{ek ev:M}{ρ:c5}(h:ρ[i]?=ξ (ξ (.ow (.txt (dN f A)))))(h1:ek ρ=ξ (.v (row w)))(h2:ev ρ=ξ (.v (f a))):a3z i ek ev ρ=ξ (.nx (ρ.set i (ξ (.ow (.txt (dN f (U3 A w a))))))):=by
 unfold a3z;rw [h1,h2];show b74 i ρ (f a) (S w)=_;unfold b74;rw [h];show(if(dN f A).length<AM then ξ (Fl.nx _) else ζ)=_
 rw [if_pos (by rw [a98,sizeLine_eq];lia),<-b6S]
end
section
variable {α:Type}{f:α->PV}{val:NL α->Mo->α}{Rl:NL x6->NL α->Prop}(Tp:Stp f val Rl){x:Str}{g:RF}(hx:[(AC "size_step",T9),(AC "cloth_step",Q1)].lookup x=ξ g)
 (hg:∀{K A m d},Rl K A->y6 m->t7 m<=8->z8 K m=ξ d->∀i:Int,g [t8 m,tv (dN f A),.int i]=ξ (.v (f (val A m))))
abbrev goS(s0:Option d7)(x:Str)(f:α->PV)(A:NL α)(T:List PV)(s4 s5 q6 q7:Option d7):c5:=[s0,ξ (.v (a0L x)),ξ (.ow (.txt (dN f A))),ξ (.own T),s4,s5,q6,q7]
include Tp hx hg
theorem b2k{K:NL x6}{A:NL α}{m:Mo}{d:x6}(hR:Rl K A)(ok:y6 m)(dp:t7 m<=8)(e:z8 K m=ξ d){s0 q6 q7:Option d7}{T:List PV}{i:Int}{rv:PV}(hm:∀ρ:c5,ρ[5]?=ξ (ξ (.v rv))->m2 k6 (b0 5) (W4 (mC (.int 1))) ρ=ξ (.v (t8 m))):
 W3 2 (a4z [(AC "size_step",T9),(AC "cloth_step",Q1)] 1 (a8 (m2 k6 (b0 5) (W4 (mC (.int 1)))) (a8 (b0 2) (a8 (b0 4) b8)))) (goS s0 x f A T (ξ (.v (.int i))) (ξ (.v rv)) q6 q7)=ξ (.v (f (val A m))):=by
 refine b3C rfl ?_ (Tp.nkf _)
 refine(a9F (qs:=[t8 m,tv (dN f A),.int i]) rfl hx ?_).trans (hg hR ok dp e i)
 exact e9 (hm _ rfl) rfl (e9 (q:= .v (tv (dN f A))) rfl rfl (e9 (q:= .v (.int i)) rfl rfl rfl))
theorem b7u{r:Rw}(ok:y6 r.mo)(dp:t7 r.mo<=8){s0:Option d7}{i:Int}:∀(n:Nat) (is:List PV),is.length=n->∀(K K':NL x6) (A:NL α) (T:List PV) (q6 q7:Option d7),itK r.nm r.mo n K=ξ K'->Rl K A->A.length+n<=200->T.length+n<=200->
 ∃T' q6' q7',T'.length=T.length+n/\Rl K' (ptN val r.nm r.mo n A)/\(ptN val r.nm r.mo n A).length<=A.length+n/\
  z9 x8 (j6 6) is (goS s0 x f A T (ξ (.v (.int i))) (ξ (.v (K0 t8 r))) q6 q7)=ξ (.nx (goS s0 x f (ptN val r.nm r.mo n A) T' (ξ (.v (.int i))) (ξ (.v (K0 t8 r))) q6' q7'))
 |0,[],_,K,K',A,T,q6,q7,h,hR,_,_=>by cases h;exact⟨T,q6,q7,rfl,hR,AS _,rfl⟩
 |n+1,j::is,hi,K,K',A,T,q6,q7,h,hR,hA,hT=>by
  rw [itK] at h;obtain⟨d,e,h⟩:=bind_some h;have hp:=a7s A r.nm (val A r.mo);obtain⟨T',q6',q7',z1,z2,z3,z4⟩:=b7u ok dp (s0:=s0) (i:=i) n is (by simpa using hi) (U3 K r.nm d) K' (U3 A r.nm (val A r.mo)) (T++[f (val A r.mo)]) (ξ (.v j)) (ξ (.v (f (val A r.mo)))) h (Tp.put hR ok e) (by lia) (by rw [AY,List.length_singleton];lia)
  rw [AY,List.length_singleton] at z1;refine⟨T',q6',q7',by lia,z2,by rw [ptN];lia, ?_⟩
  have hb:x8 (goS s0 x f A T (ξ (.v (.int i))) (ξ (.v (K0 t8 r))) (ξ (.v j)) q7)=ξ (.nx (goS s0 x f (U3 A r.nm (val A r.mo)) (T++[f (val A r.mo)]) (ξ (.v (.int i))) (ξ (.v (K0 t8 r))) (ξ (.v j)) (ξ (.v (f (val A r.mo)))))):=by
   unfold x8;refine(g6 (b2k Tp hx hg hR ok dp e λρ h5=>ix1 t8 r (by unfold b0;rw [h5]))).trans ?_
   refine(N3 (D9 (r:= .v (f (val A r.mo))) (p:=f (val A r.mo)) (ps:=T) rfl rfl rfl (by lia))).trans ?_
   refine(a3A (b7H t8 r rfl)).trans ?_;rw [c1z f (A:=A) (w:=r.nm) (a:=val A r.mo) (by lia) rfl (ix2 t8 r rfl) rfl]
   rfl
  rw [z9];show(x8 (goS s0 x f A T (ξ (.v (.int i))) (ξ (.v (K0 t8 r))) (ξ (.v j)) q7)).bind _=_;rw [hb,AO];exact z4
theorem c0D{M:Nat}{r:Rw}{K K':NL x6}(o:OkR M K r K'){s0:Option d7}{i:Int}{A:NL α}(hR:Rl K A){T:List PV}(hA:A.length<=190)(hT:T.length<=190)(q6 q7:Option d7):∃T' q6' q7',T'.length<=T.length+3/\Rl K' (ptN val r.nm r.mo r.cnt A)/\(ptN val r.nm r.mo r.cnt A).length<=A.length+3/\
 x9 (goS s0 x f A T (ξ (.v (.int i))) (ξ (.v (K0 t8 r))) q6 q7)=ξ (.nx (goS s0 x f (ptN val r.nm r.mo r.cnt A) T' (ξ (.v (.int i))) (ξ (.v (K0 t8 r))) q6' q7')):=by
 have c3:=o.c3
 obtain⟨T',q6',q7',z1,z2,z3,z4⟩:=b7u Tp hx hg o.ok o.dp (s0:=s0) (i:=i) r.cnt ((AT r.cnt).map λk=> .int (k:Nat)) (by simp) K K' A T q6 q7 o.it hR (by lia) (by lia)
 refine⟨T',q6',q7',by lia,z2,by lia, ?_⟩
 have t:R1 (u6 (m2 D0 (m2 k6 (b0 5) (mC (.int 0))) (mC (.str (AC "again"))))) (u6 (b1o true 2 (m2 k6 (b0 5) (mC (.int 2))))) (goS s0 x f A T (ξ (.v (.int i))) (ξ (.v (K0 t8 r))) q6 q7)=ξ false:=by
  have t1:=a93 t8 r (x:=b0 5) (ρ:=goS s0 x f A T (ξ (.v (.int i))) (ξ (.v (K0 t8 r))) q6 q7) rfl;cases r with
  |lt w m=>
   unfold R1;rw [t1]
   rfl
  |ag k w m=>
   have hi:=Tp.inn (w:=w) hR;obtain⟨d,hd⟩:=b49 (o.inn rfl);rw [show C4 K w=ξ d from hd] at hi;have t2:u6 (b1o true 2 (m2 k6 (b0 5) (mC (.int 2)))) (goS s0 x f A T (ξ (.v (.int i))) (ξ (.v (K0 t8 (.ag k w m)))) q6 q7)=ξ false:=by
    show ξ (!(O4 (dN f A) [.inr (S w)]).isSome)=_;rw [a40];cases h:C4 A w with
    |none=>rw [h] at hi;cases hi
    |some a=>rfl
   exact c3T t1 t2
 unfold x9
 refine(b7 t).trans ?_
 have er:M1 (a8 (j5 a1o (a8 (b0 5) b8)) b8) (goS s0 x f A T (ξ (.v (.int i))) (ξ (.v (K0 t8 r))) q6 q7)=ξ ((AT r.cnt).map λk=> .int (k:Nat)):=L0 ((N5 rfl).trans (c1Y r)) (by lia)
 unfold S4
 rw [er]
 exact z4
theorem b8I{K:NL x6}{A:NL α}{m:Mo}{d:x6}(hR:Rl K A)(ok:y6 m)(dp:t7 m<=8)(e:z8 K m=ξ d){s0:Option d7}{T:List PV}(hT:T.length<=190){i:Int}(q6 q7:Option d7):∃q6' q7',
 x9 (goS s0 x f A T (ξ (.v (.int i))) (ξ (.v (kn t8 m))) q6 q7)=ξ (.nx (goS s0 x f A (T++[f (val A m)]) (ξ (.v (.int i))) (ξ (.v (kn t8 m))) q6' q7')):=by
 refine⟨ξ (.v (.int 0)),ξ (.v (f (val A m))), ?_⟩
 have hb:x8 (goS s0 x f A T (ξ (.v (.int i))) (ξ (.v (kn t8 m))) (ξ (.v (.int 0))) q7)=ξ (.nx (goS s0 x f A (T++[f (val A m)]) (ξ (.v (.int i))) (ξ (.v (kn t8 m))) (ξ (.v (.int 0))) (ξ (.v (f (val A m)))))):=by
  unfold x8;refine(g6 (b2k Tp hx hg hR ok dp e λρ h5=>a6k (ps:=[.str (AC "knot")]) (by unfold b0;rw [h5];rfl))).trans ?_
  refine(N3 (D9 (r:= .v (f (val A m))) (p:=f (val A m)) (ps:=T) rfl rfl rfl (by lia))).trans ?_
  rfl
 have er:M1 (a8 (j5 a1o (a8 (b0 5) b8)) b8) (goS s0 x f A T (ξ (.v (.int i))) (ξ (.v (kn t8 m))) q6 q7)=ξ ((AT 1).map λk=> .int (k:Nat)):=L0 ((N5 rfl).trans (n4 (n:=0) rfl)) (by lia)
 unfold x9
 refine(b7 rfl).trans ?_
 unfold S4
 rw [er]
 show z9 x8 (j6 6) [.int 0] _=_
 rw [z9]
 show(x8 (goS s0 x f A T (ξ (.v (.int i))) (ξ (.v (kn t8 m))) (ξ (.v (.int 0))) q7)).bind _=_
 rw [hb,AO]
 rfl
theorem b2l{M:Nat}{m:Mo}{d:x6}(ok:y6 m)(dp:t7 m<=8){K':NL x6}(e:z8 K' m=ξ d){s0:Option d7}:∀(rs:List Rw) (k:Nat) (K:NL x6) (A:NL α) (T:List PV) (q4 q5 q6 q7:Option d7),Chn M K rs K'->Rl K A->A.length+3*rs.length<=190->T.length+3*rs.length<=190->
 ∃T' q4' q5' q6' q7',z9 x9 (a7K [4,5]) (((rs.map (K0 t8)++[kn t8 m]).zipIdx k).map λx=> .tuple [.int ((x.2:Nat):Int),x.1]) (goS s0 x f A T q4 q5 q6 q7)=ξ (.nx (goS s0 x f (ptR val rs A) (T'++[f (val (ptR val rs A) m)]) q4' q5' q6' q7'))
 |[],k,K,A,T,q4,q5,q6,q7,h,hR,hA,hT=>by
  cases h;obtain⟨q6',q7',z⟩:=b8I Tp hx hg hR ok dp e (s0:=s0) (T:=T) (by simp at hT;lia) (i:=(k:Nat)) q6 q7
  refine⟨T,ξ (.v (.int (k:Nat))),ξ (.v (kn t8 m)),q6',q7', ?_⟩;show z9 x9 (a7K [4,5]) [.tuple [.int ((k:Nat):Int),kn t8 m]] _=_;rw [z9];show(x9 (goS s0 x f A T (ξ (.v (.int (k:Nat)))) (ξ (.v (kn t8 m))) q6 q7)).bind _=_;rw [z,AO]
  rfl
 |r::rs,k,K,A,T,q4,q5,q6,q7,⟨K1,o,h⟩,hR,hA,hT=>by
  rw [AX] at hA hT;obtain⟨T1,p6,p7,y1,y2,y3,y4⟩:=c0D Tp hx hg o (s0:=s0) (i:=(k:Nat)) hR (T:=T) (by lia) (by lia) q6 q7
  obtain⟨T',q4',q5',q6',q7',z⟩:=b2l ok dp e (s0:=s0) rs (k+1) K1 _ T1 (ξ (.v (.int (k:Nat)))) (ξ (.v (K0 t8 r))) p6 p7 h y2 (by lia) (by lia)
  refine⟨T',q4',q5',q6',q7', ?_⟩;rw [AN,Ar,List.zipIdx_cons,AN,z9];show(x9 (goS s0 x f A T (ξ (.v (.int (k:Nat)))) (ξ (.v (K0 t8 r))) q6 q7)).bind _=_;rw [y4,AO];exact z
theorem b7v{M:Nat}{m:Mo}{d:x6}(ok:y6 m)(dp:t7 m<=8){K':NL x6}(e:z8 K' m=ξ d){rs:List Rw}(hr:rs.length<=20)(h:Chn M [] rs K')(h0:Rl [] []):∃T':List PV,V4 [.list (rs.map (K0 t8)++[kn t8 m]),a0L x]=ξ (.own (T'++[f (val (ptR val rs []) m)])):=by
 obtain⟨T',q4',q5',q6',q7',z⟩:=b2l Tp hx hg ok dp e (s0:=ξ (.v (.list (rs.map (K0 t8)++[kn t8 m])))) rs 0 [] [] [] ζ ζ ζ ζ h h0 (by simp;lia) (by simp;lia)
 refine⟨T',n4 (n:=6) ?_⟩;show a1a [ξ (.v (.list (rs.map (K0 t8)++[kn t8 m]))),ξ (.v (a0L x)),ζ,ζ,ζ,ζ,ζ,ζ]=_;unfold a1a;refine(N3 (ρ':=[ξ (.v (.list (rs.map (K0 t8)++[kn t8 m]))),ξ (.v (a0L x)),ξ (.ow (.txt [])),ζ,ζ,ζ,ζ,ζ]) rfl).trans ?_;refine(Q8 (l:=[]) rfl).trans ?_;exact(Y4 (ps:=a0K (rs.map (K0 t8)++[kn t8 m])) rfl z).trans rfl
end
theorem b7J:∀l:List (List Nat),nkL (l.map row)=true
 |[]=>rfl
 |r::l=>by rw [AN,nkL,b7J l];rfl
theorem b6J(c:Ct):nk (L9 c)=true:=by
 have e:L9 c= .tuple (((AT c.n).map λi=>T4 c.m (c.f i)).map row):=by
  unfold L9 cl;rw [Ah]
  rfl
 rw [e];exact b7J _
theorem c1V:Stp PR (λK m=>(z8 K m).getD (0,0)) λK A=>K=A where
 nkf:=λ_=>rfl
 put:=λ {K A m d w} h _ e=>by
  subst h;show U3 K w d=U3 K w ((z8 K m).getD (0,0));rw [e]
  rfl
 inn:=λh=>by rw [h]
theorem b2O:Stp L9 m7 Gd where
 nkf:=b6J
 put:=λ {K A m d w} G ok e=>by
  obtain⟨g1,g2⟩:=G.dm ok e;refine⟨G.mt.put w g1,λv d' h=> ?_,λv d' h=> ?_⟩
  ·rw [a7h] at h;split at h
   ·cases h;exact⟨g2.1.1,g2.2.1⟩
   ·exact G.pos v d' h
  ·rw [a7h] at h;split at h
   ·cases h;exact⟨g2.1.2,g2.2.2⟩
   ·exact G.le v d' h
 inn:=λ {K A w} G=>by
  rw [G.mt w];cases C4 A w<;>rfl
theorem gd0:Gd [] []:=⟨λ_=>rfl,(λw d h=>nomatch h),(λw d h=>nomatch h)⟩
theorem b4c{K A:NL x6}{m:Mo}{d:x6}(h:K=A)(ok:y6 m)(dp:t7 m<=8)(e:z8 K m=ξ d)(i:Int):T9 [t8 m,tv (dN PR A),.int i]=ξ (.v (PR ((z8 A m).getD (0,0)))):=by
 subst h;rw [e];exact a4G ((a3d (.inl rfl) (m:=m) (qs:=[kd K,.int i]) rfl rfl).trans (c3C i 20 m d ok (by lia) e))
theorem b09{K:NL x6}{A:NL Ct}{m:Mo}{d:x6}(G:Gd K A)(ok:y6 m)(dp:t7 m<=8)(e:z8 K m=ξ d)(i:Int):Q1 [t8 m,tv (dN L9 A),.int i]=ξ (.v (L9 (m7 A m))):=
 a4G ((a3d (.inr rfl) (m:=m) (qs:=[cd A]) rfl rfl).trans (b90 G 20 m d ok (by lia) e))
theorem b3A{r:d7}{ps:List PV}{p:PV}(h:r= .own (ps++[p])\/r= .bor (ps++[p])):k6 r (.v (.int (-1)))=ξ (.v p):=by
 have:L2.atI (ps++[p]) (-1)=ξ p:=by
  unfold L2.atI;have:ixN (ps++[p]).length (-1)=ξ ps.length:=by
   unfold ixN;rw [AY,List.length_singleton];simp
   try lia
  rw [this];simp
 rcases h with rfl|rfl
 ·show(L2.atI (ps++[p]) (-1)).map d7.v=_;rw [this]
  rfl
 ·show(L2.atI (ps++[p]) (-1)).map d7.v=_;rw [this]
  rfl
theorem b6w{M:Nat}{m:Mo}{d:x6}(ok:y6 m)(dp:t7 m<=8){K:NL x6}(e:z8 K m=ξ d){rs:List Rw}(hr:rs.length<=20)(h:Chn M [] rs K):a5a [.list (rs.map (K0 t8)++[kn t8 m])]=ξ (.v (L9 (m7 (ptR m7 rs []) m))):=by
 obtain⟨T1,e1⟩:=b7v c1V (x:=AC "size_step") (g:=T9) rfl b4c ok dp e hr h rfl;obtain⟨T2,e2⟩:=b7v b2O (x:=AC "cloth_step") (g:=Q1) rfl b09 ok dp e hr h gd0;have es:b3q [.list (rs.map (K0 t8)++[kn t8 m])]=ξ (.own (T1++[PR ((z8 (ptR (λK m=>(z8 K m).getD (0,0)) rs []) m).getD (0,0))])):=by
  refine n4 (n:=0) ?_;show l0 _ [ξ (.v (.list (rs.map (K0 t8)++[kn t8 m])))]=_;unfold l0;rw [(O6 rfl rfl).trans e1]
  rfl
 have el:a4j [.list (rs.map (K0 t8)++[kn t8 m]),a0L (AC "cloth_step")]=ξ (.v (L9 (m7 (ptR m7 rs []) m))):=by
  refine n4 (n:=0) ?_;show a3Q [ξ (.v (.list (rs.map (K0 t8)++[kn t8 m]))),ξ (.v (a0L (AC "cloth_step")))]=_;unfold a3Q;refine(a9V ((N5 rfl).trans es)).trans (G1 ?_);exact J7 ((O6 rfl rfl).trans e2) (q:= .v (.int (-1))) rfl (b3A (.inl rfl))
 exact a4G ((O6 rfl rfl).trans el)
abbrev lwS(s0:Option d7)(A:NL Ct)(T:List PV)(s3 s4 q5:Option d7):c5:=[s0,ξ (.ow (.txt (dN L9 A))),ξ (.own T),s3,s4,q5]
theorem c34{r:Rw}(ok:y6 r.mo)(dp:t7 r.mo<=8){s0 s4:Option d7}:∀(n:Nat) (is:List PV),is.length=n->∀(K K':NL x6) (A:NL Ct) (T:List PV) (q5:Option d7),itK r.nm r.mo n K=ξ K'->Gd K A->A.length+n<=200->T.length+n<=200->
 ∃T' q5',T'.length=T.length+n/\Gd K' (ptN m7 r.nm r.mo n A)/\(ptN m7 r.nm r.mo n A).length<=A.length+n/\
  z9 A3 (j6 5) is (lwS s0 A T (ξ (.v (K0 j9 r))) s4 q5)=ξ (.nx (lwS s0 (ptN m7 r.nm r.mo n A) T' (ξ (.v (K0 j9 r))) s4 q5'))
 |0,[],_,K,K',A,T,q5,h,hR,_,_=>by cases h;exact⟨T,q5,rfl,hR,AS _,rfl⟩
 |n+1,j::is,hi,K,K',A,T,q5,h,hR,hA,hT=>by
  rw [itK] at h;obtain⟨d,e,h⟩:=bind_some h;have hp:=a7s A r.nm (m7 A r.mo);obtain⟨T',q5',z1,z2,z3,z4⟩:=c34 ok dp (s0:=s0) (s4:=s4) n is (by simpa using hi) (U3 K r.nm d) K' (U3 A r.nm (m7 A r.mo)) (T++[L9 (m7 A r.mo)]) (ξ (.v j)) h (b2O.put hR ok e) (by lia) (by rw [AY,List.length_singleton];lia)
  rw [AY,List.length_singleton] at z1;refine⟨T',q5',by lia,z2,by rw [ptN];lia, ?_⟩
  have hb:A3 (lwS s0 A T (ξ (.v (K0 j9 r))) s4 (ξ (.v j)))=ξ (.nx (lwS s0 (U3 A r.nm (m7 A r.mo)) (T++[L9 (m7 A r.mo)]) (ξ (.v (K0 j9 r))) s4 (ξ (.v j)))):=by
   unfold A3;refine(N3 (D9 (r:= .v (L9 (m7 A r.mo))) (p:=L9 (m7 A r.mo)) (ps:=T) (a42 rfl (ix1 j9 r rfl) (a7e hR ok dp e) (b6J _)) rfl rfl (by lia))).trans ?_
   refine(a3A (b7H j9 r rfl)).trans ?_;rw [c1z L9 (A:=A) (w:=r.nm) (a:=m7 A r.mo) (by lia) rfl (ix2 j9 r rfl) (J7 (r:= .bor (T++[L9 (m7 A r.mo)])) rfl rfl (b3A (.inr rfl)))]
   rfl
  rw [z9];show(A3 (lwS s0 A T (ξ (.v (K0 j9 r))) s4 (ξ (.v j)))).bind _=_;rw [hb,AO];exact z4
theorem c4T{M:Nat}{r:Rw}{K K':NL x6}(o:OkR M K r K'){s0:Option d7}{A:NL Ct}(hR:Gd K A){T:List PV}(hA:A.length<=190)(hT:T.length<=190)(q4 q5:Option d7):∃T' q4' q5',T'.length<=T.length+3/\Gd K' (ptN m7 r.nm r.mo r.cnt A)/\(ptN m7 r.nm r.mo r.cnt A).length<=A.length+3/\
 A4 (lwS s0 A T (ξ (.v (K0 j9 r))) q4 q5)=ξ (.nx (lwS s0 (ptN m7 r.nm r.mo r.cnt A) T' (ξ (.v (K0 j9 r))) q4' q5')):=by
 have c3:=o.c3
 obtain⟨T',q5',z1,z2,z3,z4⟩:=c34 o.ok o.dp (s0:=s0) (s4:=ξ (.v (.int (r.cnt:Nat)))) r.cnt ((AT r.cnt).map λk=> .int (k:Nat)) (by simp) K K' A T q5 o.it hR (by lia) (by lia)
 refine⟨T',ξ (.v (.int (r.cnt:Nat))),q5',by lia,z2,by lia, ?_⟩
 have t1:=a93 j9 r (x:=b0 3) (ρ:=lwS s0 A T (ξ (.v (K0 j9 r))) q4 q5) rfl
 have t:mIf (u6 (m2 D0 (m2 k6 (b0 3) (mC (.int 0))) (mC (.str (AC "again"))))) (m2 k6 (b0 3) (mC (.int 1))) (mC (.int 1)) (lwS s0 A T (ξ (.v (K0 j9 r))) q4 q5)=ξ (.v (.int (r.cnt:Nat))):=by
  cases r with
  |lt w m=>exact(c36 t1).trans rfl
  |ag k w m=>exact(c0X t1).trans rfl
 unfold A4
 refine(g6 t).trans ?_
 have er:M1 (a8 (b0 4) b8) (lwS s0 A T (ξ (.v (K0 j9 r))) (ξ (.v (.int (r.cnt:Nat)))) q5)=ξ ((AT r.cnt).map λk=> .int (k:Nat)):=L0 rfl (by lia)
 show S4 _ _ _ (lwS s0 A T (ξ (.v (K0 j9 r))) (ξ (.v (.int (r.cnt:Nat)))) q5)=_
 unfold S4
 rw [er]
 exact z4
theorem c2R{K:NL x6}{A:NL Ct}{m:Mo}{d:x6}(hR:Gd K A)(ok:y6 m)(dp:t7 m<=8)(e:z8 K m=ξ d){s0:Option d7}{T:List PV}(hT:T.length<=190)(q4 q5:Option d7):∃q4' q5',
 A4 (lwS s0 A T (ξ (.v (kn j9 m))) q4 q5)=ξ (.nx (lwS s0 A (T++[L9 (m7 A m)]) (ξ (.v (kn j9 m))) q4' q5')):=by
 refine⟨ξ (.v (.int 1)),ξ (.v (.int 0)), ?_⟩
 have hb:A3 (lwS s0 A T (ξ (.v (kn j9 m))) (ξ (.v (.int 1))) (ξ (.v (.int 0))))=ξ (.nx (lwS s0 A (T++[L9 (m7 A m)]) (ξ (.v (kn j9 m))) (ξ (.v (.int 1))) (ξ (.v (.int 0))))):=by
  unfold A3;refine(N3 (D9 (r:= .v (L9 (m7 A m))) (p:=L9 (m7 A m)) (ps:=T) (a42 rfl (a6k (ps:=[.str (AC "knot")]) rfl) (a7e hR ok dp e) (b6J _)) rfl rfl (by lia))).trans ?_
  rfl
 have er:M1 (a8 (b0 4) b8) (lwS s0 A T (ξ (.v (kn j9 m))) (ξ (.v (.int 1))) q5)=ξ ((AT 1).map λk=> .int (k:Nat)):=L0 rfl (by lia)
 unfold A4
 refine(g6 (p:= .int 1) rfl).trans ?_
 show S4 _ _ _ (lwS s0 A T (ξ (.v (kn j9 m))) (ξ (.v (.int 1))) q5)=_
 unfold S4
 rw [er]
 show z9 A3 (j6 5) [.int 0] _=_
 rw [z9]
 show(A3 (lwS s0 A T (ξ (.v (kn j9 m))) (ξ (.v (.int 1))) (ξ (.v (.int 0))))).bind _=_
 rw [hb,AO]
 rfl
theorem b7C{M:Nat}{m:Mo}{d:x6}(ok:y6 m)(dp:t7 m<=8){K':NL x6}(e:z8 K' m=ξ d){s0:Option d7}:∀(rs:List Rw) (K:NL x6) (A:NL Ct) (T:List PV) (q3 q4 q5:Option d7),Chn M K rs K'->Gd K A->A.length+3*rs.length<=190->T.length+3*rs.length<=190->
 ∃T' q3' q4' q5',z9 A4 (j6 3) (rs.map (K0 j9)++[kn j9 m]) (lwS s0 A T q3 q4 q5)=ξ (.nx (lwS s0 (ptR m7 rs A) (T'++[L9 (m7 (ptR m7 rs A) m)]) q3' q4' q5'))
 |[],K,A,T,q3,q4,q5,h,hR,hA,hT=>by
  cases h;obtain⟨q4',q5',z⟩:=c2R hR ok dp e (s0:=s0) (T:=T) (by simp at hT;lia) q4 q5
  refine⟨T,ξ (.v (kn j9 m)),q4',q5', ?_⟩;show z9 A4 (j6 3) [kn j9 m] _=_;rw [z9];show(A4 (lwS s0 A T (ξ (.v (kn j9 m))) q4 q5)).bind _=_;rw [z,AO]
  rfl
 |r::rs,K,A,T,q3,q4,q5,⟨K1,o,h⟩,hR,hA,hT=>by
  rw [AX] at hA hT;obtain⟨T1,p4,p5,y1,y2,y3,y4⟩:=c4T o (s0:=s0) hR (T:=T) (by lia) (by lia) q4 q5
  obtain⟨T',q3',q4',q5',z⟩:=b7C ok dp e (s0:=s0) rs K1 _ T1 (ξ (.v (K0 j9 r))) p4 p5 h y2 (by lia) (by lia)
  refine⟨T',q3',q4',q5', ?_⟩;rw [AN,Ar,z9];show(A4 (lwS s0 A T (ξ (.v (K0 j9 r))) q4 q5)).bind _=_;rw [y4,AO];exact z
theorem b8l{M:Nat}{m:Mo}{d:x6}(ok:y6 m)(dp:t7 m<=8){K:NL x6}(e:z8 K m=ξ d){rs:List Rw}(hr:rs.length<=20)(h:Chn M [] rs K):∃T':List PV,a23 [.list (rs.map (K0 j9)++[kn j9 m])]=ξ (.own (T'++[L9 (m7 (ptR m7 rs []) m)])):=by
 obtain⟨T',q3',q4',q5',z⟩:=b7C ok dp e (s0:=ξ (.v (.list (rs.map (K0 j9)++[kn j9 m])))) rs [] [] [] ζ ζ ζ h gd0 (by simp;lia) (by simp;lia)
 refine⟨T',n4 (n:=5) ?_⟩;show a2Q [ξ (.v (.list (rs.map (K0 j9)++[kn j9 m]))),ζ,ζ,ζ,ζ,ζ]=_;unfold a2Q;refine(N3 (ρ':=[ξ (.v (.list (rs.map (K0 j9)++[kn j9 m]))),ξ (.ow (.txt [])),ζ,ζ,ζ,ζ]) rfl).trans ?_;refine(Q8 (l:=[]) rfl).trans ?_;exact(Y4 (ps:=rs.map (K0 j9)++[kn j9 m]) rfl z).trans rfl
theorem c2W{ns:List Int}:∃M:Nat,3<=M/\a6f [.list (ns.map .int)]=ξ (.v (.int (M:Nat))):=by
 obtain⟨c,hc⟩:=b7e (ns:=ns);obtain⟨j,hj⟩:∃j:Int,j=c / 3 % 4:=⟨_,rfl⟩;have e1:m2 (J2 (λ_ j=>0<j) λi j=> .int (i % j)) (m2 (J2 b0T λi j=> .int (i / j)) (j5 M6 (a8 (b0 0) (a8 (mC (.int 0)) b8))) (mC (.int 3))) (mC (.int 4)) [ξ (.v (.list (ns.map .int)))]=ξ (.v (.int j)):=by
  rw [hj];exact md (dv ((O6 rfl rfl).trans hc) rfl (by lia)) rfl (by lia)
 have hj4:j=0\/j=1\/j=2\/j=3:=by lia
 have e2:∃M:Nat,3<=M/\k6 (.own [.int 6,.int 9,.int 6,.int 12]) (.v (.int j))=ξ (.v (.int (M:Nat))):=by
  rcases hj4 with h|h|h|h<;>rw [h]
  ·exact⟨6,by lia,rfl⟩
  ·exact⟨9,by lia,rfl⟩
  ·exact⟨6,by lia,rfl⟩
  ·exact⟨12,by lia,rfl⟩
 obtain⟨M,hM,e2⟩:=e2;exact⟨M,hM,a4G (J7 (r:= .own [.int 6,.int 9,.int 6,.int 12]) rfl e1 e2)⟩
theorem b4P(c:Ct):x4 (L9 c) 50=true:=by
 have:L9 c=b4E ((AT c.n).map λi=>T4 c.m (c.f i)):=by unfold L9 cl b4E;rw [Ah];rfl
 rw [this];exact b6j _
theorem b2C{s0 s1 s2 s3 s4:Option d7}:∀(l:List (List Nat)) (q5:Option d7),∃q5',z9 a7f (j6 5) (l.map row) [s0,s1,s2,s3,s4,q5]=ξ (.nx [s0,s1,s2,s3,s4,q5'])
 |[],q5=>⟨q5,rfl⟩
 |r::l,q5=>by
  obtain⟨q5',e⟩:=b2C (s0:=s0) (s1:=s1) (s2:=s2) (s3:=s3) (s4:=s4) l (ξ (.v (row r)));refine⟨q5', ?_⟩;rw [AN,z9];rw [show j6 5 (row r) [s0,s1,s2,s3,s4,q5]=ξ [s0,s1,s2,s3,s4,ξ (.v (row r))] from rfl,AO];have hb:a7f [s0,s1,s2,s3,s4,ξ (.v (row r))]=ξ (.nx [s0,s1,s2,s3,s4,ξ (.v (row r))]):=by
   unfold a7f;exact(a7i (c51 (b1Y rfl))).trans rfl
  rw [hb,AO];exact e
theorem main:∀ns:List Int,ns.length<=63->c30 [.list (ns.map .int)]=ξ (.v (.bool true)):=by
 intro ns hl;obtain⟨M,hM,eM⟩:=c2W (ns:=ns);obtain⟨rs,K,m,h,ok,dp,⟨d,e,_,_⟩,hr,er⟩:=b6P hM hl;obtain⟨T,ec⟩:=b8l ok dp e hr h;have ek:=b6w ok dp e hr h;have eb:=b9W h hr ok dp;obtain⟨c,hc⟩:∃c,c=m7 (ptR m7 rs []) m:=⟨_,rfl⟩;rw [<-hc] at ec ek;obtain⟨RT,hRT⟩:∃l:List PV,l=rs.map (K0 j9)++[kn j9 m]:=⟨_,rfl⟩;obtain⟨RP,hRP⟩:∃l:List PV,l=rs.map (K0 t8)++[kn t8 m]:=⟨_,rfl⟩;have lT:RT.length=RP.length:=by rw [hRT,hRP];simp
 have er:a0e [.list (ns.map .int),.int 21,.int (M:Nat)]=ξ (.own RT):=by rw [hRT];exact er
 rw [<-hRT] at ec eb;rw [<-hRP] at ek eb;refine n4 (n:=5) ?_;show b9S [ξ (.v (.list (ns.map .int))),ζ,ζ,ζ,ζ,ζ]=_;unfold b9S;refine(Q8 (l:=RT) ((c3V rfl rfl ((N5 rfl).trans eM)).trans er)).trans ?_;refine(N3 (ρ':=[ξ (.v (.list (ns.map .int))),ξ (.v (.list RT)),ξ (.v (L9 c)),ζ,ζ,ζ]) ?_).trans ?_
 ·show p0 2 _ [ξ (.v (.list (ns.map .int))),ξ (.v (.list RT)),ζ,ζ,ζ,ζ]=_;rw [X5 (J7 ((N5 rfl).trans ec) (q:= .v (.int (-1))) rfl (b3A (.inl rfl)))]
  rfl
 refine(N3 (ρ':=[ξ (.v (.list (ns.map .int))),ξ (.v (.list RT)),ξ (.v (L9 c)),ξ (.own RP),ζ,ζ]) ?_).trans ?_
 ·show p0 3 _ [ξ (.v (.list (ns.map .int))),ξ (.v (.list RT)),ξ (.v (L9 c)),ζ,ζ,ζ]=_;unfold p0;rw [(N5 rfl).trans eb]
  rfl
 refine(N3 (ρ':=[ξ (.v (.list (ns.map .int))),ξ (.v (.list RT)),ξ (.v (L9 c)),ξ (.v (.list RP)),ξ (.v (L9 c)),ζ]) ?_).trans ?_
 ·show p0 4 _ [ξ (.v (.list (ns.map .int))),ξ (.v (.list RT)),ξ (.v (L9 c)),ξ (.v (.list RP)),ζ,ζ]=_;rw [X5 ((N5 rfl).trans ek)]
  rfl
 have t1:mtV (m1 (a4a "tuple") (b0 4)) [ξ (.v (.list (ns.map .int))),ξ (.v (.list RT)),ξ (.v (L9 c)),ξ (.v (.list RP)),ξ (.v (L9 c)),ζ]=ξ true:=b1Y rfl;refine(b7 (c48 (c51 t1) (G0 (r:= .v (L9 c)) rfl (q:= .v (L9 c)) rfl (c0x (b4P c))))).trans ?_;obtain⟨l,hl⟩:∃l:List (List Nat),L9 c= .tuple (l.map row):=⟨(AT c.n).map λi=>T4 c.m (c.f i),by unfold L9 cl;rw [Ah];rfl⟩
 obtain⟨q5,e5⟩:=b2C (s0:=ξ (.v (.list (ns.map .int)))) (s1:=ξ (.v (.list RT))) (s2:=ξ (.v (L9 c))) (s3:=ξ (.v (.list RP))) (s4:=ξ (.v (L9 c))) l ζ;refine(Y4 (ps:=l.map row) (by rw [hl];rfl) e5).trans ?_
 have gT:B4 (.v (.list RT))=ξ (.v (.int (RT.length:Nat))):=a7Z _;have gP:B4 (.v (.list RP))=ξ (.v (.int (RT.length:Nat))):=by rw [lT];exact a7Z _
 show l0 _ [ξ (.v (.list (ns.map .int))),ξ (.v (.list RT)),ξ (.v (L9 c)),ξ (.v (.list RP)),ξ (.v (L9 c)),q5]=_;refine G1 (c5O (J7 (one rfl gP) (one rfl gT) ?_) (J7 ((N5 rfl).trans ek) (q:= .v (L9 c)) rfl (c0q (b4P c))));rw [b7q];simp
set_option maxHeartbeats 4000000
seal L2.PE L2.PS L2.PSs L2.PT L2.PW L2.PA L2.PG L2.PGs L2.PI
def O3(i:Nat):Stmt:=PySem.Challenge.pw_carpetkin_k25_knotted.main.body.getD i (.Pass ⟨0,0,0,0⟩)
abbrev a3o:Stmt:=O3 55
theorem a5U:i8 ["_law_cell","_law_at"] ["_law_cell","_law_at"] (c9 a3o):=O2
abbrev a4N:Stmt:=O3 57
theorem a7G:i8 ["_law_number_here","_law_rows","_law_letters","_law_wide","_law_r","_law_row","_law_c","_law_mixed"] ["_law_number_here"] (c9 a4N):=O2
abbrev a6q:Stmt:=O3 58
theorem a8T:i8 ["_law_number_here","_law_names_here"] ["_law_number_here","_law_names_here"] (c9 a6q):=O2
abbrev a6s:Stmt:=O3 60
theorem a8V:i8 ["_law_number_here","_law_tree","_law_other","_law_way","_law_many","_law_letters","_law_turns"] ["_law_number_here","_law_tree","_law_other"] (c9 a6s):=O2
abbrev a6p:Stmt:=O3 61
theorem a8S:i8 ["_law_word","_law_dims","_law_found","_law_size_here"] ["_law_word","_law_dims"] (c9 a6p):=O2
theorem b1w:List.Nodup (α:=Str) ["_law_tree","_law_known","_law_word","_law_dims","_law_bad","_law_size_here","_law_part"]:=by decide+kernel
theorem b1x:List.Nodup (α:=Str) ["_law_tree","_law_known","_law_word","_law_dims","_law_bad","0_law_size_here","_law_size_here"]:=by decide+kernel
abbrev a3r:Stmt:=O3 62
theorem a4V:i8 ["_law_tree","_law_known","_law_word","_law_dims","_law_bad","_law_size_here"] ["_law_tree","_law_known"] (c9 a3r):=O2
theorem b1y:List.Nodup (α:=Str) ["_law_tree","_law_word","_law_part"]:=by decide+kernel
abbrev a3s:Stmt:=O3 59
theorem a4W:i8 ["_law_tree","_law_word"] ["_law_tree"] (c9 a3s):=O2
abbrev a4L:Stmt:=O3 63
theorem a7E:i8 ["_law_number_here","_law_known","_law_names_here","_law_most_here","_law_tree","_law_step_here","_law_mixed","_law_new","_law_size_here","_law_fits"] ["_law_number_here","_law_known","_law_names_here","_law_most_here"] (c9 a4L):=O2
abbrev a2h:Stmt:=O3 54
theorem a4Q:i8 ["_law_script","_law_k"] ["_law_script","_law_k"] (c9 a2h):=O2
abbrev a4M:Stmt:=O3 56
theorem a7F:i8 [] [] (c9 a4M):=O2
abbrev Z4:Stmt:=O3 65
theorem a1W:i8 ["_law_tree","_law_name","_law_many","_law_known","_law_most_here","_law_dims","_law_k","_law_size_here"] ["_law_tree","_law_name","_law_many","_law_known","_law_most_here"] (c9 Z4):=O2
abbrev a2i:Stmt:=O3 66
theorem a4T:i8 ["_law_script","_law_last","_law_most_here","_law_known","_law_rows","_law_at","_law_number_here","_law_name","_law_tree","_law_many","_law_dims"] ["_law_script","_law_last","_law_most_here"] (c9 a2i):=O2
theorem b1r:List.Nodup (α:=Str) ["_law_tree","_law_word","_law_part"]:=by decide+kernel
theorem b1s:List.Nodup (α:=Str) ["_law_tree","_law_word","_law_part"]:=by decide+kernel
abbrev a3n:Stmt:=O3 64
theorem a4R:i8 ["_law_tree","_law_word"] ["_law_tree"] (c9 a3n):=O2
abbrev a4J:Stmt:=O3 67
theorem a7C:i8 ["_law_rows","_law_found","_law_row"] ["_law_rows"] (c9 a4J):=O2
abbrev a6t:Stmt:=O3 11
theorem a8W:i8 ["row"] ["row"] (c9 a6t):=O2
abbrev a8f:Stmt:=O3 19
theorem b0G:i8 ["cloth"] ["cloth"] (c9 a8f):=O2
abbrev a3i:Stmt:=N6 (O3 45) 2
theorem a5O:i8 ["self","known","row"] ["self","known","row"] (c9 a3i):=O2
abbrev a3h:Stmt:=N6 (O3 46) 3
theorem a5N:i8 ["self","known","row"] ["self","known","row"] (c9 a3h):=O2
abbrev a1w:Stmt:=O3 38
theorem a3B:i8 ["rows","knots","row"] ["rows","knots","row"] (c9 a1w):=O2
abbrev Q7:Stmt:=O3 40
theorem a5V:i8 ["one","other","row"] ["one","other","row"] (c9 Q7):=O2
abbrev M7:Stmt:=O3 39
theorem a4X:i8 ["one","other","row"] ["one","other","row"] (c9 M7):=O2
abbrev a00:Stmt:=N6 (O3 48) 3
theorem a2j:i8 ["self","known","row"] ["self","known","row"] (c9 a00):=O2
abbrev a0l:Stmt:=N6 (O3 49) 3
theorem a1z:i8 ["self","known","row","size"] ["self","known","row"] (c9 a0l):=O2
abbrev a0m:Stmt:=N6 (O3 47) 3
theorem a1A:i8 ["self","known","row"] ["self","known","row"] (c9 a0m):=O2
abbrev a1T:Stmt:=N6 (O3 50) 3
theorem a3t:i8 ["self","known","row","size"] ["self","known","row"] (c9 a1T):=O2
abbrev a1U:Stmt:=N6 (O3 52) 3
theorem a3u:i8 ["self","known","row"] ["self","known","row"] (c9 a1U):=O2
abbrev a0n:Stmt:=N6 (O3 51) 3
theorem a1B:i8 ["self","known","row","size"] ["self","known","row"] (c9 a0n):=O2
theorem a7j:List.Nodup (α:=Str) ["parts","known","row","lay","found","come","size","part"]:=by decide+kernel
abbrev X0:Stmt:=O3 41
theorem a0I:i8 ["parts","known","row","lay","found","come","size"] ["parts","known","row","lay"] (c9 X0):=O2
abbrev U2:Stmt:=O3 9
theorem a7H:i8 ["motif","known","row"] ["motif","known","row"] (c9 U2):=O2
abbrev a2g:Stmt:=N6 (O3 45) 3
theorem a4P:i8 ["self","known"] ["self","known"] (c9 a2g):=O2
abbrev a2f:Stmt:=N6 (O3 46) 4
theorem a4O:i8 ["self","known"] ["self","known"] (c9 a2f):=O2
abbrev a3k:Stmt:=O3 20
theorem a5Q:i8 ["rows","knots"] ["rows","knots"] (c9 a3k):=O2
abbrev a5h:Stmt:=O3 22
theorem b5I:i8 ["one","other"] ["one","other"] (c9 a5h):=O2
theorem b5b:List.Nodup (α:=Str) ["cloth","many","row"]:=by decide+kernel
abbrev b0C:Stmt:=O3 23
theorem b2J:i8 ["cloth","many"] ["cloth","many"] (c9 b0C):=O2
abbrev b6W:Stmt:=O3 24
theorem b7U:i8 ["cloth","many"] ["cloth","many"] (c9 b6W):=O2
abbrev a3l:Stmt:=O3 29
theorem a5S:i8 ["cloth"] ["cloth"] (c9 a3l):=O2
theorem b5c:List.Nodup (α:=Str) ["cloth","c","row"]:=by decide+kernel
abbrev b0D:Stmt:=O3 26
theorem b2L:i8 ["cloth","c"] ["cloth","c"] (c9 b0D):=O2
theorem a8Z:List.Nodup (α:=Str) ["cloth","c"]:=by decide+kernel
abbrev a3j:Stmt:=O3 27
theorem a5P:i8 ["cloth"] ["cloth"] (c9 a3j):=O2
theorem a5q:List.Nodup (α:=Str) ["cloth","row"]:=by decide+kernel
abbrev Z3:Stmt:=O3 28
theorem a1V:i8 ["cloth"] ["cloth"] (c9 Z3):=O2
abbrev a8g:Stmt:=O3 30
theorem b0H:i8 ["cloth","step"] ["cloth","step"] (c9 a8g):=O2
abbrev b0E:Stmt:=O3 31
theorem b2M:i8 ["cloth","way","come","step"] ["cloth","way"] (c9 b0E):=O2
abbrev a4H:Stmt:=O3 33
theorem a7A:i8 ["colour","one","other"] ["colour","one","other"] (c9 a4H):=O2
theorem b1p:List.Nodup (α:=Str) ["row","one","other","colour"]:=by decide+kernel
abbrev a6m:Stmt:=O3 34
theorem a8P:i8 ["row","one","other"] ["row","one","other"] (c9 a6m):=O2
theorem b1q:List.Nodup (α:=Str) ["cloth","one","other","row"]:=by decide+kernel
abbrev a6n:Stmt:=O3 35
theorem a8Q:i8 ["cloth","one","other"] ["cloth","one","other"] (c9 a6n):=O2
theorem a8I:List.Nodup (α:=Str) ["one","other","left","right"]:=by decide+kernel
abbrev a2F:Stmt:=O3 21
theorem b2K:i8 ["one","other"] ["one","other"] (c9 a2F):=O2
abbrev a0k:Stmt:=N6 (O3 48) 4
theorem a1y:i8 ["self","known"] ["self","known"] (c9 a0k):=O2
abbrev W7:Stmt:=N6 (O3 49) 4
theorem a0F:i8 ["self","known"] ["self","known"] (c9 W7):=O2
abbrev W8:Stmt:=N6 (O3 47) 4
theorem a0G:i8 ["self","known"] ["self","known"] (c9 W8):=O2
abbrev a01:Stmt:=N6 (O3 50) 4
theorem a2k:i8 ["self","known"] ["self","known"] (c9 a01):=O2
abbrev a02:Stmt:=N6 (O3 52) 4
theorem a2l:i8 ["self","known"] ["self","known"] (c9 a02):=O2
abbrev W9:Stmt:=N6 (O3 51) 4
theorem a0H:i8 ["self","known"] ["self","known"] (c9 W9):=O2
abbrev S8:Stmt:=O3 42
theorem Z5:i8 ["parts","known","lay","come","part"] ["parts","known","lay"] (c9 S8):=O2
abbrev Q6:Stmt:=O3 10
theorem a5R:i8 ["motif","known","row"] ["motif","known","row"] (c9 Q6):=O2
abbrev a1x:Stmt:=O3 12
theorem a3C:i8 ["program","step","known","told","place","row","k","come"] ["program","step"] (c9 a1x):=O2
abbrev b4b:Stmt:=O3 13
theorem b5J:i8 ["program"] ["program"] (c9 b4b):=O2
abbrev a4I:Stmt:=O3 14
theorem a7B:i8 ["program","step"] ["program","step"] (c9 a4I):=O2
abbrev a8e:Stmt:=O3 15
theorem b0F:i8 ["program"] ["program"] (c9 a8e):=O2
abbrev a6r:Stmt:=O3 74
theorem a8U:i8 ["_law_script"] ["_law_script"] (c9 a6r):=O2
theorem b1t:List.Nodup (α:=Str) ["_law_tree","_law_cloths_here","_law_word","_law_rows","_law_parts","0_law_part","_law_part"]:=by decide+kernel
theorem b1u:List.Nodup (α:=Str) ["_law_tree","_law_cloths_here","_law_word","_law_rows","_law_parts","0_law_part","_law_part"]:=by decide+kernel
theorem b1v:List.Nodup (α:=Str) ["_law_tree","_law_cloths_here","_law_word","_law_rows","_law_parts","0_law_part","_law_part"]:=by decide+kernel
abbrev a3p:Stmt:=O3 68
theorem a4S:i8 ["_law_tree","_law_cloths_here","_law_word","_law_rows","_law_parts","_law_part"] ["_law_tree","_law_cloths_here"] (c9 a3p):=O2
abbrev a6o:Stmt:=O3 70
theorem a8R:i8 ["_law_way","_law_part","_law_r","_law_c","_law_last","_law_end"] ["_law_way","_law_part","_law_r","_law_c"] (c9 a6o):=O2
abbrev a3q:Stmt:=O3 71
theorem a4U:i8 ["_law_plan_here","_law_r","_law_c","_law_part","_law_sign_here","_law_place"] ["_law_plan_here","_law_r","_law_c"] (c9 a3q):=O2
abbrev a03:Stmt:=O3 69
theorem a2m:i8 ["_law_plan_here","_law_r","_law_c","_law_part"] ["_law_plan_here","_law_r","_law_c"] (c9 a03):=O2
theorem b0g:List.Nodup (α:=Str) ["_law_tree","_law_cloths_here","_law_plan_here","_law_rows","_law_r","_law_c"]:=by decide+kernel
abbrev a4K:Stmt:=O3 72
theorem a7D:i8 ["_law_tree","_law_cloths_here","_law_plan_here","_law_rows","_law_r"] ["_law_tree","_law_cloths_here"] (c9 a4K):=O2
abbrev a3m:Stmt:=O3 73
theorem a5T:i8 ["_law_rows","_law_cloths_here","_law_found","_law_row","_law_many","_law_k"] ["_law_rows"] (c9 a3m):=O2
abbrev c1K:Stmt:=O3 75
theorem c1N:i8 ["_law_script","_law_rows","_law_due","_law_program_here","_law_found","_law_row"] ["_law_script"] (c9 c1K):=O2
structure MoB(K:AE)(mg:Str->Option AA):Prop where
 z_dict:mg "dict"=ζ
 z_enumerate:mg "enumerate"=ζ
 z_int:mg "int"=ζ
 z_isinstance:mg "isinstance"=ζ
 z_len:mg "len"=ζ
 z_list:mg "list"=ζ
 z_max:mg "max"=ζ
 z_min:mg "min"=ζ
 z_range:mg "range"=ζ
 z_reversed:mg "reversed"=ζ
 z_str:mg "str"=ζ
 z_sum:mg "sum"=ζ
 z_tuple:mg "tuple"=ζ
 z_zip:mg "zip"=ζ
abbrev b5H:Stmt:=N6 (O3 45) 0
theorem b9s:i8 ["self","rows"] ["self","rows"] (c9 b5H):=O2
abbrev b5G:Stmt:=N6 (O3 46) 0
theorem b9r:i8 ["self","name"] ["self","name"] (c9 b5G):=O2
abbrev b2H:Stmt:=N6 (O3 47) 0
theorem b6Y:i8 ["self","parts"] ["self","parts"] (c9 b2H):=O2
abbrev b5F:Stmt:=N6 (O3 48) 0
theorem b9q:i8 ["self","parts"] ["self","parts"] (c9 b5F):=O2
abbrev b2G:Stmt:=N6 (O3 49) 0
theorem b6X:i8 ["self","many","part"] ["self","many","part"] (c9 b2G):=O2
abbrev b7S:Stmt:=N6 (O3 50) 0
theorem c1L:i8 ["self","many","part"] ["self","many","part"] (c9 b7S):=O2
abbrev b2I:Stmt:=N6 (O3 51) 0
theorem b6Z:i8 ["self","way","part"] ["self","way","part"] (c9 b2I):=O2
abbrev b7T:Stmt:=N6 (O3 52) 0
theorem c1M:i8 ["self","one","other","part"] ["self","one","other","part"] (c9 b7T):=O2
structure Ad where
 C_Plain:AB
 C_Named:AB
 C_Beside:AB
 C_Above:AB
 C_Across:AB
 C_Down:AB
 C_Turned:AB
 C_Dyed:AB
 f_Plain_size:AB
 f_Named_size:AB
 f_Above_size:AB
 f_Across_size:AB
 f_Beside_size:AB
 f_Down_size:AB
 f_Dyed_size:AB
 f_Turned_size:AB
 f_Plain_cloth:AB
 f_Named_cloth:AB
 f_Above_cloth:AB
 f_Across_cloth:AB
 f_Beside_cloth:AB
 f_Down_cloth:AB
 f_Dyed_cloth:AB
 f_Turned_cloth:AB
structure Oc(K:AE)(mg:Str->Option AA)(a:Ad):Prop where
 kc_Plain:KC K "Plain" a.C_Plain
 kc_Named:KC K "Named" a.C_Named
 kc_Beside:KC K "Beside" a.C_Beside
 kc_Above:KC K "Above" a.C_Above
 kc_Across:KC K "Across" a.C_Across
 kc_Down:KC K "Down" a.C_Down
 kc_Turned:KC K "Turned" a.C_Turned
 kc_Dyed:KC K "Dyed" a.C_Dyed
 fi_Plain_cloth:PySem.W.findIn K (.ref a.C_Plain) "cloth"=ξ (ξ (.ref a.f_Plain_cloth))
 fi_Named_cloth:PySem.W.findIn K (.ref a.C_Named) "cloth"=ξ (ξ (.ref a.f_Named_cloth))
 fi_Beside_cloth:PySem.W.findIn K (.ref a.C_Beside) "cloth"=ξ (ξ (.ref a.f_Beside_cloth))
 fi_Above_cloth:PySem.W.findIn K (.ref a.C_Above) "cloth"=ξ (ξ (.ref a.f_Above_cloth))
 fi_Across_cloth:PySem.W.findIn K (.ref a.C_Across) "cloth"=ξ (ξ (.ref a.f_Across_cloth))
 fi_Down_cloth:PySem.W.findIn K (.ref a.C_Down) "cloth"=ξ (ξ (.ref a.f_Down_cloth))
 fi_Turned_cloth:PySem.W.findIn K (.ref a.C_Turned) "cloth"=ξ (ξ (.ref a.f_Turned_cloth))
 fi_Dyed_cloth:PySem.W.findIn K (.ref a.C_Dyed) "cloth"=ξ (ξ (.ref a.f_Dyed_cloth))
 fi_Plain_size:PySem.W.findIn K (.ref a.C_Plain) "size"=ξ (ξ (.ref a.f_Plain_size))
 fi_Named_size:PySem.W.findIn K (.ref a.C_Named) "size"=ξ (ξ (.ref a.f_Named_size))
 fi_Beside_size:PySem.W.findIn K (.ref a.C_Beside) "size"=ξ (ξ (.ref a.f_Beside_size))
 fi_Above_size:PySem.W.findIn K (.ref a.C_Above) "size"=ξ (ξ (.ref a.f_Above_size))
 fi_Across_size:PySem.W.findIn K (.ref a.C_Across) "size"=ξ (ξ (.ref a.f_Across_size))
 fi_Down_size:PySem.W.findIn K (.ref a.C_Down) "size"=ξ (ξ (.ref a.f_Down_size))
 fi_Turned_size:PySem.W.findIn K (.ref a.C_Turned) "size"=ξ (ξ (.ref a.f_Turned_size))
 fi_Dyed_size:PySem.W.findIn K (.ref a.C_Dyed) "size"=ξ (ξ (.ref a.f_Dyed_size))
 fld_many:a0z K ["Across","Down"] "many"
 fld_name:a0z K ["Named"] "name"
 fld_one:a0z K ["Dyed"] "one"
 fld_other:a0z K ["Dyed"] "other"
 fld_part:a0z K ["Across","Down","Turned","Dyed"] "part"
 fld_parts:a0z K ["Beside","Above"] "parts"
 fld_rows:a0z K ["Plain"] "rows"
 fld_way:a0z K ["Turned"] "way"
section
variable (P:AJ)(w:AI)(K:AE)(mg:Str->Option AA)(base:Heap)(a:Ad)
abbrev a6D:Prop:=n5 P w K mg base "_law_number" ["_law_cell","_law_at"] 1 L8
abbrev a3L:Prop:=n5 P w K mg base "_law_plain" ["_law_number_here"] 1 a1Q
abbrev a9q:Prop:=n5 P w K mg base "_law_leaf" ["_law_number_here","_law_names_here"] 2 a1n
abbrev a9s:Prop:=n5 P w K mg base "_law_step" ["_law_number_here","_law_tree","_law_other"] 1 Y5
abbrev a50:Prop:=n5 P w K mg base "_law_laid" ["_law_word","_law_dims"] 1 a24
abbrev a51:Prop:=n5 P w K mg base "_law_size" ["_law_tree","_law_known"] 13 C9
abbrev b56:Prop:=n5 P w K mg base "_law_text" ["_law_tree"] 13 Y6
abbrev a8o:Prop:=n5 P w K mg base "_law_grown" ["_law_number_here","_law_known","_law_names_here","_law_most_here"] 14 P3
abbrev a1Y:Prop:=n5 P w K mg base "_law_cell_at" ["_law_script","_law_k"] 1 M6
abbrev a8p:Prop:=n5 P w K mg base "_law_names" [] 1 a1P
abbrev a2q:Prop:=n5 P w K mg base "_law_again_fits" ["_law_tree","_law_name","_law_many","_law_known","_law_most_here"] 14 C1
abbrev a5x:Prop:=n5 P w K mg base "_law_program" ["_law_script","_law_last","_law_most_here"] 15 a0e
abbrev b53:Prop:=n5 P w K mg base "_law_made" ["_law_tree"] 14 E6
abbrev a8m:Prop:=n5 P w K mg base "_law_built" ["_law_rows"] 15 a4k
abbrev a9t:Prop:=n5 P w K mg base "times_of" ["row"] 1 a1o
abbrev b12:Prop:=n5 P w K mg base "size_of" ["cloth"] 1 a71
abbrev G5:Prop:=A5 P w K mg base a.f_Plain_size ["self","known","row"] 2 z6
abbrev G4:Prop:=A5 P w K mg base a.f_Named_size ["self","known","row"] 1 y9
abbrev K2:Prop:=n5 P w K mg base "checked_size" ["rows","knots","row"] 1 K5
abbrev a0T:Prop:=n5 P w K mg base "size_above" ["one","other","row"] 2 a0Y
abbrev a0a:Prop:=n5 P w K mg base "size_beside" ["one","other","row"] 2 a0f
abbrev b20:Prop:=A5 P w K mg base a.f_Above_size ["self","known","row"] 22 a63
abbrev b0X:Prop:=A5 P w K mg base a.f_Across_size ["self","known","row"] 22 a5F
abbrev b0Y:Prop:=A5 P w K mg base a.f_Beside_size ["self","known","row"] 22 a5G
abbrev b4o:Prop:=A5 P w K mg base a.f_Down_size ["self","known","row"] 22 a8w
abbrev b4p:Prop:=A5 P w K mg base a.f_Dyed_size ["self","known","row"] 22 a8x
abbrev b0Z:Prop:=A5 P w K mg base a.f_Turned_size ["self","known","row"] 22 a5H
structure G3(k:Nat)(i9 i4 i5 j3 j4 i6 R_size_of_laid:List PV->Option d7):Prop where
 d_Above_size:A5 P w K mg base a.f_Above_size ["self","known","row"] k i9
 d_Across_size:A5 P w K mg base a.f_Across_size ["self","known","row"] k i4
 d_Beside_size:A5 P w K mg base a.f_Beside_size ["self","known","row"] k i5
 d_Down_size:A5 P w K mg base a.f_Down_size ["self","known","row"] k j3
 d_Dyed_size:A5 P w K mg base a.f_Dyed_size ["self","known","row"] k j4
 d_Turned_size:A5 P w K mg base a.f_Turned_size ["self","known","row"] k i6
 d_size_of_laid:n5 P w K mg base "size_of_laid" ["parts","known","row","lay"] k R_size_of_laid
abbrev a3M:Prop:=n5 P w K mg base "size_step" ["motif","known","row"] 23 T9
abbrev D6:Prop:=A5 P w K mg base a.f_Plain_cloth ["self","known"] 1 t6
abbrev D5:Prop:=A5 P w K mg base a.f_Named_cloth ["self","known"] 1 t5
abbrev U8:Prop:=n5 P w K mg base "check_size" ["rows","knots"] 1 L7
abbrev a89:Prop:=n5 P w K mg base "above" ["one","other"] 2 a66
abbrev a9o:Prop:=n5 P w K mg base "across" ["cloth","many"] 2 a9Y
abbrev b52:Prop:=n5 P w K mg base "down" ["cloth","many"] 2 b6o
abbrev a6B:Prop:=n5 P w K mg base "from_below" ["cloth"] 1 a0X
abbrev b4q:Prop:=n5 P w K mg base "column" ["cloth","c"] 1 a67
abbrev a6A:Prop:=n5 P w K mg base "by_columns" ["cloth"] 2 a0W
abbrev a2p:Prop:=n5 P w K mg base "from_the_right" ["cloth"] 1 Q2
abbrev b13:Prop:=n5 P w K mg base "stepped" ["cloth","step"] 3 Q3
abbrev a9u:Prop:=n5 P w K mg base "turned" ["cloth","way"] 4 K6
abbrev a8k:Prop:=n5 P w K mg base "exchanged" ["colour","one","other"] 1 a1O
abbrev a9p:Prop:=n5 P w K mg base "dyed_row" ["row","one","other"] 2 a21
abbrev a5Y:Prop:=n5 P w K mg base "dyed_two" ["cloth","one","other"] 3 a22
abbrev a6z:Prop:=n5 P w K mg base "beside" ["one","other"] 2 a4i
abbrev b0W:Prop:=A5 P w K mg base a.f_Above_cloth ["self","known"] 24 a5E
abbrev a9l:Prop:=A5 P w K mg base a.f_Across_cloth ["self","known"] 24 a4f
abbrev a9m:Prop:=A5 P w K mg base a.f_Beside_cloth ["self","known"] 24 a4g
abbrev b21:Prop:=A5 P w K mg base a.f_Down_cloth ["self","known"] 24 a64
abbrev b22:Prop:=A5 P w K mg base a.f_Dyed_cloth ["self","known"] 24 a65
abbrev a9n:Prop:=A5 P w K mg base a.f_Turned_cloth ["self","known"] 24 a4h
structure D4(k:Nat)(i7 g7 g8 j1 j2 g9 R_cloth_of_laid:List PV->Option d7):Prop where
 d_Above_cloth:A5 P w K mg base a.f_Above_cloth ["self","known"] k i7
 d_Across_cloth:A5 P w K mg base a.f_Across_cloth ["self","known"] k g7
 d_Beside_cloth:A5 P w K mg base a.f_Beside_cloth ["self","known"] k g8
 d_Down_cloth:A5 P w K mg base a.f_Down_cloth ["self","known"] k j1
 d_Dyed_cloth:A5 P w K mg base a.f_Dyed_cloth ["self","known"] k j2
 d_Turned_cloth:A5 P w K mg base a.f_Turned_cloth ["self","known"] k g9
 d_cloth_of_laid:n5 P w K mg base "cloth_of_laid" ["parts","known","lay"] k R_cloth_of_laid
abbrev a0S:Prop:=n5 P w K mg base "cloth_step" ["motif","known","row"] 25 Q1
abbrev a08:Prop:=n5 P w K mg base "gone_through" ["program","step"] 26 V4
abbrev b7b:Prop:=n5 P w K mg base "sizes" ["program"] 27 b3q
abbrev a8l:Prop:=n5 P w K mg base "last_told" ["program","step"] 28 a4j
abbrev b11:Prop:=n5 P w K mg base "knotted" ["program"] 29 a5a
abbrev a9r:Prop:=n5 P w K mg base "_law_most" ["_law_script"] 2 a6f
abbrev b54:Prop:=n5 P w K mg base "_law_plan" ["_law_tree","_law_cloths_here"] 13 a6g
abbrev a5Z:Prop:=n5 P w K mg base "_law_from" ["_law_way","_law_part","_law_r","_law_c"] 1 a6e
abbrev b55:Prop:=n5 P w K mg base "_law_sign" ["_law_plan_here","_law_r","_law_c"] 25 a6h
structure a5X(k:Nat)(A6 R_law_within:List PV->Option d7):Prop where
 d_law_sign:n5 P w K mg base "_law_sign" ["_law_plan_here","_law_r","_law_c"] k A6
 d_law_within:n5 P w K mg base "_law_within" ["_law_plan_here","_law_r","_law_c"] k R_law_within
abbrev a8n:Prop:=n5 P w K mg base "_law_cloth" ["_law_tree","_law_cloths_here"] 26 a4l
abbrev a6C:Prop:=n5 P w K mg base "_law_cloths" ["_law_rows"] 27 a23
structure Io:Prop where
 i_Above:M9 P w K mg base "Above" ["parts"] 1
 i_Across:M9 P w K mg base "Across" ["many","part"] 1
 i_Beside:M9 P w K mg base "Beside" ["parts"] 1
 i_Down:M9 P w K mg base "Down" ["many","part"] 1
 i_Dyed:M9 P w K mg base "Dyed" ["one","other","part"] 1
 i_Named:M9 P w K mg base "Named" ["name"] 1
 i_Plain:M9 P w K mg base "Plain" ["rows"] 1
 i_Turned:M9 P w K mg base "Turned" ["way","part"] 1
end
section
variable (P:AJ)(w:AI){K:AE}{mg:Str->Option AA}(base:Heap)(a:Ad)
theorem b1N(D:Df K mg "_law_number" a3o):a6D P w K mg base:=by
 exists z0,0,a5U,el2 λ_ _=>rfl
 exact c8 (i0 (f9 n6 (f9 u0 (f9 u7 (d6 0) (f9 c29 b6 b6)) (f9 n6 (f9 u0 b6 (d6 1)) b6)) (f9 u0 (d6 1) (d6 1))))
theorem b3X(D:Df K mg "_law_plain" a4N)(M:MoB K mg):a3L P w K mg base:=by
 exists z0,0,a7G,el1 λ_=>rfl
 ext c
 ·exact k7 (i:=1) S.nd (J1 c6)
 ext c
 ·exact k7 (i:=2) S.nd (a2v e8 a47 (a48 (d8 (J1 (a9 b6 (a9 b6 (a9 b6 c6)))) (f9 u7 (d6 0) b6))))
 ext c
 ·exact k7 (i:=3) S.nd (f9 n6 b6 (f9 u7 (f9 u7 (f9 u0 (d6 0) b6) b6) b6))
 ext c
 ·refine a1m PassesOwn.never ?_ ?_ M.z_range ?_ ?_ (B3 4) ?_
  ·exact rfl
  ·exact rfl
  ·exact a9 (f9 n6 b6 (f9 u7 (f9 u7 (f9 u0 (d6 0) b6) b6) b6)) c6
  ·exact r0 (i:=4) S.nd rfl (Or.inl rfl)
  ext c
  ·exact k7 (i:=5) S.nd e8
  ext c
  ·refine a1m PassesOwn.never ?_ ?_ M.z_range ?_ ?_ (B3 6) ?_
   ·exact rfl
   ·exact rfl
   ·exact a9 (d6 3) c6
   ·exact r0 (i:=6) S.nd rfl (Or.inl rfl)
   ext c
   ·exact k7 (i:=7) S.nd (f9 u7 (f9 u0 (d6 0) (f9 n6 (f9 n6 (f9 u0 b6 (d6 4)) (f9 u0 b6 (d6 6))) b6)) b6)
   exact c8 (k7 (i:=5) S.nd (f9 n6 (d6 5) (d8 (d6 2) (f9 u7 (d6 7) (C7 B6 rfl M.z_len (by rfl) (d6 2))))))
  exact c8 (Y1 1 (pv 1) (d6 5))
 exact c8 (i0 (p8 (a9 e8 (a9 (a1L V0 rfl M.z_tuple (by rfl) (d6 1)) c6))))
theorem b5j(D:Df K mg "_law_leaf" a6q)(M:MoB K mg)(a0o:a3L P w K mg base):a9q P w K mg base:=by
 exists z0,1,a8T,el2 λ_ _=>rfl
 ext c
 ·refine m6 (PW.pt (a7T (k9 (a1v hu) (d6 1) (J1 c6)) (a49 (k9 a7n (f9 u7 (f9 u7 (f9 u0 (d6 0) b6) b6) b6) b6)))) ?_ ?_
  ·exact c8 (i0 (p8 (a9 e8 (a9 (d8 (d6 1) (f9 u7 (f9 u7 (f9 u0 (d6 0) b6) b6) (C7 B6 rfl M.z_len (by rfl) (d6 1)))) c6))))
  exact j8
 exact c8 (i0 (j7 a0o hr (by decide) rfl (b4 d9) (a9 (d6 0) c6)))
theorem b5p(D:Df K mg "_law_step" a6s)(M:MoB K mg):a9s P w K mg base:=by
 exists z0,0,a8V,el3 λ_ _ _=>rfl
 ext c
 ·exact k7 (i:=3) S.nd (f9 u7 (f9 u7 (f9 u0 (d6 0) b6) b6) b6)
 ext c
 ·exact k7 (i:=4) S.nd (f9 n6 b6 (f9 u7 (f9 u7 (f9 u0 (d6 0) b6) b6) (d8 (J1 (a9 b6 (a9 b6 c6))) (a1L c4m rfl M.z_int (by rfl) (b7j (l6 hu) (f9 u7 (d6 0) b6) b6)))))
 ext c
 ·exact k7 (i:=5) S.nd e8
 ext c
 ·refine m6 ?_ ?_ ?_
  ·exact k9 (l6 hu) (d6 3) b6
  ·exact b9 (k7 (i:=6) S.nd (J1 (a9 e8 (a9 e8 (a9 e8 (a9 e8 (a9 e8 (a9 e8 (a9 e8 c6))))))))) (c8 (i0 (p8 (a9 e8 (a9 (d8 (d6 6) (f9 u7 (d6 0) b6)) (a9 (d6 1) c6))))))
  exact j8
 ext c
 ·exact m6 (k9 (l6 hu) (d6 3) b6) (c8 (i0 (p8 (a9 e8 (a9 (d8 (d6 5) (f9 u7 (d6 0) b6)) (a9 (d8 (d6 5) (f9 u7 (f9 b5t (d6 0) b6) b6)) (a9 (d6 1) c6))))))) j8
 ext c
 ·exact m6 (k9 (l6 hu) (d6 3) b6) (c8 (i0 (p8 (a9 e8 (a9 (d6 4) (a9 (d6 1) c6)))))) j8
 ext c
 ·exact m6 (k9 (l6 hu) (d6 3) b6) (c8 (i0 (p8 (a9 e8 (a9 (d6 4) (a9 (d6 1) c6)))))) j8
 ext c
 ·exact m6 (k9 (l6 hu) (d6 3) b6) (c8 (i0 (p8 (a9 e8 (a9 (J1 (a9 (d6 1) (a9 (d6 2) c6))) c6))))) j8
 ext c
 ·exact m6 (k9 (l6 hu) (d6 3) b6) (c8 (i0 (p8 (a9 e8 (a9 (J1 (a9 (d6 1) (a9 (d6 2) c6))) c6))))) j8
 ext c
 ·exact m6 (k9 (l6 hu) (d6 3) b6) (c8 (i0 (p8 (a9 e8 (a9 (J1 (a9 (d6 1) (a9 (p8 (a9 e8 (a9 e8 (a9 (d6 1) c6)))) c6))) c6))))) j8
 ext c
 ·exact m6 (k9 (l6 hu) (d6 3) b6) (c8 (i0 (p8 (a9 e8 (a9 (J1 (a9 (d6 1) (a9 (p8 (a9 e8 (a9 e8 (a9 (d6 1) c6)))) (a9 (d6 1) c6)))) c6))))) j8
 exact c8 (i0 (p8 (a9 e8 (a9 (a2v (f9 u0 (J1 (a9 (d6 2) (a9 (d6 1) c6))) b6) a47 (a48 (f9 n6 b6 (f9 u7 (d6 0) b6)))) c6))))
theorem b5i(D:Df K mg "_law_laid" a6p)(M:MoB K mg):a50 P w K mg base:=by
 exists z0,0,a8S,el2 λ_ _=>rfl
 ext c
 ·exact k7 (i:=2) S.nd (d8 (d6 1) b6)
 ext c
 ·refine a36 PassesOwn.never ?_ ?_ ?_ (B3 3) ?_
  ·exact rfl
  ·exact a2v (d6 1) (a48 b6) a47
  ·exact r0 (i:=3) S.nd rfl (Or.inl rfl)
  ext c
  ·refine m6 ?_ ?_ ?_
   ·exact k9 (l6 hu) (d6 0) e8
   ·ext c
    ·exact m6 (k9 (a1v hu) (d8 (d6 3) b6) (d8 (d6 2) b6)) (c8 (i0 (p8 (a9 e8 (a9 e8 c6))))) j8
    exact c8 (k7 (i:=2) S.nd (p8 (a9 (d8 (d6 2) b6) (a9 (f9 n6 (d8 (d6 2) b6) (d8 (d6 3) b6)) c6))))
   ext c
   ·exact m6 (k9 (a1v hu) (d8 (d6 3) b6) (d8 (d6 2) b6)) (c8 (i0 (p8 (a9 e8 (a9 e8 c6))))) j8
   exact c8 (k7 (i:=2) S.nd (p8 (a9 (f9 n6 (d8 (d6 2) b6) (d8 (d6 3) b6)) (a9 (d8 (d6 2) b6) c6))))
  exact c8 (m6 (k9 a4B (C7 (a9a rfl) rfl M.z_max (by rfl) (d6 2)) b6) (c8 (i0 (p8 (a9 e8 (a9 e8 c6))))) j8)
 exact c8 (J9 2 (pv 2))
theorem b5o{k:Nat}(hk0:1<=k){L4:List PV->Option d7}(D:Df K mg "_law_size" a3r)(M:MoB K mg)(a1k:a50 P w K mg base)(E3:n5 P w K mg base "_law_size" ["_law_tree","_law_known"] k L4):n5 P w K mg base "_law_size" ["_law_tree","_law_known"] (k+1) (m4 4 (a1e L4)):=by
 exists z0,k,a4V,el2 λ_ _=>rfl
 ext c
 ·exact k7 (i:=2) S.nd (d8 (d6 0) b6)
 ext c
 ·exact m6 (k9 (l6 hu) (d6 2) e8) (c8 (i0 (p8 (a9 (C7 B6 rfl M.z_len (by rfl) (d8 (d6 0) b6)) (a9 (C7 B6 rfl M.z_len (by rfl) (d8 (d8 (d6 0) b6) b6)) c6))))) j8
 ext c
 ·exact m6 (k9 (l6 hu) (d6 2) e8) (c8 (i0 (b8t 1 hu (pv 1) (d8 (d6 0) b6) (p8 (a9 e8 (a9 (d8 (d6 0) b6) c6)))))) j8
 ext c
 ·refine m6 (PW.pt (a2x (k9 (l6 hu) (d6 2) e8) (Y2 (k9 (l6 hu) (d6 2) e8)))) ?_ ?_
  ·ext c
   ·refine a9b (i:=3) (ys:=["_law_part"]) (N0:=["_law_tree","_law_known","_law_word","_law_dims","_law_bad","_law_size_here"]) ?_ (λ_ _ h=>h) ?_ ⟨by kernel_rfl,rfl,of_decide_eq_true rfl,of_decide_eq_true rfl,of_decide_eq_true rfl⟩ ?_ (λC fp pins s H=>r0 (i:=6) b1w rfl (Or.inl rfl)) (λn h=>z7 (i:=6) (Nat.le_of_eq h)) (λC fp pins s H=>R3) ?_
    ·exact S.nd
    ·exact rfl
    ·exact X9 (d8 (d6 0) b6)
    ext s
    exact j7 E3 hr (by lia) rfl (b4 (b4 d9)) (a9 (d6 6) (a9 (d6 1) c6))
   ext c
   ·refine a9b (i:=4) (ys:=["_law_size_here"]) (N0:=["_law_tree","_law_known","_law_word","_law_dims","_law_bad","0_law_size_here"]) ?_ (λ_ _ h=>h) ?_ ⟨by kernel_rfl,rfl,of_decide_eq_true rfl,of_decide_eq_true rfl,of_decide_eq_true rfl⟩ ?_ (λC fp pins s H=>r0 (i:=6) b1x rfl (Or.inl rfl)) (λn h=>z7 (i:=6) (Nat.le_of_eq h)) ?_ (λC fp pins s H=>(d6 6))
    ·exact S.nd
    ·exact rfl
    ·exact X9 (d6 3)
    ext s
    exact c4s (a6c (a59 (.inr (.inr (.inl rfl))) rfl M.z_isinstance (d8 (d6 6) b6) (a3e rfl M.z_str (by rfl) rfl)))
   exact b9 (m6 (k9 (a1v hu) (d6 4) (J1 c6)) (c8 (i0 (d8 (d6 4) b6))) j8) (c8 (a6b 3 (i0 (j7 a1k hr (by lia) rfl (b4 (b4 d9)) (a9 (d6 2) (a9 (d6 3) c6))))))
  exact j8
 ext c
 ·exact k7 (i:=5) S.nd (j7 E3 hr (by lia) rfl (b4 (b4 d9)) (a9 (d8 (d6 0) (a1l b6)) (a9 (d6 1) c6)))
 ext c
 ·exact m6 (PW.pt (a2x (a6c (a59 (.inr (.inr (.inl rfl))) rfl M.z_isinstance (d8 (d6 5) b6) (a3e rfl M.z_str (by rfl) rfl))) (Y2 (k9 (l6 hu) (d6 2) e8)))) (c8 (J9 5 (pv 5))) j8
 ext c
 ·refine m6 ?_ ?_ ?_
  ·exact k9 (l6 hu) (d6 2) e8
  ·exact b9 (m6 (k9 (b30 hu) (d8 (d6 0) b6) (J1 (a9 e8 (a9 e8 (a9 e8 (a9 e8 c6)))))) (c8 (i0 (p8 (a9 (d8 (d6 5) b6) (a9 (d8 (d6 5) b6) c6))))) j8) (c8 (J9 5 (pv 5)))
  exact j8
 ext c
 ·refine m6 ?_ ?_ ?_
  ·exact k9 (l6 hu) (d6 2) e8
  ·exact c8 (k7 (i:=5) S.nd (p8 (a9 (d8 (d6 5) b6) (a9 (f9 u0 (d8 (d6 5) b6) (d8 (d6 0) b6)) c6))))
  exact c8 (k7 (i:=5) S.nd (p8 (a9 (f9 u0 (d8 (d6 5) b6) (d8 (d6 0) b6)) (a9 (d8 (d6 5) b6) c6))))
 exact b9 (m6 (k9 a4B (C7 (a9a rfl) rfl M.z_max (by rfl) (d6 5)) b6) (c8 (i0 (p8 (a9 e8 (a9 e8 c6))))) j8) (c8 (J9 5 (pv 5)))
theorem b3N(X3:Df K mg "_law_size" a3r)(M:MoB K mg)(a1k:a50 P w K mg base):∀n:Nat,n5 P w K mg base "_law_size" ["_law_tree","_law_known"] (1+n) (a4o n):=by
 intro n
 induction n with
 |zero=>exact n0 (k:=0) X3 a4V (λ_ _ _ _ _ _=>el2 (λ_ _=>rfl)) λf cdv A outer s H E hr=>A8
 |succ n ih=>
  exact b5o P w base (Nat.le_add_right _ _) X3 M a1k ih
theorem b5q{k:Nat}(hk0:1<=k){L5:List PV->Option d7}(D:Df K mg "_law_text" a3s)(M:MoB K mg)(O8:n5 P w K mg base "_law_text" ["_law_tree"] k L5):n5 P w K mg base "_law_text" ["_law_tree"] (k+1) (m4 1 (a1f L5)):=by
 exists z0,k,a4W,el1 λ_=>rfl
 ext c
 ·exact k7 (i:=1) S.nd (d8 (d6 0) b6)
 ext c
 ·exact m6 (k9 (l6 hu) (d6 1) e8) (c8 (i0 (f9 n6 (f9 n6 e8 (a6W e8 (d8 (d6 0) b6))) e8))) j8
 ext c
 ·exact m6 (k9 (l6 hu) (d6 1) e8) (c8 (i0 (d8 (d6 0) b6))) j8
 ext c
 ·refine m6 (PW.pt (a2x (k9 (l6 hu) (d6 1) e8) (Y2 (k9 (l6 hu) (d6 1) e8)))) ?_ ?_
  ·ext j
   refine f9 n6 ?_ ?_
   ·refine f9 n6 ?_ ?_
    ·exact f9 n6 (d6 1) e8
    refine a6W ?_ ?_
    ·exact e8
    exists y0,["_law_part"],["_law_tree","_law_word"],2,b1y
    ·exact rfl
    ·exact X9 (d8 (d6 0) b6)
    ext s
    exact j7 O8 hr (by lia) rfl (b4 d9) (a9 (d6 2) c6)
   exact e8
  exact j8
 ext c
 ·refine m6 (PW.pt (a2x (k9 (l6 hu) (d6 1) e8) (Y2 (k9 (l6 hu) (d6 1) e8)))) ?_ ?_
  ·exact c8 (i0 (f9 n6 (f9 n6 (f9 n6 (f9 n6 (f9 n6 (d6 1) e8) (a1L c4o rfl M.z_str (by rfl) (d8 (d6 0) b6))) e8) (j7 O8 hr (by lia) rfl (b4 d9) (a9 (d8 (d6 0) b6) c6))) e8))
  exact j8
 ext c
 ·exact m6 (k9 (l6 hu) (d6 1) e8) (c8 (i0 (f9 n6 (f9 n6 (f9 n6 (d8 (d6 0) b6) e8) (j7 O8 hr (by lia) rfl (b4 d9) (a9 (d8 (d6 0) b6) c6))) e8))) j8
 exact c8 (i0 (f9 n6 (f9 n6 (f9 n6 (f9 n6 (f9 n6 (f9 n6 e8 (d8 (d6 0) b6)) e8) (d8 (d6 0) b6)) e8) (j7 O8 hr (by lia) rfl (b4 d9) (a9 (d8 (d6 0) b6) c6))) e8))
theorem b3O(a2N:Df K mg "_law_text" a3s)(M:MoB K mg):∀n:Nat,n5 P w K mg base "_law_text" ["_law_tree"] (1+n) (a4p n):=by
 intro n
 induction n with
 |zero=>exact n0 (k:=0) a2N a4W (λ_ _ _ _ _ _=>el1 (λ_=>rfl)) λf cdv A outer s H E hr=>A8
 |succ n ih=>
  exact b5q P w base (Nat.le_add_right _ _) a2N M ih
theorem b3V(D:Df K mg "_law_grown" a4L)(M:MoB K mg)(a2X:a9q P w K mg base)(a0o:a3L P w K mg base)(a56:a9s P w K mg base)(E3:a51 P w K mg base)(O8:b56 P w K mg base):a8o P w K mg base:=by
 exists z0,13,a7E,el4 λ_ _ _ _=>rfl
 ext c
 ·exact k7 (i:=4) S.nd (j7 a2X hr (by decide) rfl (b4 (b4 d9)) (a9 (d6 0) (a9 (d6 2) c6)))
 ext c
 ·refine m6 (PW.pt (a7T (k9 a4B (d6 3) b6) (a49 (a6c (a59 (.inr (.inr (.inl rfl))) rfl M.z_isinstance (d8 (j7 E3 hr (by decide) rfl (b4 (b4 d9)) (a9 (d6 4) (a9 (d6 1) c6))) b6) (a3e rfl M.z_str (by rfl) rfl)))))) ?_ ?_
  ·exact c8 (k7 (i:=4) S.nd (j7 a0o hr (by decide) rfl (b4 d9) (a9 (d6 0) c6)))
  exact j8
 ext c
 ·refine a1m PassesOwn.never ?_ ?_ M.z_range ?_ ?_ (B3 5) ?_
  ·exact rfl
  ·exact rfl
  ·exact a9 (f9 u7 (f9 u7 (f9 u0 (d6 0) b6) b6) b6) c6
  ·exact r0 (i:=5) S.nd rfl (Or.inl rfl)
  ext c
  ·exact k7 (i:=6) S.nd (f9 u7 (f9 u0 (d6 0) (f9 n6 (f9 u0 b6 (d6 5)) b6)) b6)
  ext c
  ·refine k7 (i:=7) ?_ ?_
   ·exact S.nd
   exact j7 a56 hr (by decide) rfl (b4 (b4 (b4 d9))) (a9 (d6 6) (a9 (d6 4) (a9 (j7 a2X hr (by decide) rfl (b4 (b4 d9)) (a9 (f9 n6 (f9 u0 (d6 6) b6) b6) (a9 (d6 2) c6))) c6)))
  ext c
  ·exact k7 (i:=8) S.nd (j7 E3 hr (by decide) rfl (b4 (b4 d9)) (a9 (d6 7) (a9 (d6 1) c6)))
  ext c
  ·exact k7 (i:=9) S.nd (b96 (c4u (a59 (.inr (.inr (.inl rfl))) rfl M.z_isinstance (d8 (d6 8) b6) (a3e rfl M.z_str (by rfl) rfl))) (c0a (b7j c27 (C7 (a9a rfl) rfl M.z_max (by rfl) (d6 8)) (d6 3))))
  refine c8 ?_;refine m6 (PW.pt (a7T (PW.pt (a2x (a6c (d6 9)) (Y2 (k9 (l6 hu) (d6 3) b6)))) (a49 (k9 a7n (C7 B6 rfl M.z_len (by rfl) (j7 O8 hr (by decide) rfl (b4 d9) (a9 (d6 7) c6))) b6)))) ?_ ?_
  ·exact c8 (k7 (i:=4) S.nd (d6 7))
  exact j8
 exact c8 (J9 4 (pv 4))
theorem b0r(D:Df K mg "_law_cell_at" a2h)(M:MoB K mg):a1Y P w K mg base:=by
 exists z0,0,a4Q,el2 λ_ _=>rfl
 exact b9 (m6 (k9 a7n (d6 1) (C7 B6 rfl M.z_len (by rfl) (d6 0))) (c8 (i0 (d8 (d6 0) (d6 1)))) j8) (c8 (i0 b6))
theorem b3W(D:Df K mg "_law_names" a4M):a8p P w K mg base:=by
 exists z0,0,a7F,el0 rfl
 exact c8 (i0 (J1 (a9 e8 (a9 e8 (a9 e8 (a9 e8 (a9 e8 c6)))))))
theorem a7m(D:Df K mg "_law_again_fits" Z4)(M:MoB K mg)(E3:a51 P w K mg base):a2q P w K mg base:=by
 exists z0,13,a1W,el5 λ_ _ _ _ _=>rfl
 ext c
 ·exact k7 (i:=5) S.nd (a1L b91 rfl M.z_dict (by rfl) (d6 3))
 ext c
 ·refine a1m PassesOwn.never ?_ ?_ M.z_range ?_ ?_ (B3 6) ?_
  ·exact rfl
  ·exact rfl
  ·exact a9 (d6 2) c6
  ·exact r0 (i:=6) S.nd rfl (Or.inl rfl)
  ext c
  ·exact k7 (i:=7) S.nd (a9R 5 E3 hr (by decide) rfl (d6 0) (pv 5))
  ext c
  ·exact m6 (PW.pt (a2x (a6c (a59 (.inr (.inr (.inl rfl))) rfl M.z_isinstance (d8 (d6 7) b6) (a3e rfl M.z_str (by rfl) rfl))) (Y2 (k9 a4B (C7 (a9a rfl) rfl M.z_max (by rfl) (d6 7)) (d6 4))))) (c8 (i0 b6f)) j8
  exact c8 (a9c 5 hu (pv 5) (d6 1) (d6 7))
 exact c8 (J9 5 (pv 5))
theorem b0s(D:Df K mg "_law_program" a2i)(M:MoB K mg)(a0U:a6D P w K mg base)(a1J:a8o P w K mg base)(R7:a1Y P w K mg base)(a33:a8p P w K mg base)(X7:a2q P w K mg base)(E3:a51 P w K mg base):a5x P w K mg base:=by
 exists z0,14,a4T,el3 λ_ _ _=>rfl
 ext c
 ·exact k7 (i:=3) S.nd b6g
 ext c
 ·exact k7 (i:=4) S.nd (J1 c6)
 ext c
 ·refine c0d PassesOwn.never ?_ ?_ M.z_range ?_ ?_ (B3 5) ?_
  ·exact rfl
  ·exact rfl
  ·exact a9 b6 (a9 (c5T (c4n rfl) rfl M.z_min (by rfl) (C7 B6 rfl M.z_len (by rfl) (d6 0)) (d6 1)) c6)
  ·exact r0 (i:=5) S.nd rfl (Or.inl rfl)
  ext c
  ·exact k7 (i:=6) S.nd (j7 a0U hr (by decide) rfl (b4 (b4 d9)) (a9 (d8 (d6 0) (d6 5)) (a9 (d6 5) c6)))
  ext c
  ·exact k7 (i:=7) S.nd (d8 (c2r a33 hr (by decide) rfl) (f9 u7 (f9 u7 (f9 u0 (d6 6) b6) b6) b6))
  ext c
  ·exact k7 (i:=8) S.nd (a6X 3 (j7 a1J hr (by decide) rfl (b4 (b4 (b4 (b4 d9)))) (a9 (d6 6) (a9 (d6 3) (a9 (a1L (b4G rfl) rfl M.z_list (by rfl) (d6 3)) (a9 (d6 2) c6))))))
  ext c
  ·exact k7 (i:=9) S.nd (f9 n6 b6 (f9 u7 (f9 u7 (f9 u0 (d6 6) b6) b6) b6))
  ext c
  ·exact k7 (i:=10) S.nd b6f
  ext c
  ·refine m6 (PW.pt (a7T (k9 (l6 hu) (f9 u7 (d6 6) b6) b6) (a49 (c4y 3 hu (pv 3) (d6 7) (by first|rfl|exact nomark _))))) ?_ ?_
   ·exact c8 (k7 (i:=10) S.nd (a6X 3 (j7 X7 hr (by decide) rfl (b4 (b4 (b4 (b4 (b4 d9))))) (a9 (d6 8) (a9 (d6 7) (a9 (d6 9) (a9 (d6 3) (a9 (d6 2) c6))))))))
   exact j8
  refine c8 ?_;refine m6 ?_ ?_ ?_
  ·exact k9 c25 (d6 10) b6f
  ·exact b9 (Y1 4 (pv 4) (p8 (a9 e8 (a9 (d6 7) (a9 (d6 8) c6))))) (c8 (a9c 3 hu (pv 3) (d6 7) (a9R 3 E3 hr (by decide) rfl (d6 8) (pv 3))))
  exact b9 (Y1 4 (pv 4) (p8 (a9 e8 (a9 (d6 9) (a9 (d6 7) (a9 (d6 8) c6)))))) (c8 (c2v (i:=3) (j:=10) S.nd (by decide) (pv 10)))
 ext c
 ·exact k7 (i:=6) S.nd (j7 a0U hr (by decide) rfl (b4 (b4 d9)) (a9 (j7 R7 hr (by decide) rfl (b4 (b4 d9)) (a9 (d6 0) (a9 b6 c6))) (a9 b6 c6)))
 ext j
 refine f9 n6 (d6 4) ?_;exact J1 (a9 (p8 (a9 e8 (a9 (a6X 3 (j7 a1J hr (by decide) rfl (b4 (b4 (b4 (b4 d9)))) (a9 (d6 6) (a9 (d6 3) (a9 (a1L (b4G rfl) rfl M.z_list (by rfl) (d6 3)) (a9 (d6 2) c6)))))) c6))) c6)
theorem b5k{k:Nat}(hk0:2<=k){C0:List PV->Option d7}(D:Df K mg "_law_made" a3n)(M:MoB K mg)(I:Io P w K mg base)(I0:n5 P w K mg base "_law_made" ["_law_tree"] k C0):n5 P w K mg base "_law_made" ["_law_tree"] (k+1) (m4 1 (a1c C0)):=by
 exists z0,k,a4R,el1 λ_=>rfl
 ext c
 ·exact k7 (i:=1) S.nd (d8 (d6 0) b6)
 ext c
 ·exact m6 (k9 (l6 hu) (d6 1) e8) (c8 (i0 (a35 I.i_Plain hr (by lia) rfl (b4 d9) (a9 (d8 (d6 0) b6) c6)))) j8
 ext c
 ·exact m6 (k9 (l6 hu) (d6 1) e8) (c8 (i0 (a35 I.i_Named hr (by lia) rfl (b4 d9) (a9 (d8 (d6 0) b6) c6)))) j8
 ext c
 ·refine m6 ?_ ?_ ?_
  ·exact k9 (l6 hu) (d6 1) e8
  ·ext j
   refine a35 I.i_Beside hr ?_ ?_ ?_ ?_
   ·lia
   ·exact rfl
   ·exact b4 d9
   refine a9 ?_ ?_
   ·refine a1L V0 ?_ M.z_tuple ?_ ?_
    ·exact rfl
    ·rfl
    exists y0,["_law_part"],["_law_tree","_law_word"],2,b1r
    ·exact rfl
    ·exact X9 (d8 (d6 0) b6)
    ext s
    exact j7 I0 hr (by lia) rfl (b4 d9) (a9 (d6 2) c6)
   exact c6
  exact j8
 ext c
 ·refine m6 ?_ ?_ ?_
  ·exact k9 (l6 hu) (d6 1) e8
  ·ext j
   refine a35 I.i_Above hr ?_ ?_ ?_ ?_
   ·lia
   ·exact rfl
   ·exact b4 d9
   refine a9 ?_ ?_
   ·refine a1L V0 ?_ M.z_tuple ?_ ?_
    ·exact rfl
    ·rfl
    exists y0,["_law_part"],["_law_tree","_law_word"],2,b1s
    ·exact rfl
    ·exact X9 (d8 (d6 0) b6)
    ext s
    exact j7 I0 hr (by lia) rfl (b4 d9) (a9 (d6 2) c6)
   exact c6
  exact j8
 ext c
 ·exact m6 (k9 (l6 hu) (d6 1) e8) (c8 (i0 (a35 I.i_Across hr (by lia) rfl (b4 (b4 d9)) (a9 (d8 (d6 0) b6) (a9 (j7 I0 hr (by lia) rfl (b4 d9) (a9 (d8 (d6 0) b6) c6)) c6))))) j8
 ext c
 ·exact m6 (k9 (l6 hu) (d6 1) e8) (c8 (i0 (a35 I.i_Down hr (by lia) rfl (b4 (b4 d9)) (a9 (d8 (d6 0) b6) (a9 (j7 I0 hr (by lia) rfl (b4 d9) (a9 (d8 (d6 0) b6) c6)) c6))))) j8
 ext c
 ·exact m6 (k9 (l6 hu) (d6 1) e8) (c8 (i0 (a35 I.i_Turned hr (by lia) rfl (b4 (b4 d9)) (a9 (d8 (d6 0) b6) (a9 (j7 I0 hr (by lia) rfl (b4 d9) (a9 (d8 (d6 0) b6) c6)) c6))))) j8
 exact c8 (i0 (a35 I.i_Dyed hr (by lia) rfl (b4 (b4 (b4 d9))) (a9 (d8 (d6 0) b6) (a9 (d8 (d6 0) b6) (a9 (j7 I0 hr (by lia) rfl (b4 d9) (a9 (d8 (d6 0) b6) c6)) c6)))))
theorem b3K(a2K:Df K mg "_law_made" a3n)(M:MoB K mg)(I:Io P w K mg base):∀n:Nat,n5 P w K mg base "_law_made" ["_law_tree"] (2+n) (a4m n):=by
 intro n
 induction n with
 |zero=>exact n0 (k:=1) a2K a4R (λ_ _ _ _ _ _=>el1 (λ_=>rfl)) λf cdv A outer s H E hr=>A8
 |succ n ih=>
  exact b5k P w base (Nat.le_add_right _ _) a2K M I ih
theorem b3T(D:Df K mg "_law_built" a4J)(I0:b53 P w K mg base):a8m P w K mg base:=by
 exists z0,14,a7C,el1 λ_=>rfl
 ext c
 ·exact k7 (i:=1) S.nd (J1 c6)
 ext c
 ·refine a36 PassesOwn.never ?_ (d6 0) ?_ (B3 2) ?_
  ·exact rfl
  ·exact r0 (i:=2) S.nd rfl (Or.inl rfl)
  exact c8 (Y1 1 (pv 1) (f9 n6 (a2v (d6 2) a47 (a48 (a1l b6))) (p8 (a9 (j7 I0 hr (by decide) rfl (b4 d9) (a9 (d8 (d6 2) (a1l b6)) c6)) c6))))
 exact c8 (J9 1 (pv 1))
theorem b5r(D:Df K mg "times_of" a6t):a9t P w K mg base:=by
 exists z0,0,a8W,el1 λ_=>rfl
 exact b9 (m6 (k9 (l6 hu) (d8 (d6 0) b6) e8) (c8 (i0 (d8 (d6 0) b6))) j8) (c8 (i0 b6))
theorem b6L(D:Df K mg "size_of" a8f)(M:MoB K mg):b12 P w K mg base:=by
 exists z0,0,b0G,el1 λ_=>rfl
 exact c8 (i0 (p8 (a9 (C7 B6 rfl M.z_len (by rfl) (d6 0)) (a9 (C7 B6 rfl M.z_len (by rfl) (d8 (d6 0) b6)) c6))))
theorem b1H(D:Dm K "size" "Plain.size" a3i a.f_Plain_size)(O:Oc K mg a)(a7Q:b12 P w K mg base):G5 P w K mg base a:=by
 exists z1,1,a5O,el3 λ_ _ _=>rfl
 exact c8 (i0 (j7 a7Q hr (by decide) rfl (b4 d9) (a9 (C8 O.fld_rows (d6 0)) c6)))
theorem b1G(D:Dm K "size" "Named.size" a3h a.f_Named_size)(O:Oc K mg a):G4 P w K mg base a:=by
 exists z1,0,a5N,el3 λ_ _ _=>rfl
 exact b9 (m6 (b6k 1 hu (pv 1) (C8 O.fld_name (d6 0)) (by first|rfl|exact nomark _)) (c8 a0p) j8) (c8 (i0 (a9S 1 hu (pv 1) (C8 O.fld_name (d6 0)))))
theorem a84(D:Df K mg "checked_size" a1w){u_LONGEST:AA}{n_LONGEST:Nat}(m_LONGEST:mg "LONGEST"=ξ u_LONGEST)(c_LONGEST:a3E K n_LONGEST u_LONGEST=ξ E1):K2 P w K mg base:=by
 exists z0,0,a3B,el3 λ_ _ _=>rfl
 exact b9 (m6 (PW.pt (a2x (k9 a4B (d6 0) (a6V rfl m_LONGEST c_LONGEST)) (Y2 (k9 a4B (d6 1) (a6V rfl m_LONGEST c_LONGEST))))) (c8 a0p) j8) (c8 (i0 (p8 (a9 (d6 0) (a9 (d6 1) c6)))))
theorem b1P(D:Df K mg "size_above" Q7)(v7:K2 P w K mg base):a0T P w K mg base:=by
 exists z0,1,a5V,el3 λ_ _ _=>rfl
 ext c
 ·exact m6 (k9 (a1v hu) (d8 (d6 0) b6) (d8 (d6 1) b6)) (c8 a0p) j8
 exact c8 (i0 (j7 v7 hr (by decide) rfl (b4 (b4 (b4 d9))) (a9 (f9 n6 (d8 (d6 0) b6) (d8 (d6 1) b6)) (a9 (d8 (d6 0) b6) (a9 (d6 2) c6)))))
theorem b0t(D:Df K mg "size_beside" M7)(v7:K2 P w K mg base):a0a P w K mg base:=by
 exists z0,1,a4X,el3 λ_ _ _=>rfl
 ext c
 ·exact m6 (k9 (a1v hu) (d8 (d6 0) b6) (d8 (d6 1) b6)) (c8 a0p) j8
 exact c8 (i0 (j7 v7 hr (by decide) rfl (b4 (b4 (b4 d9))) (a9 (d8 (d6 0) b6) (a9 (f9 n6 (d8 (d6 0) b6) (d8 (d6 1) b6)) (a9 (d6 2) c6)))))
theorem b1D{k:Nat}(hk0:2<=k){i9 i4 i5 j3 j4 i6 R_size_of_laid:List PV->Option d7}(D:Dm K "size" "Above.size" a00 a.f_Above_size)(O:Oc K mg a){R9:AB}(D7:FnV K mg "size_above" R9)(L6:a0T P w K mg base)(g:G3 P w K mg base a k i9 i4 i5 j3 j4 i6 R_size_of_laid):A5 P w K mg base a.f_Above_size ["self","known","row"] (k+1) (m4 0 (a6I i9 i4 i5 j3 j4 i6 R_size_of_laid)):=by
 exists z1,k,a2j,el3 λ_ _ _=>rfl
 exact c8 (i0 (j7 g.d_size_of_laid hr (by lia) rfl (b4 (b4 (b4 (b4 d9)))) (a9 (C8 O.fld_parts (d6 0)) (a9 (d6 1) (a9 (d6 2) (a9 (b2d D7) c6))))))
theorem b0m{k:Nat}(hk0:2<=k){i9 i4 i5 j3 j4 i6 R_size_of_laid:List PV->Option d7}(D:Dm K "size" "Across.size" a0l a.f_Across_size)(O:Oc K mg a)(v7:K2 P w K mg base)(o8:G5 P w K mg base a)(o0:G4 P w K mg base a)(g:G3 P w K mg base a k i9 i4 i5 j3 j4 i6 R_size_of_laid):A5 P w K mg base a.f_Across_size ["self","known","row"] (k+1) (m4 1 (a0b i9 i4 i5 j3 j4 i6 R_size_of_laid)):=by
 exists z1,k,a1z,el3 λ_ _ _=>rfl
 ext c
 ·refine k7 (i:=3) ?_ ?_
  ·exact S.nd
  ext b
  ·exact C8 O.fld_part (d6 0)
  ·exact b4 (b4 d9)
  exact a9 (d6 1) (a9 (d6 2) c6)
 exact c8 (i0 (j7 v7 hr (by lia) rfl (b4 (b4 (b4 d9))) (a9 (d8 (d6 3) b6) (a9 (f9 u0 (d8 (d6 3) b6) (C8 O.fld_many (d6 0))) (a9 (d6 2) c6)))))
theorem b0n{k:Nat}(hk0:2<=k){i9 i4 i5 j3 j4 i6 R_size_of_laid:List PV->Option d7}(D:Dm K "size" "Beside.size" a0m a.f_Beside_size)(O:Oc K mg a){O9:AB}(C3:FnV K mg "size_beside" O9)(J0:a0a P w K mg base)(g:G3 P w K mg base a k i9 i4 i5 j3 j4 i6 R_size_of_laid):A5 P w K mg base a.f_Beside_size ["self","known","row"] (k+1) (m4 0 (a5B i9 i4 i5 j3 j4 i6 R_size_of_laid)):=by
 exists z1,k,a1A,el3 λ_ _ _=>rfl
 exact c8 (i0 (j7 g.d_size_of_laid hr (by lia) rfl (b4 (b4 (b4 (b4 d9)))) (a9 (C8 O.fld_parts (d6 0)) (a9 (d6 1) (a9 (d6 2) (a9 (b2d C3) c6))))))
theorem b3P{k:Nat}(hk0:2<=k){i9 i4 i5 j3 j4 i6 R_size_of_laid:List PV->Option d7}(D:Dm K "size" "Down.size" a1T a.f_Down_size)(O:Oc K mg a)(v7:K2 P w K mg base)(o8:G5 P w K mg base a)(o0:G4 P w K mg base a)(g:G3 P w K mg base a k i9 i4 i5 j3 j4 i6 R_size_of_laid):A5 P w K mg base a.f_Down_size ["self","known","row"] (k+1) (m4 1 (a1I i9 i4 i5 j3 j4 i6 R_size_of_laid)):=by
 exists z1,k,a3t,el3 λ_ _ _=>rfl
 ext c
 ·refine k7 (i:=3) ?_ ?_
  ·exact S.nd
  ext b
  ·exact C8 O.fld_part (d6 0)
  ·exact b4 (b4 d9)
  exact a9 (d6 1) (a9 (d6 2) c6)
 exact c8 (i0 (j7 v7 hr (by lia) rfl (b4 (b4 (b4 d9))) (a9 (f9 u0 (d8 (d6 3) b6) (C8 O.fld_many (d6 0))) (a9 (d8 (d6 3) b6) (a9 (d6 2) c6)))))
theorem b3Q{k:Nat}(hk0:2<=k){i9 i4 i5 j3 j4 i6 R_size_of_laid:List PV->Option d7}(D:Dm K "size" "Dyed.size" a1U a.f_Dyed_size)(O:Oc K mg a)(o8:G5 P w K mg base a)(o0:G4 P w K mg base a)(g:G3 P w K mg base a k i9 i4 i5 j3 j4 i6 R_size_of_laid):A5 P w K mg base a.f_Dyed_size ["self","known","row"] (k+1) (m4 0 (a8r i9 i4 i5 j3 j4 i6 R_size_of_laid)):=by
 exists z1,k,a3u,el3 λ_ _ _=>rfl
 ext j
 ext b
 ·exact C8 O.fld_part (d6 0)
 ·exact b4 (b4 d9)
 exact a9 (d6 1) (a9 (d6 2) c6)
theorem b0q{k:Nat}(hk0:2<=k){i9 i4 i5 j3 j4 i6 R_size_of_laid:List PV->Option d7}(D:Dm K "size" "Turned.size" a0n a.f_Turned_size)(O:Oc K mg a){u_LYING_WAYS:AA}{n_LYING_WAYS:Nat}(m_LYING_WAYS:mg "LYING_WAYS"=ξ u_LYING_WAYS)(c_LYING_WAYS:a3E K n_LYING_WAYS u_LYING_WAYS=ξ Q9)(o8:G5 P w K mg base a)(o0:G4 P w K mg base a)(g:G3 P w K mg base a k i9 i4 i5 j3 j4 i6 R_size_of_laid):A5 P w K mg base a.f_Turned_size ["self","known","row"] (k+1) (m4 1 (a0c i9 i4 i5 j3 j4 i6 R_size_of_laid)):=by
 exists z1,k,a1B,el3 λ_ _ _=>rfl
 ext c
 ·refine k7 (i:=3) ?_ ?_
  ·exact S.nd
  ext b
  ·exact C8 O.fld_part (d6 0)
  ·exact b4 (b4 d9)
  exact a9 (d6 1) (a9 (d6 2) c6)
 exact b9 (m6 (k9 (b30 hu) (C8 O.fld_way (d6 0)) (a6V rfl m_LYING_WAYS c_LYING_WAYS)) (c8 (i0 (p8 (a9 (d8 (d6 3) b6) (a9 (d8 (d6 3) b6) c6))))) j8) (c8 (J9 3 (pv 3)))
theorem a86{k:Nat}(hk0:2<=k){i9 i4 i5 j3 j4 i6 R_size_of_laid:List PV->Option d7}(D:Df K mg "size_of_laid" X0)(O:Oc K mg a){R9:AB}(D7:FnV K mg "size_above" R9){O9:AB}(C3:FnV K mg "size_beside" O9)(o8:G5 P w K mg base a)(o0:G4 P w K mg base a)(J0:a0a P w K mg base)(L6:a0T P w K mg base)(g:G3 P w K mg base a k i9 i4 i5 j3 j4 i6 R_size_of_laid):n5 P w K mg base "size_of_laid" ["parts","known","row","lay"] (k+1) (m4 3 (O5 i9 i4 i5 j3 j4 i6 R_size_of_laid)):=by
 exists z0,k,a0I,el4 λ_ _ _ _=>rfl
 ext c
 ·refine a9b (i:=4) (ys:=["part"]) (N0:=["parts","known","row","lay","found","come","size"]) ?_ (λ_ _ h=>h) ?_ ⟨by kernel_rfl,rfl,of_decide_eq_true rfl,of_decide_eq_true rfl,of_decide_eq_true rfl⟩ ?_ (λC fp pins s H=>r0 (i:=7) a7j rfl (Or.inl rfl)) (λn h=>z7 (i:=7) (Nat.le_of_eq h)) (λC fp pins s H=>R3) ?_
  ·exact S.nd
  ·exact rfl
  ·exact X9 (d6 0)
  ext s
  refine P9 (b5 o8 O.kc_Plain O.fi_Plain_size (by lia) rfl (b5 o0 O.kc_Named O.fi_Named_size (by lia) rfl (b5 g.d_Beside_size O.kc_Beside O.fi_Beside_size (by lia) rfl (b5 g.d_Above_size O.kc_Above O.fi_Above_size (by lia) rfl (b5 g.d_Across_size O.kc_Across O.fi_Across_size (by lia) rfl (b5 g.d_Down_size O.kc_Down O.fi_Down_size (by lia) rfl (b5 g.d_Turned_size O.kc_Turned O.fi_Turned_size (by lia) rfl (b5 g.d_Dyed_size O.kc_Dyed O.fi_Dyed_size (by lia) rfl B0)))))))) hr (d6 7) ?_ ?_
  ·exact b4 (b4 d9)
  exact a9 (d6 1) (a9 (d6 2) c6)
 ext c
 ·exact k7 (i:=5) S.nd (d8 (d6 4) b6)
 ext c
 ·refine a36 PassesOwn.never ?_ ?_ ?_ (B3 6) ?_
  ·exact rfl
  ·exact a2v (d6 4) (a48 b6) a47
  ·exact r0 (i:=6) S.nd rfl (Or.inl rfl)
  exact c8 (k7 (i:=5) S.nd (a9Q 3 (Y3 J0 C3 (by lia) rfl (Y3 L6 D7 (by lia) rfl a7V)) hr (pv 3) (b4 (b4 (b4 d9))) (a9 (d6 5) (a9 (d6 6) (a9 (d6 2) c6)))))
 exact c8 (J9 5 (pv 5))
theorem b0k(a0O:Dm K "size" "Above.size" a00 a.f_Above_size)(Z7:Dm K "size" "Across.size" a0l a.f_Across_size)(Z8:Dm K "size" "Beside.size" a0m a.f_Beside_size)(a1F:Dm K "size" "Down.size" a1T a.f_Down_size)(a1G:Dm K "size" "Dyed.size" a1U a.f_Dyed_size)(Z9:Dm K "size" "Turned.size" a0n a.f_Turned_size)(D_size_of_laid:Df K mg "size_of_laid" X0)(O:Oc K mg a){R9:AB}(D7:FnV K mg "size_above" R9){O9:AB}(C3:FnV K mg "size_beside" O9){u_LYING_WAYS:AA}{n_LYING_WAYS:Nat}(m_LYING_WAYS:mg "LYING_WAYS"=ξ u_LYING_WAYS)(c_LYING_WAYS:a3E K n_LYING_WAYS u_LYING_WAYS=ξ Q9)(L6:a0T P w K mg base)(v7:K2 P w K mg base)(o8:G5 P w K mg base a)(o0:G4 P w K mg base a)(J0:a0a P w K mg base):∀n:Nat,G3 P w K mg base a (2+n) (a14 n) (a1q n) (a1r n) (a26 n) (a27 n) (a1s n) (a0E n):=by
 intro n
 induction n with
 |zero=>exact⟨y0 (k:=1) a0O a2j (λ_ _ _ _ _ _=>el3 (λ_ _ _=>rfl)) λcdv A outer s H E hr=>A8,y0 (k:=1) Z7 a1z (λ_ _ _ _ _ _=>el3 (λ_ _ _=>rfl)) λcdv A outer s H E hr=>A8,y0 (k:=1) Z8 a1A (λ_ _ _ _ _ _=>el3 (λ_ _ _=>rfl)) λcdv A outer s H E hr=>A8,y0 (k:=1) a1F a3t (λ_ _ _ _ _ _=>el3 (λ_ _ _=>rfl)) λcdv A outer s H E hr=>A8,y0 (k:=1) a1G a3u (λ_ _ _ _ _ _=>el3 (λ_ _ _=>rfl)) λcdv A outer s H E hr=>A8,y0 (k:=1) Z9 a1B (λ_ _ _ _ _ _=>el3 (λ_ _ _=>rfl)) λcdv A outer s H E hr=>A8,n0 (k:=1) D_size_of_laid a0I (λ_ _ _ _ _ _=>el4 (λ_ _ _ _=>rfl)) λf cdv A outer s H E hr=>A8⟩
 |succ n ih=>
  exact⟨b1D P w base a (Nat.le_add_right _ _) a0O O D7 L6 ih,b0m P w base a (Nat.le_add_right _ _) Z7 O v7 o8 o0 ih,b0n P w base a (Nat.le_add_right _ _) Z8 O C3 J0 ih,b3P P w base a (Nat.le_add_right _ _) a1F O v7 o8 o0 ih,b3Q P w base a (Nat.le_add_right _ _) a1G O o8 o0 ih,b0q P w base a (Nat.le_add_right _ _) Z9 O m_LYING_WAYS c_LYING_WAYS o8 o0 ih,a86 P w base a (Nat.le_add_right _ _) D_size_of_laid O D7 C3 o8 o0 J0 L6 ih⟩
theorem b3Y(D:Df K mg "size_step" U2)(O:Oc K mg a)(o8:G5 P w K mg base a)(o0:G4 P w K mg base a)(d_Beside_size:b0Y P w K mg base a)(d_Above_size:b20 P w K mg base a)(d_Across_size:b0X P w K mg base a)(d_Down_size:b4o P w K mg base a)(d_Turned_size:b0Z P w K mg base a)(d_Dyed_size:b4p P w K mg base a):a3M P w K mg base:=by
 exists z0,22,a7H,el3 λ_ _ _=>rfl
 ext j
 refine P9 (b5 o8 O.kc_Plain O.fi_Plain_size (by decide) rfl (b5 o0 O.kc_Named O.fi_Named_size (by decide) rfl (b5 d_Beside_size O.kc_Beside O.fi_Beside_size (by decide) rfl (b5 d_Above_size O.kc_Above O.fi_Above_size (by decide) rfl (b5 d_Across_size O.kc_Across O.fi_Across_size (by decide) rfl (b5 d_Down_size O.kc_Down O.fi_Down_size (by decide) rfl (b5 d_Turned_size O.kc_Turned O.fi_Turned_size (by decide) rfl (b5 d_Dyed_size O.kc_Dyed O.fi_Dyed_size (by decide) rfl B0)))))))) hr (d6 0) ?_ ?_
 ·exact b4 (b4 d9)
 exact a9 (d6 1) (a9 (d6 2) c6)
theorem b0p(D:Dm K "cloth" "Plain.cloth" a2g a.f_Plain_cloth)(O:Oc K mg a):D6 P w K mg base a:=by
 exists z1,0,a4P,el2 λ_ _=>rfl
 exact c8 (i0 (C8 O.fld_rows (d6 0)))
theorem b0o(D:Dm K "cloth" "Named.cloth" a2f a.f_Named_cloth)(O:Oc K mg a):D5 P w K mg base a:=by
 exists z1,0,a4O,el2 λ_ _=>rfl
 exact c8 (i0 (a9S 1 hu (pv 1) (C8 O.fld_name (d6 0))))
theorem b1J(D:Df K mg "check_size" a3k){u_LONGEST:AA}{n_LONGEST:Nat}(m_LONGEST:mg "LONGEST"=ξ u_LONGEST)(c_LONGEST:a3E K n_LONGEST u_LONGEST=ξ E1):U8 P w K mg base:=by
 exists z0,0,a5Q,el2 λ_ _=>rfl
 exact c8 (m6 (PW.pt (a2x (k9 a4B (d6 0) (a6V rfl m_LONGEST c_LONGEST)) (Y2 (k9 a4B (d6 1) (a6V rfl m_LONGEST c_LONGEST))))) (c8 a0p) j8)
theorem c1c(D:Df K mg "above" a5h)(M:MoB K mg)(D3:U8 P w K mg base):a89 P w K mg base:=by
 exists z0,1,b5I,el2 λ_ _=>rfl
 ext c
 ·exact m6 (k9 (a1v hu) (C7 B6 rfl M.z_len (by rfl) (d8 (d6 0) b6)) (C7 B6 rfl M.z_len (by rfl) (d8 (d6 1) b6))) (c8 a0p) j8
 ext c
 ·exact a6Y (j7 D3 hr (by decide) rfl (b4 (b4 d9)) (a9 (f9 n6 (C7 B6 rfl M.z_len (by rfl) (d6 0)) (C7 B6 rfl M.z_len (by rfl) (d6 1))) (a9 (C7 B6 rfl M.z_len (by rfl) (d8 (d6 0) b6)) c6)))
 exact c8 (i0 (f9 n6 (d6 0) (d6 1)))
theorem b87(D:Df K mg "across" b0C)(M:MoB K mg)(D3:U8 P w K mg base):a9o P w K mg base:=by
 exists z0,1,b2J,el2 λ_ _=>rfl
 ext c
 ·exact a6Y (j7 D3 hr (by decide) rfl (b4 (b4 d9)) (a9 (C7 B6 rfl M.z_len (by rfl) (d6 0)) (a9 (f9 u0 (C7 B6 rfl M.z_len (by rfl) (d8 (d6 0) b6)) (d6 1)) c6)))
 ext j
 refine a1L V0 ?_ M.z_tuple ?_ ?_
 ·exact rfl
 ·rfl
 exists y0,["row"],["cloth","many"],2,b5b
 ·exact rfl
 ·exact X9 (d6 0)
 ext s
 exact f9 u0 (d6 2) (d6 1)
theorem c21(D:Df K mg "down" b6W)(M:MoB K mg)(D3:U8 P w K mg base):b52 P w K mg base:=by
 exists z0,1,b7U,el2 λ_ _=>rfl
 exact b9 (a6Y (j7 D3 hr (by decide) rfl (b4 (b4 d9)) (a9 (f9 b5u (C7 B6 rfl M.z_len (by rfl) (d6 0)) (d6 1)) (a9 (C7 B6 rfl M.z_len (by rfl) (d8 (d6 0) b6)) c6)))) (c8 (i0 (f9 b5u (d6 0) (d6 1))))
theorem b1L(D:Df K mg "from_below" a3l)(M:MoB K mg):a6B P w K mg base:=by
 exists z0,0,a5S,el1 λ_=>rfl
 exact c8 (i0 (b8u rfl rfl M.z_tuple rfl M.z_reversed (d6 0)))
theorem b89(D:Df K mg "column" b0D):b4q P w K mg base:=by
 exists z0,0,b2L,el2 λ_ _=>rfl
 ext j
 refine a6W ?_ ?_
 ·exact e8
 exists y0,["row"],["cloth","c"],2,b5c
 ·exact rfl
 ·exact X9 (d6 0)
 ext s
 exact d8 (d6 2) (d6 1)
theorem b1I(D:Df K mg "by_columns" a3j)(M:MoB K mg)(a9I:b4q P w K mg base):a6A P w K mg base:=by
 exists z0,1,a5P,el1 λ_=>rfl
 ext j
 refine a1L V0 ?_ M.z_tuple ?_ ?_
 ·exact rfl
 ·rfl
 exists y0,["c"],["cloth"],1,a8Z
 ·exact rfl
 ·exact b7k rfl M.z_range (a9 (C7 B6 rfl M.z_len (by rfl) (d8 (d6 0) b6)) c6)
 ext s
 exact j7 a9I hr (by decide) rfl (b4 (b4 d9)) (a9 (d6 0) (a9 (d6 1) c6))
theorem a7l(D:Df K mg "from_the_right" Z3)(M:MoB K mg):a2p P w K mg base:=by
 exists z0,0,a1V,el1 λ_=>rfl
 ext j
 refine a1L V0 ?_ M.z_tuple ?_ ?_
 ·exact rfl
 ·rfl
 exists y0,["row"],["cloth"],1,a5q
 ·exact rfl
 ·exact X9 (d6 0)
 ext s
 exact b6e rfl rfl M.z_reversed e8 (d6 1)
theorem b6M(D:Df K mg "stepped" a8g)(a2V:a6B P w K mg base)(a2U:a6A P w K mg base)(X6:a2p P w K mg base):b13 P w K mg base:=by
 exists z0,2,b0H,el2 λ_ _=>rfl
 ext c
 ·exact m6 (k9 (l6 hu) (d6 1) e8) (c8 (i0 (j7 a2U hr (by decide) rfl (b4 d9) (a9 (d6 0) c6)))) j8
 exact b9 (m6 (k9 (l6 hu) (d6 1) e8) (c8 (i0 (j7 X6 hr (by decide) rfl (b4 d9) (a9 (d6 0) c6)))) j8) (c8 (i0 (j7 a2V hr (by decide) rfl (b4 d9) (a9 (d6 0) c6))))
theorem b9a(D:Df K mg "turned" b0E){a_STEPS:AB}(m_STEPS:mg "STEPS"=ξ (.ref a_STEPS))(t_STEPS:Tab P w K a_STEPS a5l)(a7R:b13 P w K mg base):a9u P w K mg base:=by
 exists z0,3,b2M,el2 λ_ _=>rfl
 ext c
 ·exact k7 (i:=2) S.nd (d6 0)
 ext c
 ·exact a36 PassesOwn.never rfl (c4v t_STEPS rfl m_STEPS (d6 1)) (r0 (i:=3) S.nd rfl (Or.inl rfl)) (B3 3) (c8 (k7 (i:=2) S.nd (j7 a7R hr (by decide) rfl (b4 (b4 d9)) (a9 (d6 2) (a9 (d6 3) c6)))))
 exact c8 (J9 2 (pv 2))
theorem b3R(D:Df K mg "exchanged" a4H):a8k P w K mg base:=by
 exists z0,0,a7A,el3 λ_ _ _=>rfl
 exact b9 (m6 (k9 (l6 hu) (d6 0) (d6 1)) (c8 (J9 2 (pv 2))) j8) (b9 (m6 (k9 (l6 hu) (d6 0) (d6 2)) (c8 (J9 1 (pv 1))) j8) (c8 (J9 0 (pv 0))))
theorem b5f(D:Df K mg "dyed_row" a6m)(a3Z:a8k P w K mg base):a9p P w K mg base:=by
 exists z0,1,a8P,el3 λ_ _ _=>rfl
 ext j
 refine a6W ?_ ?_
 ·exact e8
 refine S6 (ys:=["colour"]) (N0:=["row","one","other"]) (λ_ _ h=>h) ?_ ⟨by kernel_rfl,rfl,of_decide_eq_true rfl,of_decide_eq_true rfl,of_decide_eq_true rfl⟩ (EIF.ei (c2s (d6 0))) (λC fp pins s H=>r0 (i:=3) b1p rfl (Or.inl rfl)) (λn h=>z7 (i:=3) (Nat.le_of_eq h)) (λC fp pins s H=>R3) ?_
 ·exact rfl
 ext s
 exact j7 a3Z hr (by decide) rfl (b4 (b4 (b4 d9))) (a9 (d6 3) (a9 (d6 1) (a9 (d6 2) c6)))
theorem b5g(D:Df K mg "dyed_two" a6n)(M:MoB K mg)(a54:a9p P w K mg base):a5Y P w K mg base:=by
 exists z0,2,a8Q,el3 λ_ _ _=>rfl
 ext j
 refine a1L V0 ?_ M.z_tuple ?_ ?_
 ·exact rfl
 ·rfl
 exists y0,["row"],["cloth","one","other"],3,b1q
 ·exact rfl
 ·exact X9 (d6 0)
 ext s
 exact j7 a54 hr (by decide) rfl (b4 (b4 (b4 d9))) (a9 (d6 3) (a9 (d6 1) (a9 (d6 2) c6)))
theorem b88(D:Df K mg "beside" a2F)(M:MoB K mg)(D3:U8 P w K mg base):a6z P w K mg base:=by
 exists z0,1,b2K,el2 λ_ _=>rfl
 ext c
 ·exact m6 (k9 (a1v hu) (C7 B6 rfl M.z_len (by rfl) (d6 0)) (C7 B6 rfl M.z_len (by rfl) (d6 1))) (c8 a0p) j8
 ext c
 ·exact a6Y (j7 D3 hr (by decide) rfl (b4 (b4 d9)) (a9 (C7 B6 rfl M.z_len (by rfl) (d6 0)) (a9 (f9 n6 (C7 B6 rfl M.z_len (by rfl) (d8 (d6 0) b6)) (C7 B6 rfl M.z_len (by rfl) (d8 (d6 1) b6))) c6)))
 ext j
 refine a1L V0 ?_ M.z_tuple ?_ ?_
 ·exact rfl
 ·rfl
 refine b98 (ys:=["left","right"]) (N0:=["one","other"]) (λ_ _ h=>h) ?_ ⟨by kernel_rfl,rfl,of_decide_eq_true rfl,of_decide_eq_true rfl,of_decide_eq_true rfl⟩ ?_ M.z_zip ?_ (λC fp pins s H=>c1o rfl (a7o (r0 (i:=2) a8I rfl (Or.inl rfl)) (a7o (r0 (i:=3) a8I rfl (Or.inl rfl)) b7N))) (λn h=>b9w [2,3] (λk hk=>Nat.le_trans (Nat.le_of_eq h) ((by decide:∀k∈[2,3],2<=k) k hk))) (λC fp pins s H=>R3) ?_
 ·exact rfl
 ·exact rfl
 ·exact a9 (d6 0) (a9 (d6 1) c6)
 ext s
 exact f9 n6 (d6 2) (d6 3)
theorem b0l{k:Nat}(hk0:4<=k){i7 g7 g8 j1 j2 g9 R_cloth_of_laid:List PV->Option d7}(D:Dm K "cloth" "Above.cloth" a0k a.f_Above_cloth)(O:Oc K mg a){a38:AB}(a0s:FnV K mg "above" a38)(a2T:a89 P w K mg base)(g:D4 P w K mg base a k i7 g7 g8 j1 j2 g9 R_cloth_of_laid):A5 P w K mg base a.f_Above_cloth ["self","known"] (k+1) (m4 0 (a5A i7 g7 g8 j1 j2 g9 R_cloth_of_laid)):=by
 exists z1,k,a1y,el2 λ_ _=>rfl
 exact c8 (i0 (j7 g.d_cloth_of_laid hr (by lia) rfl (b4 (b4 (b4 d9))) (a9 (C8 O.fld_parts (d6 0)) (a9 (d6 1) (a9 (b2d a0s) c6)))))
theorem a81{k:Nat}(hk0:4<=k){i7 g7 g8 j1 j2 g9 R_cloth_of_laid:List PV->Option d7}(D:Dm K "cloth" "Across.cloth" W7 a.f_Across_cloth)(O:Oc K mg a)(a3Y:a9o P w K mg base)(m9:D6 P w K mg base a)(m8:D5 P w K mg base a)(g:D4 P w K mg base a k i7 g7 g8 j1 j2 g9 R_cloth_of_laid):A5 P w K mg base a.f_Across_cloth ["self","known"] (k+1) (m4 0 (a3N i7 g7 g8 j1 j2 g9 R_cloth_of_laid)):=by
 exists z1,k,a0F,el2 λ_ _=>rfl
 ext j
 refine j7 a3Y hr ?_ ?_ ?_ ?_
 ·lia
 ·exact rfl
 ·exact b4 (b4 d9)
 refine a9 ?_ ?_
 ·ext a
  ·exact C8 O.fld_part (d6 0)
  ·exact b4 d9
  exact a9 (d6 1) c6
 exact a9 (C8 O.fld_many (d6 0)) c6
theorem a82{k:Nat}(hk0:4<=k){i7 g7 g8 j1 j2 g9 R_cloth_of_laid:List PV->Option d7}(D:Dm K "cloth" "Beside.cloth" W8 a.f_Beside_cloth)(O:Oc K mg a){a2y:AB}(T8:FnV K mg "beside" a2y)(a1h:a6z P w K mg base)(g:D4 P w K mg base a k i7 g7 g8 j1 j2 g9 R_cloth_of_laid):A5 P w K mg base a.f_Beside_cloth ["self","known"] (k+1) (m4 0 (a3O i7 g7 g8 j1 j2 g9 R_cloth_of_laid)):=by
 exists z1,k,a0G,el2 λ_ _=>rfl
 exact c8 (i0 (j7 g.d_cloth_of_laid hr (by lia) rfl (b4 (b4 (b4 d9))) (a9 (C8 O.fld_parts (d6 0)) (a9 (d6 1) (a9 (b2d T8) c6)))))
theorem b1E{k:Nat}(hk0:4<=k){i7 g7 g8 j1 j2 g9 R_cloth_of_laid:List PV->Option d7}(D:Dm K "cloth" "Down.cloth" a01 a.f_Down_cloth)(O:Oc K mg a)(a9J:b52 P w K mg base)(m9:D6 P w K mg base a)(m8:D5 P w K mg base a)(g:D4 P w K mg base a k i7 g7 g8 j1 j2 g9 R_cloth_of_laid):A5 P w K mg base a.f_Down_cloth ["self","known"] (k+1) (m4 0 (a6J i7 g7 g8 j1 j2 g9 R_cloth_of_laid)):=by
 exists z1,k,a2k,el2 λ_ _=>rfl
 ext j
 refine j7 a9J hr ?_ ?_ ?_ ?_
 ·lia
 ·exact rfl
 ·exact b4 (b4 d9)
 refine a9 ?_ ?_
 ·ext a
  ·exact C8 O.fld_part (d6 0)
  ·exact b4 d9
  exact a9 (d6 1) c6
 exact a9 (C8 O.fld_many (d6 0)) c6
theorem b1F{k:Nat}(hk0:4<=k){i7 g7 g8 j1 j2 g9 R_cloth_of_laid:List PV->Option d7}(D:Dm K "cloth" "Dyed.cloth" a02 a.f_Dyed_cloth)(O:Oc K mg a)(a1i:a5Y P w K mg base)(m9:D6 P w K mg base a)(m8:D5 P w K mg base a)(g:D4 P w K mg base a k i7 g7 g8 j1 j2 g9 R_cloth_of_laid):A5 P w K mg base a.f_Dyed_cloth ["self","known"] (k+1) (m4 0 (a6K i7 g7 g8 j1 j2 g9 R_cloth_of_laid)):=by
 exists z1,k,a2l,el2 λ_ _=>rfl
 ext j
 refine j7 a1i hr ?_ ?_ ?_ ?_
 ·lia
 ·exact rfl
 ·exact b4 (b4 (b4 d9))
 refine a9 ?_ ?_
 ·ext a
  ·exact C8 O.fld_part (d6 0)
  ·exact b4 d9
  exact a9 (d6 1) c6
 exact a9 (C8 O.fld_one (d6 0)) (a9 (C8 O.fld_other (d6 0)) c6)
theorem a83{k:Nat}(hk0:4<=k){i7 g7 g8 j1 j2 g9 R_cloth_of_laid:List PV->Option d7}(D:Dm K "cloth" "Turned.cloth" W9 a.f_Turned_cloth)(O:Oc K mg a)(a34:a9u P w K mg base)(m9:D6 P w K mg base a)(m8:D5 P w K mg base a)(g:D4 P w K mg base a k i7 g7 g8 j1 j2 g9 R_cloth_of_laid):A5 P w K mg base a.f_Turned_cloth ["self","known"] (k+1) (m4 0 (a3P i7 g7 g8 j1 j2 g9 R_cloth_of_laid)):=by
 exists z1,k,a0H,el2 λ_ _=>rfl
 ext j
 refine j7 a34 hr ?_ ?_ ?_ ?_
 ·lia
 ·exact rfl
 ·exact b4 (b4 d9)
 refine a9 ?_ ?_
 ·ext a
  ·exact C8 O.fld_part (d6 0)
  ·exact b4 d9
  exact a9 (d6 1) c6
 exact a9 (C8 O.fld_way (d6 0)) c6
theorem a77{k:Nat}(hk0:4<=k){i7 g7 g8 j1 j2 g9 R_cloth_of_laid:List PV->Option d7}(D:Df K mg "cloth_of_laid" S8)(O:Oc K mg a){a38:AB}(a0s:FnV K mg "above" a38){a2y:AB}(T8:FnV K mg "beside" a2y)(m9:D6 P w K mg base a)(m8:D5 P w K mg base a)(a1h:a6z P w K mg base)(a2T:a89 P w K mg base)(g:D4 P w K mg base a k i7 g7 g8 j1 j2 g9 R_cloth_of_laid):n5 P w K mg base "cloth_of_laid" ["parts","known","lay"] (k+1) (m4 2 (M0 i7 g7 g8 j1 j2 g9 R_cloth_of_laid)):=by
 exists z0,k,Z5,el3 λ_ _ _=>rfl
 ext c
 ·refine k7 (i:=3) ?_ ?_
  ·exact S.nd
  ext a
  ·exact d8 (d6 0) b6
  ·exact b4 d9
  exact a9 (d6 1) c6
 ext c
 ·refine a36 PassesOwn.never ?_ ?_ ?_ (B3 4) ?_
  ·exact rfl
  ·exact a2v (d6 0) (a48 b6) a47
  ·exact r0 (i:=4) S.nd rfl (Or.inl rfl)
  refine c8 ?_;refine k7 (i:=3) ?_ ?_
  ·exact S.nd
  refine a9Q 2 (Y3 a1h T8 (by lia) rfl (Y3 a2T a0s (by lia) rfl a7V)) hr (pv 2) ?_ ?_
  ·exact b4 (b4 d9)
  refine a9 (d6 3) ?_;refine a9 ?_ ?_
  ·refine P9 (b5 m9 O.kc_Plain O.fi_Plain_cloth (by lia) rfl (b5 m8 O.kc_Named O.fi_Named_cloth (by lia) rfl (b5 g.d_Beside_cloth O.kc_Beside O.fi_Beside_cloth (by lia) rfl (b5 g.d_Above_cloth O.kc_Above O.fi_Above_cloth (by lia) rfl (b5 g.d_Across_cloth O.kc_Across O.fi_Across_cloth (by lia) rfl (b5 g.d_Down_cloth O.kc_Down O.fi_Down_cloth (by lia) rfl (b5 g.d_Turned_cloth O.kc_Turned O.fi_Turned_cloth (by lia) rfl (b5 g.d_Dyed_cloth O.kc_Dyed O.fi_Dyed_cloth (by lia) rfl B0)))))))) hr (d6 4) ?_ ?_
   ·exact b4 d9
   exact a9 (d6 1) c6
  exact c6
 exact c8 (J9 3 (pv 3))
theorem a80(Z6:Dm K "cloth" "Above.cloth" a0k a.f_Above_cloth)(U4:Dm K "cloth" "Across.cloth" W7 a.f_Across_cloth)(U5:Dm K "cloth" "Beside.cloth" W8 a.f_Beside_cloth)(a0P:Dm K "cloth" "Down.cloth" a01 a.f_Down_cloth)(a0Q:Dm K "cloth" "Dyed.cloth" a02 a.f_Dyed_cloth)(U6:Dm K "cloth" "Turned.cloth" W9 a.f_Turned_cloth)(D_cloth_of_laid:Df K mg "cloth_of_laid" S8)(O:Oc K mg a){a38:AB}(a0s:FnV K mg "above" a38){a2y:AB}(T8:FnV K mg "beside" a2y)(a2T:a89 P w K mg base)(a3Y:a9o P w K mg base)(m9:D6 P w K mg base a)(m8:D5 P w K mg base a)(a1h:a6z P w K mg base)(a9J:b52 P w K mg base)(a1i:a5Y P w K mg base)(a34:a9u P w K mg base):∀n:Nat,D4 P w K mg base a (4+n) (a1p n) (a0B n) (a0C n) (a15 n) (a16 n) (a0D n) (Y7 n):=by
 intro n
 induction n with
 |zero=>exact⟨y0 (k:=3) Z6 a1y (λ_ _ _ _ _ _=>el2 (λ_ _=>rfl)) λcdv A outer s H E hr=>A8,y0 (k:=3) U4 a0F (λ_ _ _ _ _ _=>el2 (λ_ _=>rfl)) λcdv A outer s H E hr=>A8,y0 (k:=3) U5 a0G (λ_ _ _ _ _ _=>el2 (λ_ _=>rfl)) λcdv A outer s H E hr=>A8,y0 (k:=3) a0P a2k (λ_ _ _ _ _ _=>el2 (λ_ _=>rfl)) λcdv A outer s H E hr=>A8,y0 (k:=3) a0Q a2l (λ_ _ _ _ _ _=>el2 (λ_ _=>rfl)) λcdv A outer s H E hr=>A8,y0 (k:=3) U6 a0H (λ_ _ _ _ _ _=>el2 (λ_ _=>rfl)) λcdv A outer s H E hr=>A8,n0 (k:=3) D_cloth_of_laid Z5 (λ_ _ _ _ _ _=>el3 (λ_ _ _=>rfl)) λf cdv A outer s H E hr=>A8⟩
 |succ n ih=>
  exact⟨b0l P w base a (Nat.le_add_right _ _) Z6 O a0s a2T ih,a81 P w base a (Nat.le_add_right _ _) U4 O a3Y m9 m8 ih,a82 P w base a (Nat.le_add_right _ _) U5 O T8 a1h ih,b1E P w base a (Nat.le_add_right _ _) a0P O a9J m9 m8 ih,b1F P w base a (Nat.le_add_right _ _) a0Q O a1i m9 m8 ih,a83 P w base a (Nat.le_add_right _ _) U6 O a34 m9 m8 ih,a77 P w base a (Nat.le_add_right _ _) D_cloth_of_laid O a0s T8 m9 m8 a1h a2T ih⟩
theorem b1K(D:Df K mg "cloth_step" Q6)(O:Oc K mg a)(m9:D6 P w K mg base a)(m8:D5 P w K mg base a)(d_Beside_cloth:a9m P w K mg base a)(d_Above_cloth:b0W P w K mg base a)(d_Across_cloth:a9l P w K mg base a)(d_Down_cloth:b21 P w K mg base a)(d_Turned_cloth:a9n P w K mg base a)(d_Dyed_cloth:b22 P w K mg base a):a0S P w K mg base:=by
 exists z0,24,a5R,el3 λ_ _ _=>rfl
 ext j
 refine P9 (b5 m9 O.kc_Plain O.fi_Plain_cloth (by decide) rfl (b5 m8 O.kc_Named O.fi_Named_cloth (by decide) rfl (b5 d_Beside_cloth O.kc_Beside O.fi_Beside_cloth (by decide) rfl (b5 d_Above_cloth O.kc_Above O.fi_Above_cloth (by decide) rfl (b5 d_Across_cloth O.kc_Across O.fi_Across_cloth (by decide) rfl (b5 d_Down_cloth O.kc_Down O.fi_Down_cloth (by decide) rfl (b5 d_Turned_cloth O.kc_Turned O.fi_Turned_cloth (by decide) rfl (b5 d_Dyed_cloth O.kc_Dyed O.fi_Dyed_cloth (by decide) rfl B0)))))))) hr (d6 0) ?_ ?_
 ·exact b4 d9
 exact a9 (d6 1) c6
theorem a85(D:Df K mg "gone_through" a1x)(M:MoB K mg){a13:AB}(M5:FnV K mg "cloth_step" a13){a2Y:AB}(Q0:FnV K mg "size_step" a2Y)(a57:a9t P w K mg base)(a1K:a3M P w K mg base)(V1:a0S P w K mg base):a08 P w K mg base:=by
 exists z0,25,a3C,el2 λ_ _=>rfl
 ext c
 ·exact k7 (i:=2) S.nd b6g
 ext c
 ·exact k7 (i:=3) S.nd (J1 c6)
 ext c
 ·refine c2u PassesOwn.never ?_ ?_ M.z_enumerate ?_ ?_ (c1X [4,5]) ?_
  ·exact rfl
  ·exact rfl
  ·exact a9 (d6 0) c6
  ·exact c1o rfl (a7o (r0 (i:=4) S.nd rfl (Or.inl rfl)) (a7o (r0 (i:=5) S.nd rfl (Or.inl rfl)) b7N))
  ext c
  ·exact m6 (PW.pt (a7T (k9 (l6 hu) (d8 (d6 5) b6) e8) (a49 (b8y 2 hu (pv 2) (d8 (d6 5) b6) (by first|rfl|exact nomark _))))) (c8 a0p) j8
  refine c8 ?_;refine a1m PassesOwn.never ?_ ?_ M.z_range ?_ ?_ (B3 6) ?_
  ·exact rfl
  ·exact rfl
  ·exact a9 (j7 a57 hr (by decide) rfl (b4 d9) (a9 (d6 5) c6)) c6
  ·exact r0 (i:=6) S.nd rfl (Or.inl rfl)
  ext c
  ·refine k7 (i:=7) ?_ ?_
   ·exact S.nd
   exact a6X 2 (a9Q 1 (Y3 a1K Q0 (by decide) rfl (Y3 V1 M5 (by decide) rfl a7V)) hr (pv 1) (b4 (b4 (b4 d9))) (a9 (d8 (d6 5) (a1l b6)) (a9 (d6 2) (a9 (d6 4) c6))))
  exact b9 (Y1 3 (pv 3) (d6 7)) (c8 (m6 (k9 (a1v hu) (d8 (d6 5) b6) e8) (c8 (a9c 2 hu (pv 2) (d8 (d6 5) (a1l b6)) (d6 7))) j8))
 exact c8 (J9 3 (pv 3))
theorem c1d(D:Df K mg "sizes" b4b){a2Y:AB}(Q0:FnV K mg "size_step" a2Y)(O7:a08 P w K mg base)(a1K:a3M P w K mg base):b7b P w K mg base:=by
 exists z0,26,b5J,el1 λ_=>rfl
 exact c8 (i0 (j7 O7 hr (by decide) rfl (b4 (b4 d9)) (a9 (d6 0) (a9 (b2d Q0) c6))))
theorem b3S(D:Df K mg "last_told" a4I)(b3h:b7b P w K mg base)(O7:a08 P w K mg base)(V1:a0S P w K mg base):a8l P w K mg base:=by
 exists z0,27,a7B,el2 λ_ _=>rfl
 exact b9 (a6Y (j7 b3h hr (by decide) rfl (b4 d9) (a9 (d6 0) c6))) (c8 (i0 (d8 (j7 O7 hr (by decide) rfl (b4 (b4 d9)) (a9 (d6 0) (a9 (d6 1) c6))) (a1l b6))))
theorem b6K(D:Df K mg "knotted" a8e){a13:AB}(M5:FnV K mg "cloth_step" a13)(a30:a8l P w K mg base)(V1:a0S P w K mg base):b11 P w K mg base:=by
 exists z0,28,b0F,el1 λ_=>rfl
 exact c8 (i0 (j7 a30 hr (by decide) rfl (b4 (b4 d9)) (a9 (d6 0) (a9 (b2d M5) c6))))
theorem b5l(D:Df K mg "_law_most" a6r)(R7:a1Y P w K mg base):a9r P w K mg base:=by
 exists z0,1,a8U,el1 λ_=>rfl
 exact c8 (i0 (d8 (J1 (a9 b6 (a9 b6 (a9 b6 (a9 b6 c6))))) (f9 u7 (f9 b5t (j7 R7 hr (by decide) rfl (b4 (b4 d9)) (a9 (d6 0) (a9 b6 c6))) b6) b6)))
theorem b5m{k:Nat}(hk0:1<=k){E2:List PV->Option d7}(D:Df K mg "_law_plan" a3p)(M:MoB K mg)(X8:n5 P w K mg base "_law_plan" ["_law_tree","_law_cloths_here"] k E2):n5 P w K mg base "_law_plan" ["_law_tree","_law_cloths_here"] (k+1) (m4 4 (a1d E2)):=by
 exists z0,k,a4S,el2 λ_ _=>rfl
 ext c
 ·exact k7 (i:=2) S.nd (d8 (d6 0) b6)
 ext c
 ·refine m6 (PW.pt (a2x (k9 (l6 hu) (d6 2) e8) (Y2 (k9 (l6 hu) (d6 2) e8)))) ?_ ?_
  ·ext c
   ·exact k7 (i:=3) S.nd (b99 (k9 (l6 hu) (d6 2) e8) (a9S 1 hu (pv 1) (d8 (d6 0) b6)) (d8 (d6 0) b6))
   exact c8 (i0 (p8 (a9 e8 (a9 (C7 B6 rfl M.z_len (by rfl) (d6 3)) (a9 (C7 B6 rfl M.z_len (by rfl) (d8 (d6 3) b6)) (a9 (d6 3) c6))))))
  exact j8
 ext c
 ·refine m6 (PW.pt (a2x (k9 (l6 hu) (d6 2) e8) (Y2 (k9 (l6 hu) (d6 2) e8)))) ?_ ?_
  ·ext c
   ·refine a9b (i:=4) (ys:=["_law_part"]) (N0:=["_law_tree","_law_cloths_here","_law_word","_law_rows","_law_parts","0_law_part"]) ?_ (λ_ _ h=>h) ?_ ⟨by kernel_rfl,rfl,of_decide_eq_true rfl,of_decide_eq_true rfl,of_decide_eq_true rfl⟩ ?_ (λC fp pins s H=>r0 (i:=6) b1t rfl (Or.inl rfl)) (λn h=>z7 (i:=6) (Nat.le_of_eq h)) (λC fp pins s H=>R3) ?_
    ·exact S.nd
    ·exact rfl
    ·exact X9 (d8 (d6 0) b6)
    ext s
    exact j7 X8 hr (by lia) rfl (b4 (b4 d9)) (a9 (d6 6) (a9 (d6 1) c6))
   ext c
   ·refine m6 ?_ ?_ ?_
    ·exact k9 (l6 hu) (d6 2) e8
    ·refine c8 ?_;refine a6b 4 ?_;refine i0 ?_;refine p8 ?_;refine a9 (d6 2) ?_;refine a9 ?_ ?_
     ·exact d8 (d8 (d6 4) b6) b6
     refine a9 ?_ ?_
     ·refine C7 (b92 rfl) ?_ M.z_sum ?_ ?_
      ·exact rfl
      ·rfl
      exists y0,["_law_part"],["_law_tree","_law_cloths_here","_law_word","_law_rows","_law_parts","0_law_part"],6,b1u
      ·exact rfl
      ·exact X9 (d6 4)
      ext s
      exact d8 (d6 6) b6
     exact a9 (d6 4) c6
    exact j8
   refine c8 ?_;refine a6b 4 ?_;refine i0 ?_;refine p8 ?_;refine a9 (d6 2) ?_;refine a9 ?_ ?_
   ·refine C7 (b92 rfl) ?_ M.z_sum ?_ ?_
    ·exact rfl
    ·rfl
    exists y0,["_law_part"],["_law_tree","_law_cloths_here","_law_word","_law_rows","_law_parts","0_law_part"],6,b1v
    ·exact rfl
    ·exact X9 (d6 4)
    ext s
    exact d8 (d6 6) b6
   exact a9 (d8 (d8 (d6 4) b6) b6) (a9 (d6 4) c6)
  exact j8
 ext c
 ·exact k7 (i:=5) S.nd (j7 X8 hr (by lia) rfl (b4 (b4 d9)) (a9 (d8 (d6 0) (a1l b6)) (a9 (d6 1) c6)))
 ext c
 ·exact m6 (k9 (l6 hu) (d6 2) e8) (c8 (i0 (p8 (a9 (d6 2) (a9 (d8 (d6 5) b6) (a9 (f9 u0 (d8 (d6 5) b6) (d8 (d6 0) b6)) (a9 (d6 5) c6))))))) j8
 ext c
 ·exact m6 (k9 (l6 hu) (d6 2) e8) (c8 (i0 (p8 (a9 (d6 2) (a9 (f9 u0 (d8 (d6 5) b6) (d8 (d6 0) b6)) (a9 (d8 (d6 5) b6) (a9 (d6 5) c6))))))) j8
 ext c
 ·exact m6 (k9 (l6 hu) (d6 2) e8) (c8 (i0 (p8 (a9 (d6 2) (a9 (d8 (d6 5) b6) (a9 (d8 (d6 5) b6) (a9 (d6 5) (a9 (d8 (d6 0) b6) (a9 (d8 (d6 0) b6) c6))))))))) j8
 ext c
 ·exact m6 (k9 (b30 hu) (d8 (d6 0) b6) (J1 (a9 e8 (a9 e8 (a9 e8 (a9 e8 c6)))))) (c8 (i0 (p8 (a9 (d8 (d6 0) b6) (a9 (d8 (d6 5) b6) (a9 (d8 (d6 5) b6) (a9 (d6 5) c6))))))) j8
 exact c8 (i0 (p8 (a9 (d8 (d6 0) b6) (a9 (d8 (d6 5) b6) (a9 (d8 (d6 5) b6) (a9 (d6 5) c6))))))
theorem b3L(a2L:Df K mg "_law_plan" a3p)(M:MoB K mg):∀n:Nat,n5 P w K mg base "_law_plan" ["_law_tree","_law_cloths_here"] (1+n) (a4n n):=by
 intro n
 induction n with
 |zero=>exact n0 (k:=0) a2L a4S (λ_ _ _ _ _ _=>el2 (λ_ _=>rfl)) λf cdv A outer s H E hr=>A8
 |succ n ih=>
  exact b5m P w base (Nat.le_add_right _ _) a2L M ih
theorem b5h(D:Df K mg "_law_from" a6o):a5Z P w K mg base:=by
 exists z0,0,a8R,el4 λ_ _ _ _=>rfl
 ext c
 ·exact k7 (i:=4) S.nd (f9 S7 (d8 (d6 1) b6) b6)
 ext c
 ·exact k7 (i:=5) S.nd (f9 S7 (d8 (d6 1) b6) b6)
 ext c
 ·exact m6 (k9 (l6 hu) (d6 0) e8) (c8 (i0 (p8 (a9 (f9 S7 (d6 4) (d6 3)) (a9 (d6 2) c6))))) j8
 ext c
 ·exact m6 (k9 (l6 hu) (d6 0) e8) (c8 (i0 (p8 (a9 (f9 S7 (d6 4) (d6 2)) (a9 (f9 S7 (d6 5) (d6 3)) c6))))) j8
 ext c
 ·exact m6 (k9 (l6 hu) (d6 0) e8) (c8 (i0 (p8 (a9 (d6 3) (a9 (f9 S7 (d6 5) (d6 2)) c6))))) j8
 ext c
 ·exact m6 (k9 (l6 hu) (d6 0) e8) (c8 (i0 (p8 (a9 (d6 2) (a9 (f9 S7 (d6 5) (d6 3)) c6))))) j8
 ext c
 ·exact m6 (k9 (l6 hu) (d6 0) e8) (c8 (i0 (p8 (a9 (f9 S7 (d6 4) (d6 2)) (a9 (d6 3) c6))))) j8
 exact b9 (m6 (k9 (l6 hu) (d6 0) e8) (c8 (i0 (p8 (a9 (d6 3) (a9 (d6 2) c6))))) j8) (c8 (i0 (p8 (a9 (f9 S7 (d6 4) (d6 3)) (a9 (f9 S7 (d6 5) (d6 2)) c6)))))
theorem b5n{k:Nat}(hk0:1<=k){A6 R_law_within:List PV->Option d7}(D:Df K mg "_law_sign" a3q)(a1j:a5Z P w K mg base)(g:a5X P w K mg base k A6 R_law_within):n5 P w K mg base "_law_sign" ["_law_plan_here","_law_r","_law_c"] (k+1) (m4 3 (w8 A6 R_law_within)):=by
 exists z0,k,a4U,el3 λ_ _ _=>rfl
 ext c
 ·exact m6 (k9 (l6 hu) (d8 (d6 0) b6) e8) (c8 (i0 (d8 (d8 (d8 (d6 0) b6) (d6 1)) (d6 2)))) j8
 ext c
 ·refine m6 (PW.pt (a2x (k9 (l6 hu) (d8 (d6 0) b6) e8) (Y2 (k9 (l6 hu) (d8 (d6 0) b6) e8)))) ?_ ?_
  ·exact c8 (i0 (j7 g.d_law_within hr (by lia) rfl (b4 (b4 (b4 d9))) (a9 (d6 0) (a9 (d6 1) (a9 (d6 2) c6)))))
  exact j8
 ext c
 ·exact k7 (i:=3) S.nd (d8 (d6 0) b6)
 ext c
 ·refine m6 (PW.pt (a2x (k9 (l6 hu) (d8 (d6 0) b6) e8) (Y2 (k9 (l6 hu) (d8 (d6 0) b6) e8)))) ?_ ?_
  ·exact c8 (i0 (j7 g.d_law_sign hr (by lia) rfl (b4 (b4 (b4 d9))) (a9 (d6 3) (a9 (f9 u7 (d6 1) (d8 (d6 3) b6)) (a9 (f9 u7 (d6 2) (d8 (d6 3) b6)) c6)))))
  exact j8
 ext c
 ·refine m6 ?_ ?_ ?_
  ·exact k9 (l6 hu) (d8 (d6 0) b6) e8
  ·ext c
   ·exact k7 (i:=4) S.nd (j7 g.d_law_sign hr (by lia) rfl (b4 (b4 (b4 d9))) (a9 (d6 3) (a9 (d6 1) (a9 (d6 2) c6))))
   exact b9 (m6 (k9 (l6 hu) (d6 4) (d8 (d6 0) b6)) (c8 (i0 (d8 (d6 0) b6))) j8) (c8 (i0 (b99 (k9 (l6 hu) (d6 4) (d8 (d6 0) b6)) (d8 (d6 0) b6) (d6 4))))
  exact j8
 ext c
 ·exact k7 (i:=5) S.nd (j7 a1j hr (by lia) rfl (b4 (b4 (b4 (b4 d9)))) (a9 (d8 (d6 0) b6) (a9 (d6 3) (a9 (d6 1) (a9 (d6 2) c6)))))
 exact c8 (i0 (j7 g.d_law_sign hr (by lia) rfl (b4 (b4 (b4 d9))) (a9 (d6 3) (a9 (d8 (d6 5) b6) (a9 (d8 (d6 5) b6) c6)))))
theorem b1O{k:Nat}(hk0:1<=k){A6 R_law_within:List PV->Option d7}(D:Df K mg "_law_within" a03)(g:a5X P w K mg base k A6 R_law_within):n5 P w K mg base "_law_within" ["_law_plan_here","_law_r","_law_c"] (k+1) (m4 1 (P8 A6 R_law_within)):=by
 exists z0,k,a2m,el3 λ_ _ _=>rfl
 ext c
 ·refine a36 PassesOwn.never ?_ ?_ ?_ (B3 3) ?_
  ·exact rfl
  ·exact d8 (d6 0) b6
  ·exact r0 (i:=3) S.nd rfl (Or.inl rfl)
  ext c
  ·exact m6 (PW.pt (a7T (k9 a7n (d6 1) (d8 (d6 3) b6)) (a49 (k9 a7n (d6 2) (d8 (d6 3) b6))))) (c8 (i0 (j7 g.d_law_sign hr (by lia) rfl (b4 (b4 (b4 d9))) (a9 (d6 3) (a9 (d6 1) (a9 (d6 2) c6)))))) j8
  exact c8 (m6 (k9 (l6 hu) (d8 (d6 0) b6) e8) (c8 (k7 (i:=2) S.nd (f9 S7 (d6 2) (d8 (d6 3) b6)))) (c8 (k7 (i:=1) S.nd (f9 S7 (d6 1) (d8 (d6 3) b6)))))
 exact c8 (i0 e8)
theorem b3M(a2M:Df K mg "_law_sign" a3q)(D_law_within:Df K mg "_law_within" a03)(a1j:a5Z P w K mg base):∀n:Nat,a5X P w K mg base (1+n) (D8 n) (J3 n):=by
 intro n
 induction n with
 |zero=>exact⟨n0 (k:=0) a2M a4U (λ_ _ _ _ _ _=>el3 (λ_ _ _=>rfl)) λf cdv A outer s H E hr=>A8,n0 (k:=0) D_law_within a2m (λ_ _ _ _ _ _=>el3 (λ_ _ _=>rfl)) λf cdv A outer s H E hr=>A8⟩
 |succ n ih=>
  exact⟨b5n P w base (Nat.le_add_right _ _) a2M a1j ih,b1O P w base (Nat.le_add_right _ _) D_law_within ih⟩
theorem b3U(D:Df K mg "_law_cloth" a4K)(M:MoB K mg)(X8:b54 P w K mg base)(d_law_sign:b55 P w K mg base):a8n P w K mg base:=by
 exists z0,25,a7D,el2 λ_ _=>rfl
 ext c
 ·exact k7 (i:=2) S.nd (j7 X8 hr (by decide) rfl (b4 (b4 d9)) (a9 (d6 0) (a9 (d6 1) c6))) rfl (Or.inr rfl)
 ext c
 ·exact k7 (i:=3) S.nd (J1 c6)
 ext c
 ·refine a1m PassesOwn.never ?_ ?_ M.z_range ?_ ?_ (B3 4) ?_
  ·exact rfl
  ·exact rfl
  ·exact a9 (d8 (d6 2) b6) c6
  ·exact r0 (i:=4) S.nd rfl (Or.inr rfl)
  refine c8 ?_;refine Y1 3 (pv 3) ?_;refine a6W ?_ ?_
  ·exact e8
  exists y0,["_law_c"],["_law_tree","_law_cloths_here","_law_plan_here","_law_rows","_law_r"],5,b0g
  ·exact rfl
  ·exact b7k rfl M.z_range (a9 (d8 (d6 2) b6) c6)
  ext s
  exact j7 d_law_sign hr (by decide) rfl (b4 (b4 (b4 d9))) (a9 (d6 2) (a9 (d6 4) (a9 (d6 5) c6)))
 exact c8 (i0 (a1L V0 rfl M.z_tuple (by rfl) (d6 3)))
theorem b1M(D:Df K mg "_law_cloths" a3m)(M:MoB K mg)(a32:a8n P w K mg base):a6C P w K mg base:=by
 exists z0,26,a5T,el1 λ_=>rfl
 ext c
 ·exact k7 (i:=1) S.nd b6g
 ext c
 ·exact k7 (i:=2) S.nd (J1 c6)
 ext c
 ·refine a36 PassesOwn.never ?_ (d6 0) ?_ (B3 3) ?_
  ·exact rfl
  ·exact r0 (i:=3) S.nd rfl (Or.inl rfl)
  ext c
  ·exact k7 (i:=4) S.nd (b99 (k9 (l6 hu) (d8 (d6 3) b6) e8) (d8 (d6 3) b6) b6)
  refine c8 ?_;refine a1m PassesOwn.never ?_ ?_ M.z_range ?_ ?_ (B3 5) ?_
  ·exact rfl
  ·exact rfl
  ·exact a9 (d6 4) c6
  ·exact r0 (i:=5) S.nd rfl (Or.inl rfl)
  exact b9 (Y1 2 (pv 2) (a9R 1 a32 hr (by decide) rfl (d8 (d6 3) (a1l b6)) (pv 1))) (c8 (m6 (k9 (a1v hu) (d8 (d6 3) b6) e8) (c8 (a9c 1 hu (pv 1) (d8 (d6 3) (a1l b6)) (d8 (d6 2) (a1l b6)))) j8))
 exact c8 (J9 2 (pv 2))
theorem c4X{f:AB}{fd:FuncData}(F:Fun K "law" "law" c1K f fd)(M:MoB K mg)(a12:a5x P w K mg base)(a31:a8m P w K mg base)(a43:b11 P w K mg base)(a55:a9r P w K mg base)(a2W:a6C P w K mg base):U7 P w K mg base CX0 30 f fd ["_law_script"] (spP K 1 c30):=by
 refine c0i (k:=29) F c1N λcdv A outer s H E hr=> ?_;have S:=c1N;have hu:=hr.units
 ext c
 ·exact k7 (i:=1) S.nd (j7 a12 hr (by decide) rfl (b4 (b4 (b4 d9))) (a9 (d6 0) (a9 b6 (a9 (j7 a55 hr (by decide) rfl (b4 d9) (a9 (d6 0) c6)) c6))))
 ext c
 ·exact a6b 1 (k7 (i:=2) S.nd (d8 (j7 a2W hr (by decide) rfl (b4 d9) (a9 (d6 1) c6)) (a1l b6)))
 ext c
 ·exact a6b 1 (k7 (i:=3) S.nd (j7 a31 hr (by decide) rfl (b4 d9) (a9 (d6 1) c6)))
 ext c
 ·exact a6b 3 (k7 (i:=4) S.nd (j7 a43 hr (by decide) rfl (b4 d9) (a9 (d6 3) c6)))
 ext c
 ·exact m6 (PW.pt (a2x (c0e (a6c (a59 (.inr (.inr (.inr (.inr (.inl rfl))))) rfl M.z_isinstance (d6 4) (a3e rfl M.z_tuple (by rfl) rfl)))) (Y2 (k9 (a1v hu) (d6 4) (d6 2))))) (c8 (i0 c3W)) j8
 ext c
 ·exact a36 PassesOwn.never rfl (d6 4) (r0 (i:=5) S.nd rfl (Or.inl rfl)) (B3 5) (c8 (m6 (c0e (a6c (a59 (.inr (.inr (.inl rfl))) rfl M.z_isinstance (d6 5) (a3e rfl M.z_str (by rfl) rfl)))) (c8 (i0 c3W)) j8))
 exact c8 (a6b 3 (i0 (b96 (b7j (l6 hu) (C7 B6 rfl M.z_len (by rfl) (d6 3)) (C7 B6 rfl M.z_len (by rfl) (d6 1))) (c0a (b7j (l6 hu) (j7 a43 hr (by decide) rfl (b4 d9) (a9 (d6 3) c6)) (d6 2))))))
end
theorem c4j{l:PySem.W.OpenLaw}{w:AI}{K:AE}{h:Heap}{mg:Str->Option AA}{fa:AB}(X:K.In h)(G:h.Ns mainGlobals mg)(hfa:mg "law"=ξ (.ref fa))
 {V3:AB} {b1C b01:Option AB} {b1W:Array (Option AA)} {b1A b1j b1d b1R a5D b1b:AA}
 {R8:AB} {b0j a9w:Option AB} {b0J:Array (Option AA)} {b0i a95 a9K b0w a3W a9G:AA}
 {a0q:AB} {b3J b25:Option AB} {b4d:Array (Option AA)} {b3I b3v b3i b33 a6P b3g:AA}
 {a6Z:AB} {c1a b9N:Option AB} {c1P:Array (Option AA)} {c09 c0M b94 c1u b4B b93:AA}
 {a37:AB} {b85 b8f:Option AB} {b9u:Array (Option AA)} {b84 b8O b8s b9j b19 b8o:AA}
 {V2:AB} {b1B b00:Option AB} {b1V:Array (Option AA)} {b1z b1i b1c b1Q a5C b1a:AA}
 {C_Plain:AB}
 {C_Named:AB}
 {C_Beside:AB}
 {C_Above:AB}
 {C_Across:AB}
 {C_Down:AB}
 {C_Turned:AB}
 {C_Dyed:AB}
 {f0_Plain:AB}
 {f0_Named:AB}
 {f0_Beside:AB}
 {f0_Above:AB}
 {f0_Across:AB}
 {f0_Down:AB}
 {f0_Turned:AB}
 {f0_Dyed:AB}
 {f_Plain_size:AB}
 {f_Named_size:AB}
 {f_Above_size:AB}
 {f_Across_size:AB}
 {f_Beside_size:AB}
 {f_Down_size:AB}
 {f_Dyed_size:AB}
 {f_Turned_size:AB}
 {f_Plain_cloth:AB}
 {f_Named_cloth:AB}
 {f_Above_cloth:AB}
 {f_Across_cloth:AB}
 {f_Beside_cloth:AB}
 {f_Down_cloth:AB}
 {f_Dyed_cloth:AB}
 {f_Turned_cloth:AB}
 {uu_LONGEST:AA}
 {aa_STEPS:AB}
 {uu_LYING_WAYS:AA}
 (a0U:Df0 K "_law_number" a3o)
 (a0o:Df0 K "_law_plain" a4N)
 (a2X:Df0 K "_law_leaf" a6q)
 (a56:Df0 K "_law_step" a6s)
 (a1k:Df0 K "_law_laid" a6p)
 (E3:Df0 K "_law_size" a3r)
 (O8:Df0 K "_law_text" a3s)
 (a1J:Df0 K "_law_grown" a4L)
 (R7:Df0 K "_law_cell_at" a2h)
 (a33:Df0 K "_law_names" a4M)
 (X7:Df0 K "_law_again_fits" Z4)
 (a12:Df0 K "_law_program" a2i)
 (I0:Df0 K "_law_made" a3n)
 (a31:Df0 K "_law_built" a4J)
 (a57:Df0 K "times_of" a6t)
 (a7Q:Df0 K "size_of" a8f)
 (v7:Df0 K "checked_size" a1w)
 (a6F:PySem.W.nsIn K mainGlobals "size_above"=ξ (ξ (.ref V3))) (a7d:K.lookup V3=ξ ⟨b1A,b1C,.func (PySem.W.fnOf "size_above" "size_above" (J8 Q7) (B8 Q7) (c9 Q7) .none b1j b1d b1R b01 a5D b1b),b1W⟩) (b3b:PySem.W.codeIn K a5D "size_above"=true) (b3x:PySem.W.keepIn K (.ref V3)=true) (b1g:a6l K "size_above" V3=true)
 (a5z:PySem.W.nsIn K mainGlobals "size_beside"=ξ (ξ (.ref R8))) (a5I:K.lookup R8=ξ ⟨b0i,b0j,.func (PySem.W.fnOf "size_beside" "size_beside" (J8 M7) (B8 M7) (c9 M7) .none a95 a9K b0w a9w a3W a9G),b0J⟩) (b06:PySem.W.codeIn K a3W "size_beside"=true) (b1k:PySem.W.keepIn K (.ref R8)=true) (a9X:a6l K "size_beside" R8=true)
 (d_size_of_laid:Df0 K "size_of_laid" X0)
 (a8q:PySem.W.nsIn K mainGlobals "size_step"=ξ (ξ (.ref a0q))) (a8z:K.lookup a0q=ξ ⟨b3I,b3J,.func (PySem.W.fnOf "size_step" "size_step" (J8 U2) (B8 U2) (c9 U2) .none b3v b3i b33 b25 a6P b3g),b4d⟩) (b4A:PySem.W.codeIn K a6P "size_step"=true) (b40:PySem.W.keepIn K (.ref a0q)=true) (b3m:a6l K "size_step" a0q=true)
 (D3:Df0 K "check_size" a3k)
 (b7c:PySem.W.nsIn K mainGlobals "above"=ξ (ξ (.ref a6Z))) (b7A:K.lookup a6Z=ξ ⟨c09,c1a,.func (PySem.W.fnOf "above" "above" (J8 a5h) (B8 a5h) (c9 a5h) .none c0M b94 c1u b9N b4B b93),c1P⟩) (c2i:PySem.W.codeIn K b4B "above"=true) (c2M:PySem.W.keepIn K (.ref a6Z)=true) (c0m:a6l K "above" a6Z=true)
 (a3Y:Df0 K "across" b0C)
 (a9J:Df0 K "down" b6W)
 (a2V:Df0 K "from_below" a3l)
 (a9I:Df0 K "column" b0D)
 (a2U:Df0 K "by_columns" a3j)
 (X6:Df0 K "from_the_right" Z3)
 (a7R:Df0 K "stepped" a8g)
 (a34:Df0 K "turned" b0E)
 (a3Z:Df0 K "exchanged" a4H)
 (a54:Df0 K "dyed_row" a6m)
 (a1i:Df0 K "dyed_two" a6n)
 (b4s:PySem.W.nsIn K mainGlobals "beside"=ξ (ξ (.ref a37))) (b41:K.lookup a37=ξ ⟨b84,b85,.func (PySem.W.fnOf "beside" "beside" (J8 a2F) (B8 a2F) (c9 a2F) .none b8O b8s b9j b8f b19 b8o),b9u⟩) (b9X:PySem.W.codeIn K b19 "beside"=true) (c0N:PySem.W.keepIn K (.ref a37)=true) (b8z:a6l K "beside" a37=true)
 (d_cloth_of_laid:Df0 K "cloth_of_laid" S8)
 (a6E:PySem.W.nsIn K mainGlobals "cloth_step"=ξ (ξ (.ref V2))) (a7c:K.lookup V2=ξ ⟨b1z,b1B,.func (PySem.W.fnOf "cloth_step" "cloth_step" (J8 Q6) (B8 Q6) (c9 Q6) .none b1i b1c b1Q b00 a5C b1a),b1V⟩) (b3a:PySem.W.codeIn K a5C "cloth_step"=true) (b3w:PySem.W.keepIn K (.ref V2)=true) (b1f:a6l K "cloth_step" V2=true)
 (O7:Df0 K "gone_through" a1x)
 (b3h:Df0 K "sizes" b4b)
 (a30:Df0 K "last_told" a4I)
 (a43:Df0 K "knotted" a8e)
 (a55:Df0 K "_law_most" a6r)
 (X8:Df0 K "_law_plan" a3p)
 (a1j:Df0 K "_law_from" a6o)
 (d_law_sign:Df0 K "_law_sign" a3q)
 (d_law_within:Df0 K "_law_within" a03)
 (a32:Df0 K "_law_cloth" a4K)
 (a2W:Df0 K "_law_cloths" a3m)
 (c5Q:Df0 K "law" c1K)
 (oa_Plain:PySem.W.nsIn K mainGlobals "Plain"=ξ (ξ (.ref C_Plain)))
 (oa_Named:PySem.W.nsIn K mainGlobals "Named"=ξ (ξ (.ref C_Named)))
 (oa_Beside:PySem.W.nsIn K mainGlobals "Beside"=ξ (ξ (.ref C_Beside)))
 (oa_Above:PySem.W.nsIn K mainGlobals "Above"=ξ (ξ (.ref C_Above)))
 (oa_Across:PySem.W.nsIn K mainGlobals "Across"=ξ (ξ (.ref C_Across)))
 (oa_Down:PySem.W.nsIn K mainGlobals "Down"=ξ (ξ (.ref C_Down)))
 (oa_Turned:PySem.W.nsIn K mainGlobals "Turned"=ξ (ξ (.ref C_Turned)))
 (oa_Dyed:PySem.W.nsIn K mainGlobals "Dyed"=ξ (ξ (.ref C_Dyed)))
 (oi_Plain:PySem.W.findIn K (.ref C_Plain) "__init__"=ξ (ξ (.ref f0_Plain))) (ck_Plain:ckC K C_Plain "Plain" f0_Plain ["rows"]=true) (dm0_Plain:Dm K "__init__" "Plain.__init__" b5H f0_Plain)
 (oi_Named:PySem.W.findIn K (.ref C_Named) "__init__"=ξ (ξ (.ref f0_Named))) (ck_Named:ckC K C_Named "Named" f0_Named ["name"]=true) (dm0_Named:Dm K "__init__" "Named.__init__" b5G f0_Named)
 (oi_Beside:PySem.W.findIn K (.ref C_Beside) "__init__"=ξ (ξ (.ref f0_Beside))) (ck_Beside:ckC K C_Beside "Beside" f0_Beside ["parts"]=true) (dm0_Beside:Dm K "__init__" "Beside.__init__" b2H f0_Beside)
 (oi_Above:PySem.W.findIn K (.ref C_Above) "__init__"=ξ (ξ (.ref f0_Above))) (ck_Above:ckC K C_Above "Above" f0_Above ["parts"]=true) (dm0_Above:Dm K "__init__" "Above.__init__" b5F f0_Above)
 (oi_Across:PySem.W.findIn K (.ref C_Across) "__init__"=ξ (ξ (.ref f0_Across))) (ck_Across:ckC K C_Across "Across" f0_Across ["many","part"]=true) (dm0_Across:Dm K "__init__" "Across.__init__" b2G f0_Across)
 (oi_Down:PySem.W.findIn K (.ref C_Down) "__init__"=ξ (ξ (.ref f0_Down))) (ck_Down:ckC K C_Down "Down" f0_Down ["many","part"]=true) (dm0_Down:Dm K "__init__" "Down.__init__" b7S f0_Down)
 (oi_Turned:PySem.W.findIn K (.ref C_Turned) "__init__"=ξ (ξ (.ref f0_Turned))) (ck_Turned:ckC K C_Turned "Turned" f0_Turned ["way","part"]=true) (dm0_Turned:Dm K "__init__" "Turned.__init__" b2I f0_Turned)
 (oi_Dyed:PySem.W.findIn K (.ref C_Dyed) "__init__"=ξ (ξ (.ref f0_Dyed))) (ck_Dyed:ckC K C_Dyed "Dyed" f0_Dyed ["one","other","part"]=true) (dm0_Dyed:Dm K "__init__" "Dyed.__init__" b7T f0_Dyed)
 (fi_Plain_cloth:PySem.W.findIn K (.ref C_Plain) "cloth"=ξ (ξ (.ref f_Plain_cloth)))
 (fi_Named_cloth:PySem.W.findIn K (.ref C_Named) "cloth"=ξ (ξ (.ref f_Named_cloth)))
 (fi_Beside_cloth:PySem.W.findIn K (.ref C_Beside) "cloth"=ξ (ξ (.ref f_Beside_cloth)))
 (fi_Above_cloth:PySem.W.findIn K (.ref C_Above) "cloth"=ξ (ξ (.ref f_Above_cloth)))
 (fi_Across_cloth:PySem.W.findIn K (.ref C_Across) "cloth"=ξ (ξ (.ref f_Across_cloth)))
 (fi_Down_cloth:PySem.W.findIn K (.ref C_Down) "cloth"=ξ (ξ (.ref f_Down_cloth)))
 (fi_Turned_cloth:PySem.W.findIn K (.ref C_Turned) "cloth"=ξ (ξ (.ref f_Turned_cloth)))
 (fi_Dyed_cloth:PySem.W.findIn K (.ref C_Dyed) "cloth"=ξ (ξ (.ref f_Dyed_cloth)))
 (fi_Plain_size:PySem.W.findIn K (.ref C_Plain) "size"=ξ (ξ (.ref f_Plain_size)))
 (fi_Named_size:PySem.W.findIn K (.ref C_Named) "size"=ξ (ξ (.ref f_Named_size)))
 (fi_Beside_size:PySem.W.findIn K (.ref C_Beside) "size"=ξ (ξ (.ref f_Beside_size)))
 (fi_Above_size:PySem.W.findIn K (.ref C_Above) "size"=ξ (ξ (.ref f_Above_size)))
 (fi_Across_size:PySem.W.findIn K (.ref C_Across) "size"=ξ (ξ (.ref f_Across_size)))
 (fi_Down_size:PySem.W.findIn K (.ref C_Down) "size"=ξ (ξ (.ref f_Down_size)))
 (fi_Turned_size:PySem.W.findIn K (.ref C_Turned) "size"=ξ (ξ (.ref f_Turned_size)))
 (fi_Dyed_size:PySem.W.findIn K (.ref C_Dyed) "size"=ξ (ξ (.ref f_Dyed_size)))
 (o8:Dm K "size" "Plain.size" a3i f_Plain_size)
 (o0:Dm K "size" "Named.size" a3h f_Named_size)
 (d_Above_size:Dm K "size" "Above.size" a00 f_Above_size)
 (d_Across_size:Dm K "size" "Across.size" a0l f_Across_size)
 (d_Beside_size:Dm K "size" "Beside.size" a0m f_Beside_size)
 (d_Down_size:Dm K "size" "Down.size" a1T f_Down_size)
 (d_Dyed_size:Dm K "size" "Dyed.size" a1U f_Dyed_size)
 (d_Turned_size:Dm K "size" "Turned.size" a0n f_Turned_size)
 (m9:Dm K "cloth" "Plain.cloth" a2g f_Plain_cloth)
 (m8:Dm K "cloth" "Named.cloth" a2f f_Named_cloth)
 (d_Above_cloth:Dm K "cloth" "Above.cloth" a0k f_Above_cloth)
 (d_Across_cloth:Dm K "cloth" "Across.cloth" W7 f_Across_cloth)
 (d_Beside_cloth:Dm K "cloth" "Beside.cloth" W8 f_Beside_cloth)
 (d_Down_cloth:Dm K "cloth" "Down.cloth" a01 f_Down_cloth)
 (d_Dyed_cloth:Dm K "cloth" "Dyed.cloth" a02 f_Dyed_cloth)
 (d_Turned_cloth:Dm K "cloth" "Turned.cloth" W9 f_Turned_cloth)
 (z_dict:PySem.W.nsIn K mainGlobals "dict"=ξ ζ)
 (z_enumerate:PySem.W.nsIn K mainGlobals "enumerate"=ξ ζ)
 (z_int:PySem.W.nsIn K mainGlobals "int"=ξ ζ)
 (z_isinstance:PySem.W.nsIn K mainGlobals "isinstance"=ξ ζ)
 (z_len:PySem.W.nsIn K mainGlobals "len"=ξ ζ)
 (z_list:PySem.W.nsIn K mainGlobals "list"=ξ ζ)
 (z_max:PySem.W.nsIn K mainGlobals "max"=ξ ζ)
 (z_min:PySem.W.nsIn K mainGlobals "min"=ξ ζ)
 (z_range:PySem.W.nsIn K mainGlobals "range"=ξ ζ)
 (z_reversed:PySem.W.nsIn K mainGlobals "reversed"=ξ ζ)
 (z_str:PySem.W.nsIn K mainGlobals "str"=ξ ζ)
 (z_sum:PySem.W.nsIn K mainGlobals "sum"=ξ ζ)
 (z_tuple:PySem.W.nsIn K mainGlobals "tuple"=ξ ζ)
 (z_zip:PySem.W.nsIn K mainGlobals "zip"=ξ ζ)
 (e_LONGEST:PySem.W.nsIn K mainGlobals "LONGEST"=ξ (ξ uu_LONGEST)) (q_LONGEST:a3E K 40 uu_LONGEST=ξ E1)
 (e_STEPS:PySem.W.nsIn K mainGlobals "STEPS"=ξ (ξ (.ref aa_STEPS)))
 (t_STEPS:c5E K 9 aa_STEPS=ξ a5l) (h_STEPS:b3r K aa_STEPS=a5l.map (λkv=>b8P w kv.1))
 (e_LYING_WAYS:PySem.W.nsIn K mainGlobals "LYING_WAYS"=ξ (ξ uu_LYING_WAYS)) (q_LYING_WAYS:a3E K 40 uu_LYING_WAYS=ξ Q9)
 :∃fd:FuncData,(∀(s:AD) (v:AA),BindsTo s fd ⟨[v],[]⟩ [("_law_script",v)])/\∀base:Heap,K.In base->base.Ns mainGlobals mg->U7 l.prog w K mg base CX0 30 fa fd ["_law_script"] (b5K K):=by
 have a0s:FnV K mg "above" a6Z:=a7W (PySem.W.mg_of X G b7c) b7A rfl c0m
 have a2T:Df0 K "above" a5h:=a9L b7c b7A c2i c2M
 have T8:FnV K mg "beside" a37:=a7W (PySem.W.mg_of X G b4s) b41 rfl b8z
 have a1h:Df0 K "beside" a2F:=a9L b4s b41 b9X c0N
 have M5:FnV K mg "cloth_step" V2:=a7W (PySem.W.mg_of X G a6E) a7c rfl b1f
 have V1:Df0 K "cloth_step" Q6:=a9L a6E a7c b3a b3w
 have D7:FnV K mg "size_above" V3:=a7W (PySem.W.mg_of X G a6F) a7d rfl b1g
 have L6:Df0 K "size_above" Q7:=a9L a6F a7d b3b b3x
 have C3:FnV K mg "size_beside" R8:=a7W (PySem.W.mg_of X G a5z) a5I rfl a9X
 have J0:Df0 K "size_beside" M7:=a9L a5z a5I b06 b1k
 have Q0:FnV K mg "size_step" a0q:=a7W (PySem.W.mg_of X G a8q) a8z rfl b3m
 have a1K:Df0 K "size_step" U2:=a9L a8q a8z b4A b40
 have M:MoB K mg:=⟨PySem.W.mg_none_of X G z_dict,PySem.W.mg_none_of X G z_enumerate,PySem.W.mg_none_of X G z_int,PySem.W.mg_none_of X G z_isinstance,PySem.W.mg_none_of X G z_len,PySem.W.mg_none_of X G z_list,PySem.W.mg_none_of X G z_max,PySem.W.mg_none_of X G z_min,PySem.W.mg_none_of X G z_range,PySem.W.mg_none_of X G z_reversed,PySem.W.mg_none_of X G z_str,PySem.W.mg_none_of X G z_sum,PySem.W.mg_none_of X G z_tuple,PySem.W.mg_none_of X G z_zip⟩
 have mm_LONGEST:=PySem.W.mg_of X G e_LONGEST
 have mm_STEPS:=PySem.W.mg_of X G e_STEPS
 have tt_STEPS:Tab l.prog w K aa_STEPS a5l:=c5G 9 t_STEPS h_STEPS (by decide+kernel)
 have mm_LYING_WAYS:=PySem.W.mg_of X G e_LYING_WAYS
 have cc_Plain:=a8t oa_Plain oi_Plain ck_Plain
 have cc_Named:=a8t oa_Named oi_Named ck_Named
 have cc_Beside:=a8t oa_Beside oi_Beside ck_Beside
 have cc_Above:=a8t oa_Above oi_Above ck_Above
 have cc_Across:=a8t oa_Across oi_Across ck_Across
 have cc_Down:=a8t oa_Down oi_Down ck_Down
 have cc_Turned:=a8t oa_Turned oi_Turned ck_Turned
 have cc_Dyed:=a8t oa_Dyed oi_Dyed ck_Dyed
 obtain⟨a,ha⟩:∃a:Ad,a=⟨C_Plain,C_Named,C_Beside,C_Above,C_Across,C_Down,C_Turned,C_Dyed,f_Plain_size,f_Named_size,f_Above_size,f_Across_size,f_Beside_size,f_Down_size,f_Dyed_size,f_Turned_size,f_Plain_cloth,f_Named_cloth,f_Above_cloth,f_Across_cloth,f_Beside_cloth,f_Down_cloth,f_Dyed_cloth,f_Turned_cloth⟩:=⟨_,rfl⟩
 have O:Oc K mg a:=by
  rw [ha];exact⟨cc_Plain.kc,cc_Named.kc,cc_Beside.kc,cc_Above.kc,cc_Across.kc,cc_Down.kc,cc_Turned.kc,cc_Dyed.kc,fi_Plain_cloth,fi_Named_cloth,fi_Beside_cloth,fi_Above_cloth,fi_Across_cloth,fi_Down_cloth,fi_Turned_cloth,fi_Dyed_cloth,fi_Plain_size,fi_Named_size,fi_Beside_size,fi_Above_size,fi_Across_size,fi_Down_size,fi_Turned_size,fi_Dyed_size,(A9 cc_Across.kc (cc_Across.na _ (by decide)) (A9 cc_Down.kc (cc_Down.na _ (by decide)) P0)),(A9 cc_Named.kc (cc_Named.na _ (by decide)) P0),(A9 cc_Dyed.kc (cc_Dyed.na _ (by decide)) P0),(A9 cc_Dyed.kc (cc_Dyed.na _ (by decide)) P0),(A9 cc_Across.kc (cc_Across.na _ (by decide)) (A9 cc_Down.kc (cc_Down.na _ (by decide)) (A9 cc_Turned.kc (cc_Turned.na _ (by decide)) (A9 cc_Dyed.kc (cc_Dyed.na _ (by decide)) P0)))),(A9 cc_Beside.kc (cc_Beside.na _ (by decide)) (A9 cc_Above.kc (cc_Above.na _ (by decide)) P0)),(A9 cc_Plain.kc (cc_Plain.na _ (by decide)) P0),(A9 cc_Turned.kc (cc_Turned.na _ (by decide)) P0)⟩
 refine c2O (c5Q.to X G) hfa (λ_ _ _ _ _ _ _=>rfl) main λbase f fd kb F=> ?_
 have i_Above:M9 l.prog w K mg base "Above" ["parts"] 1:=a0u (k:=0) dm0_Above b9q rfl cc_Above.kc (PySem.W.mg_of X G oa_Above) cc_Above.mo cc_Above.na (by decide+kernel) (by decide) (λ_ _ _ _ _ _=>el2 (λ_ _=>rfl)) λcdv A outer s H E hr=>(G8 (Z2 (pv 0) (pv 1) rfl) a0Z)
 have i_Across:M9 l.prog w K mg base "Across" ["many","part"] 1:=a0u (k:=0) dm0_Across b6X rfl cc_Across.kc (PySem.W.mg_of X G oa_Across) cc_Across.mo cc_Across.na (by decide+kernel) (by decide) (λ_ _ _ _ _ _=>el3 (λ_ _ _=>rfl)) λcdv A outer s H E hr=>(G8 (Z2 (pv 0) (pv 1) rfl) (G8 (Z2 (pv 0) (pv 2) rfl) a0Z))
 have i_Beside:M9 l.prog w K mg base "Beside" ["parts"] 1:=a0u (k:=0) dm0_Beside b6Y rfl cc_Beside.kc (PySem.W.mg_of X G oa_Beside) cc_Beside.mo cc_Beside.na (by decide+kernel) (by decide) (λ_ _ _ _ _ _=>el2 (λ_ _=>rfl)) λcdv A outer s H E hr=>(G8 (Z2 (pv 0) (pv 1) rfl) a0Z)
 have i_Down:M9 l.prog w K mg base "Down" ["many","part"] 1:=a0u (k:=0) dm0_Down c1L rfl cc_Down.kc (PySem.W.mg_of X G oa_Down) cc_Down.mo cc_Down.na (by decide+kernel) (by decide) (λ_ _ _ _ _ _=>el3 (λ_ _ _=>rfl)) λcdv A outer s H E hr=>(G8 (Z2 (pv 0) (pv 1) rfl) (G8 (Z2 (pv 0) (pv 2) rfl) a0Z))
 have i_Dyed:M9 l.prog w K mg base "Dyed" ["one","other","part"] 1:=a0u (k:=0) dm0_Dyed c1M rfl cc_Dyed.kc (PySem.W.mg_of X G oa_Dyed) cc_Dyed.mo cc_Dyed.na (by decide+kernel) (by decide) (λ_ _ _ _ _ _=>el4 (λ_ _ _ _=>rfl)) λcdv A outer s H E hr=>(G8 (Z2 (pv 0) (pv 1) rfl) (G8 (Z2 (pv 0) (pv 2) rfl) (G8 (Z2 (pv 0) (pv 3) rfl) a0Z)))
 have i_Named:M9 l.prog w K mg base "Named" ["name"] 1:=a0u (k:=0) dm0_Named b9r rfl cc_Named.kc (PySem.W.mg_of X G oa_Named) cc_Named.mo cc_Named.na (by decide+kernel) (by decide) (λ_ _ _ _ _ _=>el2 (λ_ _=>rfl)) λcdv A outer s H E hr=>(G8 (Z2 (pv 0) (pv 1) rfl) a0Z)
 have i_Plain:M9 l.prog w K mg base "Plain" ["rows"] 1:=a0u (k:=0) dm0_Plain b9s rfl cc_Plain.kc (PySem.W.mg_of X G oa_Plain) cc_Plain.mo cc_Plain.na (by decide+kernel) (by decide) (λ_ _ _ _ _ _=>el2 (λ_ _=>rfl)) λcdv A outer s H E hr=>(G8 (Z2 (pv 0) (pv 1) rfl) a0Z)
 have i_Turned:M9 l.prog w K mg base "Turned" ["way","part"] 1:=a0u (k:=0) dm0_Turned b6Z rfl cc_Turned.kc (PySem.W.mg_of X G oa_Turned) cc_Turned.mo cc_Turned.na (by decide+kernel) (by decide) (λ_ _ _ _ _ _=>el3 (λ_ _ _=>rfl)) λcdv A outer s H E hr=>(G8 (Z2 (pv 0) (pv 1) rfl) (G8 (Z2 (pv 0) (pv 2) rfl) a0Z))
 have I:Io l.prog w K mg base:=⟨i_Above,i_Across,i_Beside,i_Down,i_Dyed,i_Named,i_Plain,i_Turned⟩
 have b2Y:=b1N l.prog w base (a0U.to X G)
 have a8i:=b3X l.prog w base (a0o.to X G) M
 have b5V:=b5j l.prog w base (a2X.to X G) M a8i
 have b5X:=b5p l.prog w base (a56.to X G) M
 have b5U:=b5i l.prog w base (a1k.to X G) M
 obtain X3:=b3N l.prog w base (E3.to X G) M b5U 12
 obtain a2N:=b3O l.prog w base (O8.to X G) M 12
 have b4l:=b3V l.prog w base (a1J.to X G) M b5V a8i b5X X3 a2N
 have a5w:=b0r l.prog w base (R7.to X G) M
 have b4m:=b3W l.prog w base (a33.to X G)
 have a7N:=a7m l.prog w base (X7.to X G) M X3
 have b0U:=b0s l.prog w base (a12.to X G) M b2Y b4l a5w b4m a7N X3
 obtain a2K:=b3K l.prog w base (I0.to X G) M I 12
 have b4j:=b3T l.prog w base (a31.to X G) a2K
 have b5Y:=b5r l.prog w base (a57.to X G)
 have b8a:=b6L l.prog w base (a7Q.to X G) M
 have a6x:=b1H l.prog w base a (mg:=mg) (by rw [ha];exact o8) O b8a
 have a6w:=b1G l.prog w base a (mg:=mg) (by rw [ha];exact o0) O
 have a07:=a84 l.prog w base (v7.to X G) mm_LONGEST q_LONGEST
 have b2Z:=b1P l.prog w base (L6.to X G) a07
 have b0V:=b0t l.prog w base (J0.to X G) a07
 obtain⟨a0O,Z7,Z8,a1F,a1G,Z9,D_size_of_laid⟩:=b0k l.prog w base a (by rw [ha];exact d_Above_size) (by rw [ha];exact d_Across_size) (by rw [ha];exact d_Beside_size) (by rw [ha];exact d_Down_size) (by rw [ha];exact d_Dyed_size) (by rw [ha];exact d_Turned_size) (d_size_of_laid.to X G) O D7 C3 mm_LYING_WAYS q_LYING_WAYS b2Z a07 a6x a6w b0V 20
 have a8j:=b3Y l.prog w base a (a1K.to X G) O a6x a6w Z8 a0O Z7 a1F Z9 a1G
 have a5v:=b0p l.prog w base a (mg:=mg) (by rw [ha];exact m9) O
 have a5u:=b0o l.prog w base a (mg:=mg) (by rw [ha];exact m8) O
 have a0R:=b1J l.prog w base (D3.to X G) mm_LONGEST q_LONGEST
 have c2b:=c1c l.prog w base (a2T.to X G) M a0R
 have b9D:=b87 l.prog w base (a3Y.to X G) M a0R
 have c4g:=c21 l.prog w base (a9J.to X G) M a0R
 have b2W:=b1L l.prog w base (a2V.to X G) M
 have b9F:=b89 l.prog w base (a9I.to X G)
 have b2V:=b1I l.prog w base (a2U.to X G) M b9F
 have a7M:=a7l l.prog w base (X6.to X G) M
 have b8b:=b6M l.prog w base (a7R.to X G) b2W b2V a7M
 have b9G:=b9a l.prog w base (a34.to X G) mm_STEPS tt_STEPS b8b
 have b4h:=b3R l.prog w base (a3Z.to X G)
 have b5R:=b5f l.prog w base (a54.to X G) b4h
 have b5S:=b5g l.prog w base (a1i.to X G) M b5R
 have b9E:=b88 l.prog w base (a1h.to X G) M a0R
 obtain⟨Z6,U4,U5,a0P,a0Q,U6,D_cloth_of_laid⟩:=a80 l.prog w base a (by rw [ha];exact d_Above_cloth) (by rw [ha];exact d_Across_cloth) (by rw [ha];exact d_Beside_cloth) (by rw [ha];exact d_Down_cloth) (by rw [ha];exact d_Dyed_cloth) (by rw [ha];exact d_Turned_cloth) (d_cloth_of_laid.to X G) O a0s T8 c2b b9D a5v a5u b9E c4g b5S b9G 20
 have a2J:=b1K l.prog w base a (V1.to X G) O a5v a5u U5 Z6 U4 a0P U6 a0Q
 have a3I:=a85 l.prog w base (O7.to X G) M M5 Q0 b5Y a8j a2J
 have c2c:=c1d l.prog w base (b3h.to X G) Q0 a3I a8j
 have b4i:=b3S l.prog w base (a30.to X G) c2c a3I a2J
 have b79:=b6K l.prog w base (a43.to X G) M5 b4i a2J
 have b5W:=b5l l.prog w base (a55.to X G) a5w
 obtain a2L:=b3L l.prog w base (X8.to X G) M 12
 have b5T:=b5h l.prog w base (a1j.to X G)
 obtain⟨a2M,D_law_within⟩:=b3M l.prog w base (d_law_sign.to X G) (d_law_within.to X G) b5T 24
 have b4k:=b3U l.prog w base (a32.to X G) M a2L a2M
 have b2X:=b1M l.prog w base (a2W.to X G) M b4k
 exact c4X l.prog w base F M b0U b4j b79 b5W b2X
end LW
namespace PySem.W.Fast
def tw11548575149555081141:=()
def tw236120380254100269:=()
def tw5911568703365343267:=()
def tw2656531562881692598:=()
def tw14298544079794775768:=()
def tw14180940489161252193:=()
def tw10988631175558428196:=()
def tw8963788879847039789:=()
def tw993044209692117990:=()
def tw6124873072713964378:=()
def tw1650444735770322328:=()
def tw5901428523987040303:=()
def tw11844818188242753052:=()
def tw10374724390578409050:=()
def tw2153341975192630610:=()
def tw12233458871964482901:=()
def tw1020590266068207909:=()
def tw11282502991330924615:=()
def tw1511597531334136212:=()
def tw7065370142692836559:=()
def tw13630372173722994915:=()
def tw4149874455832674074:=()
def tw5963917366717807329:=()
def tw18163783862712047938:=()
def tw11749892660627590282:=()
def tw16731069873036860952:=()
def tw1402865653211334970:=()
def tw11984558352372736348:=()
def tw14985723693404834499:=()
def tw15836854552814407306:=()
def tw2032012648054545144:=()
def tw8948875330991820593:=()
def tw16325434951566701065:=()
def tw2624365264391595732:=()
def tw18086770000976262858:=()
def tw7171118975008707872:=()
def tw14491950231438483844:=()
def tw7525208539093404023:=()
def tw12273254875107934642:=()
def tw5999444370215319444:=()
def tw3059384665126614466:=()
def tw15122151910324122086:=()
def tw13871417683299641646:=()
def tw14973032691520205307:=()
def tw17636830872794653952:=()
def tw5054926776064430606:=()
def tw16559328305838905822:=()
def tw12947401953710145607:=()
def tw13255959479179585677:=()
def tw1548724556011626070:=()
def tw17674919260357210601:=()
def tw12260970423244572614:=()
def tw9625124027070748705:=()
def tw15556010431268886734:=()
def tw1095914842974677706:=()
def tw2551234551389262910:=()
def tw7967527099500681851:=()
def tw2053067163645023423:=()
def tw16847304822764008992:=()
def tw2726622824527339718:=()
def tw7353321015212186041:=()
def tw11543532094761173946:=()
def tw15672216894838398605:=()
def tw15979451101070298999:=()
def tw17099022617073466625:=()
def tw12015820395469659072:=()
def tw5171589776394220054:=()
def tw8911004391323399171:=()
def tw6399605108395133687:=()
def tw16941901953905010737:=()
def tw10250905708114731795:=()
def tw17041886061404215618:=()
def tw14108482912518869709:=()
def tw11529308332226380921:=()
def tw16716796396728271800:=()
def tw4952390103472469227:=()
def tw4696197759384551595:=()
def tw15517175631558439200:=()
def tw9242136735705770748:=()
def tw883817304059785265:=()
def tw9458026137917485909:=()
def tw14080638180713312066:=()
def tw4425354249041853134:=()
def tw7722137303234606881:=()
def tw8663989666530514597:=()
def tw6363145601481556685:=()
def tw15402585781625119562:=()
def tw11887677626684885540:=()
def tw13731608808898267522:=()
def tw16174955359360675695:=()
def tw15922314056040353965:=()
def tw9249975203487954397:=()
def tw5986905265729871055:=()
def tw17629943257672839276:=()
def tw14957245146727303968:=()
def tw3417918874129564952:=()
def tw466338165592624756:=()
def tw17592938288990852237:=()
def tw17865799202625050930:=()
def tw6869740844080220916:=()
def tw6335448604071688711:=()
def tw1540005242355820493:=()
def tw6846374441348810397:=()
def tw10620949495553344617:=()
def tw13939002776870391268:=()
def tw9336963103148002386:=()
def tw3099711401460365284:=()
def tw5035959901354112502:=()
def tw9979992306962674380:=()
def tw5560710511926815820:=()
def tw11790590601440031626:=()
def tw6727572122265106911:=()
def tw6116636316000723225:=()
def tw7840995738830088246:=()
def tw9966796035285063958:=()
def tw8097972396358046390:=()
def tw11505403940669418559:=()
def tw7105272396278182319:=()
def tw1373304064156588813:=()
def tw10405514641712365631:=()
def tw14022286075563669628:=()
def tw1124883573933972273:=()
def tw16018064393405850173:=()
def tw301921716411912243:=()
def tw13786670252689008618:=()
def tw2724761395176851685:=()
def tw5350075195381305951:=()
def tw7842668741811994013:=()
def tw5260719815573220404:=()
def tw15421678060924870769:=()
def tw2716353845031365078:=()
def tw13605637238132007168:=()
def tw313409144641964374:=()
def tw15973016800417203532:=()
def tw5083422606860821306:=()
def tw17983267181638931429:=()
def tw7931166901399895905:=()
def tw11148100256458892262:=()
def tw16792430664643815768:=()
def tw15610782433128354347:=()
def tw2769658481024414859:=()
def tw15656814039546166147:=()
def tw8553575204848573942:=()
def tw2578739506846816332:=()
def tw8180730738837506154:=()
def tw2369719289023947204:=()
def tw10409372289055416769:=()
def tw9225085254893952869:=()
def tw15013193425897860734:=()
def tw16798670950268289341:=()
def tw6327646824768646179:=()
def tw8165929625263290798:=()
def tw11438993470254539213:=()
def tw721777288542091842:=()
def tw11808556778478350140:=()
def tw2601142513574599633:=()
def tw3955784071133504788:=()
def tw1736025765894461515:=()
def tw9949763717807559521:=()
def tw17901737624513043343:=()
def tw6856997561045369122:=()
def tw15119313642743149264:=()
def tw12471081699124433387:=()
def tw7539454167625188392:=()
def tw9863686073488039116:=()
def tw1031543362883072142:=()
def tw6664453666674619823:=()
def tw18267085322461364260:=()
def tw13703687675771630420:=()
def tw2218128203184749922:=()
def tw11425282251268410863:=()
def tw16506713772753874451:=()
def tw10106489888996285918:=()
def tw10971415599455817605:=()
def tw16739579843518199363:=()
def tw9487418480201938804:=()
def tw17431912843940389108:=()
def tw17803371831753104951:=()
def tw10415374113294973791:=()
def tw7941652564795699167:=()
def tw6804211602387487029:=()
def tw17448480363710100474:=()
def tw12509665682654507219:=()
def tw12495954129111820397:=()
def tw16011078890878791827:=()
def tw17270295837975684882:=()
def tw12955840338883059226:=()
def tw8060314737623266124:=()
def tw13935478439196263207:=()
def tw17678286333125131225:=()
def tw8522300810924015091:=()
def tw11816810820085611182:=()
def tw14030267223680442417:=()
def tw2656629914631452347:=()
def tw1002123378283358009:=()
def tw9615963673589971794:=()
def tw10245245873608482177:=()
def tw8613240177126160694:=()
def tw4171848895461325861:=()
def tw3795523315929564857:=()
def tw3327431321369496324:=()
def tw5317126836563818979:=()
def tw2029424326322745485:=()
def tw12639252394353587137:=()
def tw5194379394532484559:=()
def tw6605337838441185515:=()
def tw17167227859197884059:=()
def tw8400393316267867104:=()
end PySem.W.Fast
open PySem PySem.W PyProof.Rows
set_option maxRecDepth 100000 in
set_option maxHeartbeats 0 in
theorem PySem.Challenge.cw_carpetkin_k25_knotted_holds : PySem.Challenge.rw_carpetkin_k25_knotted.Holds := by
 w_on;o_law;k_head;(case hw=>w_witness2)
 k_fill
 refine PU.c6x (k:=30) (x:="_law_script") (l:=PySem.Challenge.rw_carpetkin_k25_knotted) (by decide) rfl rfl (fun w h Y=>PySem.W.kIn_of Y) ?F
 case F=>
  intro w mg fa h KX G hmg;apply LW.c4j KX G hmg
  all_goals first|(apply PU.a9L<;>k_is)|(apply PU.c5R<;>first|k_is|kernel_rfl)|k_is|kernel_rfl|skip
