import PyProof.Rows.All
import Wide.All
import OpenK.AllK
import Wide.FinOn
import Lean
import PyProof.EqAt
import PyProof.EqKinds
import PyProof.TupleCall
import PyProof.Rows.SortPure
import PyProof.Rows.SortWalk
import PyProof.AttrMissHeap
import KE.KDictOf
import KE.KIntText
import PyProof.StrBlockH
import PyProof.CallStr
import PyProof.StrLawsIn
import PyProof.StrLawsOcc
import PyProof.StationsW
import PyProof.ExcClass2
import PyProof.ExcBaseAll.ValueError
import PyProof.RulesTry
import PyProof.Rows.CatchBare
import PyProof.Rows.CatchOwn
import OpenK.KOwn
import PyProof.NsDelKeeps
import PyProof.Rows.RuleDivmod
import PyProof.Rows.SumAny
import PyProof.ExcInit
import PyProof.InstStore
import OpenK.KMake
import PyProof.InstStoreFacts
import PyProof.ExcAttrAll.ValueError
import OpenK.KCls
import PySem.Challenge.RW_carpetkin_k26_counted
set_option hygiene false
local macro_rules
|`(tactic|simp! [$a,*])=>`(tactic|simp (disch:=omega) only [$a,*])
|`(tactic|simp! [$a,*] at $l:ident)=>`(tactic|simp (disch:=omega) only [$a,*] at $l:ident)
local macro_rules
|`(tactic|ext a)=>`(tactic|(refine Q9 (a9 l7 O.kc_Plain O.fi_Plain_counts (by lia) rfl (a9 l6 O.kc_Named O.fi_Named_counts (by lia) rfl (a9 g.Zas O.kc_Beside O.fi_Beside_counts (by lia) rfl (a9 g.Zav O.kc_Above O.fi_Above_counts (by lia) rfl (a9 g.Zat O.kc_Across O.fi_Across_counts (by lia) rfl (a9 g.Zay O.kc_Down O.fi_Down_counts (by lia) rfl (a9 g.Zau O.kc_Turned O.fi_Turned_counts (by lia) rfl (a9 g.Zaz O.kc_Dyed O.fi_Dyed_counts (by lia) rfl A9)))))))) hr ?_ ?_ ?_))
|`(tactic|ext b)=>`(tactic|(refine Q9 (a9 m8 O.kc_Plain O.fi_Plain_size (by lia) rfl (a9 m7 O.kc_Named O.fi_Named_size (by lia) rfl (a9 g.Za0 O.kc_Beside O.fi_Beside_size (by lia) rfl (a9 g.Za4 O.kc_Above O.fi_Above_size (by lia) rfl (a9 g.Za1 O.kc_Across O.fi_Across_size (by lia) rfl (a9 g.Za6 O.kc_Down O.fi_Down_size (by lia) rfl (a9 g.Za2 O.kc_Turned O.fi_Turned_size (by lia) rfl (a9 g.Za7 O.kc_Dyed O.fi_Dyed_size (by lia) rfl A9)))))))) hr ?_ ?_ ?_))
|`(tactic|ext c)=>`(tactic|(refine b4 ?_ ?_))
|`(tactic|ext d)=>`(tactic|(intro pins s σ H x y v u Q I rx ry h;obtain⟨F,ra,rb,rz,s0,h1,h2,h3,k⟩:=h))
|`(tactic|ext e)=>`(tactic|(rw [x6] at e;rw [v7] at ok;rw [p9] at h))
|`(tactic|ext f)=>`(tactic|(rw [v7] at ok;rw [p9] at hd;rw [x6] at e))
|`(tactic|ext g)=>`(tactic|(intro X hP hw hK hc i pins s σ H E I hf st hg;subst hP hw hK;obtain⟨f0,f1,f2,f3,f4,f5⟩:=hf it (by simp)))
|`(tactic|ext h)=>`(tactic|(intro pins s σ H xs us Q I rv h;obtain⟨F,x,rx,rz,rfl,s0,h1,h2,k⟩:=h))
|`(tactic|ext i)=>`(tactic|(unfold A1;refine(e8 (e4 _)).trans ?_;refine(e8 (e5 _)).trans ?_;refine(b0 rfl).trans ?_;refine(b0 rfl).trans ?_))
|`(tactic|ext j)=>`(tactic|(obtain⟨o,e,c,d⟩:=st;exact⟨o,e,λv z=>by rw [d] at z;cases z⟩))
|`(tactic|ext k)=>`(tactic|(intro ds o h e;rw [J3] at e;rw [a1p] at o;rw [a0r] at h;obtain⟨d,e1,e⟩:=bind_some e))
|`(tactic|ext l)=>`(tactic|(obtain⟨rx,e1,hm⟩:=bind_some hm;obtain⟨ry,e2,hm⟩:=bind_some hm;refine⟨F,ρ,rx,he,e1,λv F1 H1 o1=>⟨?_,⟨F1,ρ,ry,he.ext o1.x,e2,λu F2 H2 o2=>⟨F2,u,rx,ry,r,rfl,o2.x.fh,o1.rep.ext o2.x,o2.rep,hm,λz F3 H3 o3=>k z F3 H3 (A7.trans (o1.x.trans o2.x) o3)⟩⟩⟩⟩))
|`(tactic|ext m)=>`(tactic|(intro X hP hw hK hc i pins s σ H I fi st hg;subst hP hw hK))
|`(tactic|ext n)=>`(tactic|(intro pins s σ H R I h;refine K6 (hl pins s σ H _ I h) λv s1 h0=>t7 h0 λx H1 I1 r1 q1=> ?_))
|`(tactic|ext o)=>`(tactic|(rename_i c;cases h3;obtain⟨a,xs,rfl,ha,rA⟩:=a5S s0 h1 eA;obtain⟨b,ys,rfl,hb,rB⟩:=a5S s0 h2 eB;cases rx;cases ry;obtain⟨_,ma,va,ka,da⟩:=a6c I.hok ha;obtain⟨_,mb,vb,kb,db⟩:=a6c I.hok hb;have la:A.length=va.length:=by rw [a4f rA,AT];exact Paired.length ka))
|`(tactic|ext p)=>`(tactic|(obtain⟨x,e1,e⟩:=bind_some e))
|`(tactic|ext q)=>`(tactic|(intro pins s σ H Q I h))
|`(tactic|ext r)=>`(tactic|(obtain⟨ds,e1,_⟩:=bind_some e;have hw:M0 (n+1) [.tuple (ps.map n5),kc A]=ξ (.ow (.txt (dN ni ((a58 A ps).foldl adL [])))):=b3E G R ok.2.1 ok.2.2 e1 λp hp d hd'=>ih n (by lia) p d (C3 ok.2.2 hp) (by have:=D3 hp;lia) hd'))
|`(tactic|ext s)=>`(tactic|(obtain⟨u,rfl,ru⟩:=a1O rv))
|`(tactic|ext t)=>`(tactic|(intro pins s σ H x y v u Q I rx ry h))
|`(tactic|ext u)=>`(tactic|(rw [v7] at ok))
|`(tactic|ext v)=>`(tactic|(obtain⟨ds,e1,e⟩:=bind_some e))
|`(tactic|ext w)=>`(tactic|(intro pins s σ H x v vl vu lo hi sl Q I rx hs pl pu h;obtain⟨a,xs,rfl,hx,hw,q⟩:=h;cases rx;obtain⟨its,r,ht,hz⟩:=I.tuple hx;have hlen:its.toArray.size=xs.length:=by rw [Ah];exact r.length.symm))
|`(tactic|ext x)=>`(tactic|(obtain⟨t,rfl⟩:=rx;obtain⟨t',rfl⟩:=ry))
|`(tactic|ext y)=>`(tactic|(refine c5 ?_;refine i5 ?_))
local macro_rules
|`(tactic|ext z)=>`(tactic|(refine(b0 rfl).trans ?_))
|`(tactic|ext aa)=>`(tactic|(obtain⟨z1,z2⟩:=c2W (ψ:=(· *k)) (λn hn=>Nat.mul_pos hn ok.1) (Nat.zero_mul k) hp.gc;rw [l9,cnM];refine z1.cnt λc=> ?_;rw [z2,hp.eq,Nat.mul_comm];unfold cnC))
|`(tactic|ext ab)=>`(tactic|(have q0:0<(l9 C p).n:=f2.1.1;have q1:0<(l9 C p).m:=f2.2.1;have eq:=ih (n+1) (by lia) p x ok.2.2 (by lia) e1 (r %(l9 C p).n) (c %(l9 C p).m) (Nat.mod_lt _ q0) (Nat.mod_lt _ q1)))
|`(tactic|ext ac)=>`(tactic|(refine K6 (hi pins s σ H _ I h) λiv s1 h0=>t7 h0 λy H1 I1 ry q1=>K6 (ho pins s1 σ H1 _ I1 q1) λu s2 ⟨x,H2,I2,rx,a,ov,ex,g,q2⟩=> ?_;subst ex;obtain rfl:u=Value.ref a:=rx))
|`(tactic|ext ad)=>`(tactic|(unfold V3;rw [h1,h2];show b1K i ρ (f a) (S w)=_;unfold b1K;rw [h];show(if(dN f A).length<AO then ξ (Fl.nx _) else ζ)=_;rw [if_pos (by rw [a2R,sizeLine_eq];lia),<-b27]))
|`(tactic|ext ae)=>`(tactic|(have he:=b4S (A:=A.in1) (s:=s) r r' rv rv' λp q x y u w hp' hq' rp' rq' rx' ry'=>ih A.in1 p q x y u w hu1 (W7 okp hp') (W7 okq hq') rp' rq' rx' ry';simp only [PyData.eqv]))
|`(tactic|ext af)=>`(tactic|(intro X hP hw hK hc i pins s σ H E I hf st hg;subst hP hw hK))
|`(tactic|ext ag)=>`(tactic|(obtain⟨kvs',h1,h2⟩:=a6R hr;rw [e1] at h1;cases h1))
|`(tactic|ext ah)=>`(tactic|(cases h3;cases h1;cases h2))
|`(tactic|ext ai)=>`(tactic|(rw [hk] at hr hc ⊢;have hr:r<x.m:=hr;have hc:c<x.n:=hc))
|`(tactic|ext aj)=>`(tactic|(obtain⟨ha,hlt⟩:=hg;obtain⟨hd,vs,rel,dd⟩:=b04 I ha))
|`(tactic|ext ak)=>`(tactic|(obtain⟨f0,f1,f2,f3,f4,f5⟩:=hf it (by simp)))
|`(tactic|ext al)=>`(tactic|(cases ru;obtain⟨_,_,_,_,o,_,_,e1,e2,_⟩:=I.hok a _ hq;exact PySem.W.kia_one PySem.W.kitx_dict I.kIn ⟨o,e1,e2.1⟩ kk (λz=>nomatch z) fin))
|`(tactic|ext am)=>`(tactic|(refine m5 (PW.pt (a3f (k6 (k9 hu) (d6 2) d9) (a0s (k6 (k9 hu) (d6 2) d9)))) ?_ ?_))
|`(tactic|ext an)=>`(tactic|(rw [show a4c f v ((k,x)::r)=(if k=f then(k,v)::r else(k,x)::a4c f v r) from rfl]))
local macro_rules
|`(tactic|exists z0,$k,$s,$e)=>`(tactic|(refine o0 (k:=$k) D $s (λ_ _ _ _ _ _=>$e) λf cdv A outer s H E hr=> ?_;have S:=$s;have hu:=hr.units))
|`(tactic|exists z1,$k,$s,$e)=>`(tactic|(refine x4 (k:=$k) D $s (λ_ _ _ _ _ _=>$e) λcdv A outer s H E hr=> ?_;have S:=$s;have hu:=hr.units))
|`(tactic|exists y0,$y,$n,$i,$d)=>`(tactic|refine a4I (ys:=$y) (N0:=$n) (λ_ _ h=>h) ?_ ⟨by kernel_rfl,rfl,of_decide_eq_true rfl,of_decide_eq_true rfl,of_decide_eq_true rfl⟩ ?_ (λC fp pins s H=>p0 (i:=$i) $d rfl (Or.inl rfl)) (λn h=>G2 (i:=$i) (Nat.le_of_eq h)) (λC fp pins s H=>a2D) ?_)
set_option Elab.async false
set_option linter.all false
set_option maxRecDepth 100000
noncomputable section
open PySem renaming Value->AA,Addr->AB,Shared->AC,Expr->AF,wpAny_bind->AG,wpAny->AH,World->AI,Program->AJ,Around->AK,starEach->AL,wpAny_pure->AN,sizeLine->AO
open PySem.Str renaming ofString->AD
open PySem.W renaming Frag->AE
open List renaming map_cons->AM,replicate->AS,length_map->AT,mem_cons_self->AU,length_cons->AV,length_append->AW,mem_cons->AX,range->AZ,mem_cons_of_mem->Ab,mem_map->Ag,size_toArray->Ah,getElem?_eq_some_iff->Ai,map_map->Aj,getElem?_map->Ak,length_nil->Al,append_nil->Am,map_append->Ao,getElem?_eq_getElem->Ap,map_nil->Aq,mem_append->Ar,mem_append_right->As,replicate_succ->At,length_range->Au,cons_append->Av,getElem?_append_left->Aw,replicate_zero->Az,mem_of_getElem?->BA,nil_append->BD,getElem?_set_self->BE
open Nat renaming le_refl->AQ,ne_of_lt->Ac,lt_of_lt_of_le->An,le_of_lt->Ay
open Option renaming bind_some->AR,map_some->BB
open PySem.Heap renaming get?_push_of_some->AY,lt_size->Aa,get?_push_size->Ae
open Bool renaming false_ne_true->Af,false_eq_true->Ax
open Int renaming toNat_natCast->BC
open Option renaming some→ξ,none→ζ
theorem ω{α:Sort _}{a:α}:a=a:=Eq.trans rfl rfl
abbrev Δ(x:PySem.Str):Prop:=(x==("__debug__":PySem.Str))=false
abbrev Υ:=Option
open PySem.PyData renaming eqv->η
open PySem.PyData renaming eqvAll->θ
open Bool renaming and_eq_true->χ
abbrev ϡa:PySem.Str:="_law_carpet_here"
abbrev ϡb:PySem.Str:="_law_letters_here"
abbrev ϡc:PySem.Str:="_law_found"
abbrev ϡd:PySem.Str:="_law_wish"
abbrev ϡe:PySem.Str:="_law_goal_here"
abbrev ϡf:PySem.Str:="_law_movement_here"
abbrev ϡg:PySem.Str:="_law_due_here"
abbrev ϡh:PySem.Str:="_law_knots"
abbrev ϡi:PySem.Str:="_law_cell"
abbrev ϡj:PySem.Str:="_law_n"
open PySem PySem.Spec PyProof.Rows
namespace L2
abbrev Ψ(e:PySem.Expr)(es:List PySem.Expr)(v:PySem.Env):Prop:=AL (e::es) v=(false,eval e v)::AL es v
abbrev Φ₁(p:PySem.Pos)(es:List PySem.Expr)(v:PySem.Env):Prop:=(backTo p (AL es v)).any (·.1)=false
theorem δ{p:Prop}[Decidable p](h:decide p=true):p:=of_decide_eq_true h
theorem y6{α β γ:Type _}{p q r:α->β->γ->Prop}{C:Prop}(h:∃a b c,p a b c/\q a b c/\r a b c)(k:∀a b c,p a b c->q a b c->r a b c->C):C:=
 h.elim λa h=>h.elim λb h=>h.elim λc h=>k a b c h.1 h.2.1 h.2.2
theorem t7{α β:Type _}{p q r:α->β->Prop}{C:Prop}(h:∃a b,p a b/\q a b/\r a b)(k:∀a b,p a b->q a b->r a b->C):C:=
 h.elim λa h=>h.elim λb h=>k a b h.1 h.2.1 h.2.2
theorem a6h{α β:Type _}{p q r s:α->β->Prop}{C:Prop}(h:∃a b,p a b/\q a b/\r a b/\s a b)(k:∀a b,p a b->q a b->r a b->s a b->C):C:=
 h.elim λa h=>h.elim λb h=>k a b h.1 h.2.1 h.2.2.1 h.2.2.2
abbrev n4:=Sum Int Str
def a32:n4->AA->Bool
 | .inl k,v=>Value.isInt k v
 | .inr x,v=>Value.isStrOf x v
def c58(w:AI):n4->Int
 | .inl k=>hashInt k
 | .inr x=>hashStr w x
theorem C2:∀{k:n4} {v:AA},a32 k v=true->(∃i t,k=Sum.inl i/\v=Value.int i t)\/(∃x t,k=Sum.inr x/\v=Value.str x t)
 | .inl i,v,h=>by
   obtain⟨t,e⟩:=Value.isInt_shape (k:=i) (v:=v) h;exact .inl ⟨i,t,rfl,e⟩
 | .inr x,v,h=>by
   obtain⟨t,e⟩:=Value.isStrOf_shape (x:=x) (v:=v) h;exact .inr ⟨x,t,rfl,e⟩
theorem b7Q(i:Int)(t:Tok):a32 (.inl i) (.int i t)=true:=by simp [a32,Value.isInt]
theorem b7S(x:Str)(t:Tok):a32 (.inr x) (.str x t)=true:=by simp [a32,Value.isStrOf]
theorem c3O(a b:Int):decide ((Sum.inl a:n4)=Sum.inl b)=(a==b):=by
 by_cases e:a=b
 ·subst e;simp
 ·have h:¬(Sum.inl a:n4)=Sum.inl b:=λq=>e (Sum.inl.inj q);rw [decide_eq_false h];exact(beq_eq_false_iff_ne.mpr e).symm
theorem c3R(a b:Str):decide ((Sum.inr a:n4)=Sum.inr b)=decide (a=b):=by
 by_cases e:a=b
 ·subst e;simp
 ·have h:¬(Sum.inr a:n4)=Sum.inr b:=λq=>e (Sum.inr.inj q);rw [decide_eq_false h,decide_eq_false e]
theorem c3P(a:Int)(b:Str):decide ((Sum.inl a:n4)=Sum.inr b)=false:=decide_eq_false (λq=>nomatch q)
theorem c3Q(a:Str)(b:Int):decide ((Sum.inr a:n4)=Sum.inl b)=false:=decide_eq_false (λq=>nomatch q)
def r8(prog:AJ)(w:AI):PySem.KeyKind prog w n4 where
 is:=a32
 hash:=c58 w
 inj:=λv a b ha hb=>by
  rcases C2 ha with⟨i,t,rfl,rfl⟩|⟨x,t,rfl,rfl⟩
  ·rcases C2 hb with⟨j,u,rfl,e⟩|⟨y,u,rfl,e⟩
   ·injection e with e1 _;rw [e1]
   ·exact nomatch e
  ·rcases C2 hb with⟨j,u,rfl,e⟩|⟨y,u,rfl,e⟩
   ·exact nomatch e
   ·injection e with e1 _;rw [e1]
 byValue:=λk v h=>by
   rcases C2 h with⟨i,t,rfl,rfl⟩|⟨x,t,rfl,rfl⟩<;>rfl
 pyHash:=λhv h=>by
  rcases C2 hv with⟨i,t,rfl,rfl⟩|⟨x,t,rfl,rfl⟩
  ·exact wpAny_pyHash_int h
  ·exact wpAny_pyHash_str h
 eqBool:=λhu hv h=>by
  rcases C2 hu with⟨i,t,rfl,rfl⟩|⟨x,t,rfl,rfl⟩
  ·rcases C2 hv with⟨j,u,rfl,rfl⟩|⟨y,u,rfl,rfl⟩
   ·rw [c3O] at h;exact wpAny_eqBool_int h
   ·rw [c3P] at h;exact SeqAt.EqAt.int_str i t y u _ _ _ _ h
  ·rcases C2 hv with⟨j,u,rfl,rfl⟩|⟨y,u,rfl,rfl⟩
   ·rw [c3Q] at h;exact SeqAt.EqAt.str_int x t j u _ _ _ _ h
   ·rw [c3R] at h;exact wpAny_eqBool_str h
 «strs»:=λk x t v h=>by
  rcases C2 h with⟨i,u,rfl,e⟩|⟨y,u,rfl,e⟩
  ·exact nomatch e
  ·injection e with e1 _
   subst e1;cases v<;>rfl
theorem b4c(prog:AJ)(w:AI)(i:Int)(t:Tok):(r8 prog w).is (.inl i) (.int i t)=true:=b7Q i t
theorem a1F(prog:AJ)(w:AI)(x:Str)(t:Tok):(r8 prog w).is (.inr x) (.str x t)=true:=b7S x t
inductive V where
 |non|bl (b:Bool)|int (i:Int)|str (x:Str)|byt (b:Array UInt8)|flt (b:UInt64)|ref (a:AB)|ty (n:String)
 deriving DecidableEq
def u0:V->AA->Prop
 | .non,u=>u=Value.none
 | .bl b,u=>u=Value.bool b
 | .int i,u=>∃t,u=Value.int i t
 | .str x,u=>∃t,u=Value.str x t
 | .byt b,u=>∃t,u=Value.bytes b t
 | .flt b,u=>∃t,u=Value.float b t
 | .ref a,u=>u=Value.ref a
 | .ty n,u=>u=Value.type n
abbrev v9:List V->List AA->Prop:=Paired u0
theorem v9.length{xs:List V}{us:List AA}(r:v9 xs us):xs.length=us.length:=Paired.length r
theorem v9.get:∀{xs:List V} {us:List AA} {i:Nat} {x:V},v9 xs us->xs[i]?=ξ x->∃u,us[i]?=ξ u/\u0 x u
 |_,_,_,_,.nil,e=>by simp at e
 |_,_,0,_,.cons r _,e=>by simp at e;subst e;exact⟨_,rfl,r⟩
 |_,_,i+1,x,.cons _ t,e=>by
  obtain⟨u,h1,h2⟩:=v9.get (i:=i) (x:=x) t (by simpa using e)
  exact⟨u,by simpa using h1,h2⟩
theorem v9.append:∀{xs ys:List V} {us ws:List AA},v9 xs us->v9 ys ws->v9 (xs++ys) (us++ws)
 |_,_,_,_,.nil,s=>s
 |_,_,_,_,.cons r t,s=> .cons r (v9.append t s)
theorem v9.take:∀{xs:List V} {us:List AA} (n:Nat),v9 xs us->v9 (xs.take n) (us.take n)
 |_,_,0,_=> .nil
 |_,_,_+1,.nil=> .nil
 |_,_,n+1,.cons r t=> .cons r (v9.take n t)
theorem v9.drop:∀{xs:List V} {us:List AA} (n:Nat),v9 xs us->v9 (xs.drop n) (us.drop n)
 |_,_,0,r=>r
 |_,_,_+1,.nil=> .nil
 |_,_,n+1,.cons _ t=>v9.drop n t
def a17:Υ V->Υ AA->Prop
 |some v,ξ u=>u0 v u
 |none,ζ=>True
 |_,_=>False
def KV{κ:Type}:List (κ×V)->List (κ×AA)->Prop:=Paired λ(p:κ×V) (q:κ×AA)=>p.1=q.1/\u0 p.2 q.2
def kV:n4->V
 | .inl i=> .int i
 | .inr x=> .str x
inductive HO where
 |lst (xs:List V)
 |tup (xs:List V)
 |dK (kvs:List (n4×V))|dT (kvs:List (List n4×V))
 |set (S:Int->Bool) (n:Nat)
 |ins (C dx:AB) (fs:List (Str×V))
 |own (x:AB)
 |xd (fs:List (Str×V))
 |met (f x:AB)
 |rng (lo hi:Int)
 |frz (o:Obj) (u:HO)
 |tbl (ps:Array AA)
 |ext (φ:Heap->Prop)
abbrev Hp:=AB->Υ HO
def t8(H:Hp)(a:AB)(o:HO):Hp:=λb=>if b=a then ξ o else H b
theorem j1{H:Hp}{a:AB}{o:HO}:t8 H a o a=ξ o:=by unfold t8;rw [if_pos rfl]
theorem i6{H:Hp}{a b:AB}{o:HO}(h:b≠a):t8 H a o b=H b:=by unfold t8;rw [if_neg h]
theorem b7g{H:Hp}{a:AB}{o u:HO}:t8 (t8 H a o) a u=t8 H a u:=by
 funext b;unfold t8;split<;>rfl
theorem a2k{H:Hp}{a b:AB}{o u:HO}(h:H a=ξ o)(h':H b=ξ u)(d:o≠u):a≠b:=by
 intro e;subst e;rw [h] at h';exact d (Option.some.inj h')
theorem m6{H:Hp}{a b:AB}{o:HO}(h:H a=ξ o)(h':H b=ζ):a≠b:=by
 intro e;subst e;rw [h] at h';cases h'
section
variable (P:AJ)(w:AI)
def G3(H:Hp)(h:Heap)(a:AB):HO->Prop
 | .lst xs=>xs.length<=AO/\∃(its:List AA) (n:Nat),v9 xs its/\h.get? a=ξ {cls:= .type "list",data:= .seq its.toArray n}
 | .tup xs=>xs.length<=AO/\∃its:List AA,v9 xs its/\IsTup h a its.toArray
 | .dK kvs=>kvs.length<=AO/\(a==sysModules)=false/\∃vs,KV kvs vs/\h.DictOf (r8 P w) a vs
 | .dT kvs=>kvs.length<=AO/\(a==sysModules)=false/\∃xs:List (List n4×AB×AA),
  Paired (λ(p:List n4×V) (q:List n4×AB×AA)=>p.1=q.1/\H q.2.1=ξ (.tup (p.1.map kV))/\u0 p.2 q.2.2) kvs xs/\
  ∃o es ep,h.get? a=ξ o/\o.ExactDict/\o.data= .dict es ep/\es.toList=xs.map (entryOfKey (tupleKind (r8 P w)))/\(xs.map (·.1)).Nodup
 | .set S n=>h.SetOf (intKind P w) a S n
 | .ins C dx fs=>H dx=ξ (.own a)/\fs.length<=1000/\dx≠a/\h.get? a=ξ (PySem.W.instObj C dx)/\
  ∃mA,h.Ns1 dx mA/\(∀f,a17 (fs.lookup f) (mA f))/\PySem.Within mA (fs.map (·.1))
 | .own _=>∃o,h.get? a=ξ o
 | .xd fs=>∃mA,h.Ns1 a mA/\∀f,a17 (fs.lookup f) (mA f)
 | .rng lo hi=>∃t u v,h.get? a=ξ {cls:= .type "range",data:= .fields #[.int lo t,.int hi u,.int 1 v]}
 | .frz o u=>h.get? a=ξ o/\G3 H h a u
 | .tbl ps=>h.get? a=ξ {cls:= .none,data:= .fields ps}
 | .met f x=>h.get? a=ξ (PySem.W.methodObj (.ref f) (.ref x))
 | .ext φ=>φ h/\(∃o,h.get? a=ξ o)/\∀h1 h2:Heap,φ h1->(∀o,h1.get? a=ξ o->h2.get? a=ξ o)->φ h2
def HOk(H:Hp)(h:Heap):Prop:=∀a o,H a=ξ o->G3 P w H h a o
end
section
variable {P:AJ}{w:AI}{H H':Hp}{h h':Heap}{a:AB}{o:HO}
theorem G3.lt(x:G3 P w H h a o):a<h.objs.size:=by
 cases o with
 |lst xs=>obtain⟨_,_,_,_,e⟩:=x;exact Aa e
 |tup xs=>obtain⟨_,_,_,p⟩:=x;exact p.lt
 |dK kvs=>obtain⟨_,_,_,_,o,_,_,e,_⟩:=x;exact Aa e
 |dT kvs=>obtain⟨_,_,_,_,o,_,_,e,_⟩:=x;exact Aa e
 |set S n=>obtain⟨o,_,_,_,e,_⟩:=x;exact Aa e
 |ins C dx fs=>obtain⟨_,_,_,e,_⟩:=x;exact Aa e
 |own y=>obtain⟨_,e⟩:=x;exact Aa e
 |xd fs=>obtain⟨_,⟨_,_,_,e,_⟩,_⟩:=x;exact Aa e
 |rng lo hi=>obtain⟨_,_,_,e⟩:=x;exact Aa e
 |frz ob u=>obtain⟨e,_⟩:=x;exact Aa e
 |tbl ps=>exact Aa (show h.get? a=ξ _ from x)
 |met f y=>exact Aa (show h.get? a=ξ _ from x)
 |ext φ=>obtain⟨_,⟨_,e⟩,_⟩:=x;exact Aa e
theorem Paired.mapP{α β:Type}{F G:α->β->Prop}:∀{l₁:List α} {l₂:List β},Paired F l₁ l₂->(∀a b,F a b->G a b)->Paired G l₁ l₂
 |_,_,.nil,_=> .nil
 |_,_,.cons r t,f=> .cons (f _ _ r) (Paired.mapP t f)
theorem G3.stay(x:G3 P w H h a o)(k:∀b u,(b=a\/H b=ξ (.own a))->h.get? b=ξ u->h'.get? b=ξ u)
 (ho:∀b,H b=ξ (.own a)->H' b=ξ (.own a)) (ht:∀b xs,H b=ξ (.tup xs)->H' b=ξ (.tup xs)):G3 P w H' h' a o:=by
 induction o with
 |lst xs=>obtain⟨z,its,n,r,e⟩:=x;exact⟨z,its,n,r,k _ _ (.inl rfl) e⟩
 |tup xs=>obtain⟨z,its,r,ob,e,c⟩:=x;exact⟨z,its,r,ob,k _ _ (.inl rfl) e,c⟩
 |dK kvs=>obtain⟨z,y,vs,r,ob,es,ep,e,c⟩:=x;exact⟨z,y,vs,r,ob,es,ep,k _ _ (.inl rfl) e,c⟩
 |dT kvs=>
  obtain⟨z,y,xs,r,ob,es,ep,e,c⟩:=x
  exact⟨z,y,xs,Paired.mapP r λp q z=>⟨z.1,ht _ _ z.2.1,z.2.2⟩,ob,es,ep,k _ _ (.inl rfl) e,c⟩
 |set S n=>obtain⟨ob,es,ep,t,e,c⟩:=x;exact⟨ob,es,ep,t,k _ _ (.inl rfl) e,c⟩
 |ins C dx fs=>
  obtain⟨d,z,ne,e,mA,⟨od,es,ep,e2,c⟩,r⟩:=x
  exact⟨ho _ d,z,ne,k _ _ (.inl rfl) e,mA,⟨od,es,ep,k _ _ (.inr d) e2,c⟩,r⟩
 |own y=>obtain⟨ob,e⟩:=x;exact⟨ob,k _ _ (.inl rfl) e⟩
 |xd fs=>obtain⟨mA,⟨od,es,ep,e,c⟩,r⟩:=x;exact⟨mA,⟨od,es,ep,k _ _ (.inl rfl) e,c⟩,r⟩
 |rng lo hi=>obtain⟨t,u,v,e⟩:=x;exact⟨t,u,v,k _ _ (.inl rfl) e⟩
 |frz ob u ih=>obtain⟨e,q⟩:=x;exact⟨k _ _ (.inl rfl) e,ih q⟩
 |tbl ps=>
  have e:h.get? a=ξ {cls:= .none,data:= .fields ps}:=x
  show h'.get? a=ξ {cls:= .none,data:= .fields ps}
  exact k a _ (.inl rfl) e
 |met f y=>
  have e:h.get? a=ξ (PySem.W.methodObj (.ref f) (.ref y)):=x
  show h'.get? a=ξ (PySem.W.methodObj (.ref f) (.ref y))
  exact k a _ (.inl rfl) e
 |ext φ=>obtain⟨p,⟨o,e⟩,st⟩:=x;exact⟨st _ _ p λo q=>k _ _ (.inl rfl) q,⟨o,k _ _ (.inl rfl) e⟩,st⟩
theorem HOk.lt(x:HOk P w H h)(e:H a=ξ o):a<h.objs.size:=(x a o e).lt
theorem HOk.fresh(x:HOk P w H h)(e:h.objs.size<=a):H a=ζ:=by
 cases q:H a with
 |none=>rfl
 |some u=>exact absurd (An (x.lt q) e) (Nat.lt_irrefl _)
theorem HOk.kept(x:HOk P w H h)(k:∀b u,h.get? b=ξ u->h'.get? b=ξ u):HOk P w H h':=λa o e=>
 (x a o e).stay (λb u _ q=>k b u q) (λ_ q=>q) λ_ _ q=>q
theorem HOk.laid(x:HOk P w H h)(k:∀b u,h.get? b=ξ u->h'.get? b=ξ u)(hp:h.objs.size<=a)(new:G3 P w (t8 H a o) h' a o):HOk P w (t8 H a o) h':=λb u e=>by
 have hn:=x.fresh hp
 by_cases hb:b=a
 ·subst hb;rw [j1] at e;cases e;exact new
 ·rw [i6 hb] at e;exact(x b u e).stay (λc v _ q=>k c v q) (λc q=>by rw [i6 (m6 q hn)];exact q) λc xs q=>by rw [i6 (m6 q hn)];exact q
end
def Rd(H:Hp)(a:AB)(u:HO):Prop:=H a=ξ u\/∃o,H a=ξ (.frz o u)
theorem Rd.ok{P:AJ}{w:AI}{H:Hp}{h:Heap}{a:AB}{u:HO}(r:Rd H a u)(x:HOk P w H h):G3 P w H h a u:=by
 rcases r with r|⟨o,r⟩
 ·exact x a u r
 ·obtain⟨_,q⟩:=x a _ r;exact q
def Mut:Υ HO->Prop
 |some (.lst _)=>True
 |some (.dK _)=>True
 |some (.dT _)=>True
 |some (.set _ _)=>True
 |some (.ins _ _ _)=>True
 |some (.ext _)=>True
 |_=>False
section
variable {P:AJ}{w:AI}{H:Hp}{h h':Heap}{x e:AB}{o':HO}
theorem HOk.write(ok:HOk P w H h)(mu:Mut (H x))(he:e=x\/H e=ξ (.own x))(k:∀b u,b≠e->h.get? b=ξ u->h'.get? b=ξ u)(heo:∃u,h'.get? e=ξ u)
 (new:G3 P w (t8 H x o') h' x o'):HOk P w (t8 H x o') h':=λb u q=>by
 have nown:∀c y,H c=ξ (.own y)->c≠x:=λc y r z=>by subst z;rw [r] at mu;exact mu
 have ntup:∀c xs,H c=ξ (.tup xs)->c≠x:=λc xs r z=>by subst z;rw [r] at mu;exact mu
 by_cases hb:b=x
 ·subst hb;rw [j1] at q;cases q;exact new
 ·rw [i6 hb] at q
  by_cases hbe:b=e
  ·have q':H b=ξ (.own x):=by
    rcases he with z|z
    ·exact absurd (hbe.trans z) hb
    ·rw [hbe];exact z
   rw [q] at q';cases q';obtain⟨v,hv⟩:=heo;exact⟨v,by rw [hbe];exact hv⟩
  ·refine(ok b u q).stay (λc v hc r=>k c v ?_ r) (λc r=>by rw [i6 (nown c b r)];exact r) λc xs r=>by rw [i6 (ntup c xs r)];exact r
   rcases hc with rfl|hc
   ·exact hbe
   ·rintro rfl
    rcases he with z|z
    ·exact nown c b hc z
    ·rw [hc] at z;cases z;exact hb rfl
end
structure Un(fs ex:List AB)(H H':Hp)(h h':Heap):Prop where
 keep:∀b o,h.get? b=ξ o->H b=ζ->b∉fs->b∉ex->h'.get? b=ξ o
 slot:∀b o,h.get? b=ξ o->H b=ζ->b∈fs->b∉ex->∃sl,h'.get? b=ξ {o with slots:=sl}
 free:∀b o,h.get? b=ξ o->H b=ζ->b∉ex->H' b=ζ
 there:∀b o,h.get? b=ξ o->b∉ex->∃o',h'.get? b=ξ o'
 tups:∀b xs,H b=ξ (.tup xs)->H' b=ξ (.tup xs)
 frzs:∀b o u,H b=ξ (.frz o u)->H' b=ξ (.frz o u)
 tbls:∀b ps,H b=ξ (.tbl ps)->∃more,H' b=ξ (.tbl (ps++more))
section
variable {fs fs' ex ex':List AB}{H H1 H2:Hp}{h h1 h2 h':Heap}{a x e:AB}{o:HO}
theorem Un.any(u:Un fs ex H H1 h h1){b:AB}{ob:Obj}(q:h.get? b=ξ ob)(n:H b=ζ)(hx:b∉ex):∃sl,h1.get? b=ξ {ob with slots:=sl}:=by
 by_cases hb:b∈fs
 ·exact u.slot b ob q n hb hx
 ·exact⟨ob.slots,u.keep b ob q n hb hx⟩
theorem Un.kept(k:∀b u,h.get? b=ξ u->h'.get? b=ξ u):Un fs ex H H h h':=
 ⟨λb ob q _ _ _=>k b ob q,λb ob q _ _ _=>⟨ob.slots,k b ob q⟩,λ_ _ _ n _=>n,λb ob q _=>⟨ob,k b ob q⟩,λ_ _ q=>q,λ_ _ _ q=>q,λ_ ps q=>⟨#[],by rw [q];simp⟩⟩
theorem Un.refl:Un fs ex H H h h:=Un.kept λ_ _ q=>q
theorem Un.laid(k:∀b u,h.get? b=ξ u->h'.get? b=ξ u)(hp:h.objs.size<=a)(hn:H a=ζ):Un fs ex H (t8 H a o) h h' where
 keep:=λb u q _ _ _=>k b u q
 slot:=λb u q _ _ _=>⟨u.slots,k b u q⟩
 free:=λb u q n _=>by rw [i6 (Ac (An (Aa q) hp))];exact n
 there:=λb u q _=>⟨u,k b u q⟩
 tups:=λb xs q=>by rw [i6 (m6 q hn)];exact q
 frzs:=λb u xs q=>by rw [i6 (m6 q hn)];exact q
 tbls:=λb ps q=>⟨#[],by rw [i6 (m6 q hn),q];simp⟩
theorem Un.write(mu:Mut (H x))(he:e=x\/H e=ξ (.own x))(k:∀b u,b≠e->h.get? b=ξ u->h'.get? b=ξ u)(heo:∃u,h'.get? e=ξ u):Un fs ex H (t8 H x o) h h':=by
 have hx:∀b,H b=ζ->b≠x:=λb n z=>by subst z;rw [n] at mu;exact mu
 have hb:∀b,H b=ζ->b≠e:=λb n z=>by
  subst z;rcases he with r|r
  ·exact hx b n r
  ·rw [n] at r;cases r
 have hm:∀b u,H b=ξ u->¬Mut (ξ u)->b≠x:=λb u q nm z=>by subst z;rw [q] at mu;exact nm mu
 refine⟨λb u q n _ _=>k b u (hb b n) q,λb u q n _ _=>⟨u.slots,k b u (hb b n) q⟩,λb u q n _=>by rw [i6 (hx b n)];exact n,λb u q _=> ?_,
  λb xs q=>by rw [i6 (hm b _ q λz=>z)];exact q,λb u xs q=>by rw [i6 (hm b _ q λz=>z)];exact q,λb ps q=>⟨#[],by rw [i6 (hm b _ q λz=>z),q];simp⟩⟩
 by_cases hbe:b=e
 ·subst hbe;exact heo
 ·exact⟨u,k b u hbe q⟩
end
def trk(h:Heap)(H:Hp):List AB:=(AZ h.objs.size).filter λa=>(H a).isSome
def b2n(h:Heap)(H:Hp):Heap:=PySem.W.hideAll h (trk h H)
theorem b7K(h:Heap)(H:Hp):(b2n h H).objs.size=h.objs.size:=PySem.W.hideAll_size _ _
theorem b9k{h:Heap}{H:Hp}{b:AB}{o:Obj}(e:h.get? b=ξ o)(n:H b=ζ):(b2n h H).get? b=ξ o:=
 PySem.W.hideAll_get _ e λhm=>by
  have q:(H b).isSome=true:=(List.mem_filter.mp hm).2;rw [n] at q;simp at q
theorem c1G{h:Heap}{H:Hp}{b:AB}{o:Obj}(e:(b2n h H).get? b=ξ o):h.get? b=ξ o/\H b=ζ:=by
 have e':h.get? b=ξ o:=PySem.W.of_hideAll (trk h H) e;refine⟨e', ?_⟩;cases q:H b with
 |none=>rfl
 |some x=>
  have hm:b∈trk h H:=List.mem_filter.mpr ⟨List.mem_range.mpr (Aa e'),by simp [q]⟩
  have z:(b2n h H).get? b=ζ:=PySem.W.hideAll_none (trk h H) hm;rw [z] at e;cases e
structure Mod(K:AE)(mg:Str->Υ AA)(base:Heap):Prop where
 kin:K.In base
 glob:base.Ns mainGlobals mg
 blt:∃mb,base.Ns builtinsNs mb/\∀x:Str,x≠"__name__"->mb x=bootBuiltins x
 nolimit:base.NoLimit
structure Cx where
 prog:AJ
 w:AI
 K:AE
 mg:Str->Υ AA
 base:Heap
 A:AK
 N:List Str
 s₀:AC
 H₀:Hp
 env:Env
 outer:List Env
 stack:List Env
 ex:List AB
 fn:Str->Bool
 calm:Bool
 pn:List (AB×Obj)
 xe:AA->AC->Prop
def frs(l:List Env):List AB:=l.filterMap (·.frame)
abbrev Cx.fs(X:Cx):List AB:=frs X.outer
def Vis(sc:Scope)(x:Str):Prop:=sc.names.lookup x=ξ .local\/sc.names.lookup x=ξ .cell\/sc.names.lookup x=ξ .free
def Loc(sc:Scope)(x:Str):Prop:=sc.names.lookup x=ξ .local\/sc.names.lookup x=ξ .cell
def c5Z(env:Env)(h:Heap)(m:Str->Υ AA)(x:Str)(u:AA):Prop:=
 (env.kindOf x=ξ .local/\m x=ξ u)\/((env.kindOf x=ξ .cell\/env.kindOf x=ξ .free)/\∃c,env.cells.lookup x=ξ c/\h.IsCell c (ξ u))
structure Cx.Ok(X:Cx):Prop where
 mod:Mod X.K X.mg X.base
 kind:X.env.scope.kind= .function
 glob:X.env.globals=mainGlobals
 blt:X.env.builtins=builtinsNs
 above:X.s₀.heap.objs.size<=X.env.locals
 inj:∀x y c,X.env.cells.lookup x=ξ c->X.env.cells.lookup y=ξ c->x=y
 has:∀x,(X.env.kindOf x=ξ .cell\/X.env.kindOf x=ξ .free)->∃c,X.env.cells.lookup x=ξ c
 cab:∀x c,X.fn x=true->X.env.cells.lookup x=ξ c->X.s₀.heap.objs.size<=c
 hd:X.calm=true->X.A.handled=ζ
 frames:X.A.frames=ξ X.stack
 stk:X.stack=X.outer\/(X.stack=X.env::X.outer/\X.env.frame=ξ X.env.locals)
 exf:∀b∈X.ex,b≠X.env.locals/\∀x c,X.env.cells.lookup x=ξ c->c≠b
 bs:∀b o,X.base.get? b=ξ o->X.s₀.heap.get? b=ξ o/\X.H₀ b=ζ
 bsz:X.base.objs.size<=X.s₀.heap.objs.size
 noex:∀b o,X.base.get? b=ξ o->b∉X.ex
 exfs:∀b∈X.ex,b∉X.fs
 funs:X.s₀.heap.FunFrames X.base X.outer
 frf:∀b∈X.fs,X.H₀ b=ζ
structure l8(X:Cx)(pins:List (AB×Obj))(σ:List (Υ V))(H:Hp)(s:AC):Prop where
 ok:X.Ok
 os:s.os=X.s₀.os
 bare:AllBare s.gens
 base:Un X.fs X.ex X.H₀ H X.s₀.heap s.heap
 loc:∃m,s.heap.Ns X.env.locals m/\∀(i:Nat) (x:Str) (v:V),X.N[i]?=ξ x->σ[i]?=ξ (ξ v)->Vis X.env.scope x->∃u,u0 v u/\c5Z X.env s.heap m x u
 cell:∀x c,X.env.cells.lookup x=ξ c->∃v,s.heap.IsCell c v
 free:H X.env.locals=ζ
 freeC:∀x c,X.env.cells.lookup x=ξ c->H c=ζ
 pin:∀p∈X.pn++pins,s.heap.get? p.1=ξ p.2/\H p.1=ζ/\p.1≠X.env.locals/\p.1∉X.fs/\∀v,p.2.data≠.cell v
 hok:HOk X.prog X.w H s.heap
 len:σ.length=X.N.length
section
variable {X:Cx}{pins:List (AB×Obj)}{σ:List (Υ V)}{H H':Hp}{s:AC}{h':Heap}
theorem Cx.Ok.nofr(ok:X.Ok){b:AB}{o:Obj}(e:X.base.get? b=ξ o):b∉X.fs:=λhb=>by
 have:=(ok.funs.mem hb).1;rw [e] at this;cases this
theorem l8.bs(I:l8 X pins σ H s):∀b o,X.base.get? b=ξ o->s.heap.get? b=ξ o/\H b=ζ:=λb o e=>
 ⟨I.base.keep b o (I.ok.bs b o e).1 (I.ok.bs b o e).2 (I.ok.nofr e) (I.ok.noex b o e),I.base.free b o (I.ok.bs b o e).1 (I.ok.bs b o e).2 (I.ok.noex b o e)⟩
theorem l8.bk(I:l8 X pins σ H s):∀b o,X.base.get? b=ξ o->s.heap.get? b=ξ o:=λb o e=>(I.bs b o e).1
theorem l8.mod(I:l8 X pins σ H s):Mod X.K X.mg X.base:=I.ok.mod
theorem l8.kIn(I:l8 X pins σ H s):X.K.In s.heap:=I.ok.mod.kin.keeps I.bk
theorem l8.lt(I:l8 X pins σ H s):X.env.locals<s.heap.objs.size:=by obtain⟨_,hn,_⟩:=I.loc;exact hn.lt
theorem l8.sz(I:l8 X pins σ H s):X.s₀.heap.objs.size<=s.heap.objs.size:=Nat.le_trans I.ok.above (Ay I.lt)
theorem l8.nofs(I:l8 X pins σ H s){a:AB}(h:s.heap.objs.size<=a):a∉X.fs:=λhb=>by
 obtain⟨_,o,ho,_⟩:=I.ok.funs.mem hb;exact absurd (An (Aa ho) (Nat.le_trans I.sz h)) (Nat.lt_irrefl _)
theorem l8.cne(I:l8 X pins σ H s):∀x c,X.env.cells.lookup x=ξ c->c≠X.env.locals:=λx c e z=>by
 obtain⟨v,o,ho,hd⟩:=I.cell x c e;obtain⟨m,⟨o',es,ep,ho',hd',_⟩,_⟩:=I.loc;rw [z,ho'] at ho;cases ho;rw [hd'] at hd;cases hd
theorem l8.funs(I:l8 X pins σ H s):s.heap.FunFrames X.base X.outer:=by
 have all:∀(l:List Env),(∀b∈frs l,b∈X.fs)->X.s₀.heap.FunFrames X.base l->s.heap.FunFrames X.base l:=by
  intro l
  induction l with
  |nil=>intro _ _;trivial
  |cons env r ih=>
   intro hs hl;obtain⟨hk,⟨L,o,hf,hn,ho,hd⟩,hr⟩:=hl;have hL:L∈X.fs:=hs L (by unfold frs;rw [List.filterMap_cons,hf];exact AU)
   obtain⟨sl,e⟩:=I.base.slot L o ho (I.ok.frf L hL) hL λz=>I.ok.exfs L z hL;exact⟨hk,⟨L,_,hf,hn,e,hd⟩,ih (λb hb=>hs b (by unfold frs;rw [List.filterMap_cons,hf];exact Ab _ hb)) hr⟩
 exact all X.outer (λ_ hb=>hb) I.ok.funs
theorem l8.stack(I:l8 X pins σ H s):s.heap.FunFrames X.base X.stack:=by
 rcases I.ok.stk with e|⟨e,hf⟩
 ·rw [e];exact I.funs
 ·rw [e];obtain⟨m,hn,_⟩:=I.loc;refine .cons (by rw [I.ok.kind];decide) hf hn ?_ I.funs
  exact Heap.get?_none_of_le (Nat.le_trans I.ok.bsz I.ok.above)
theorem l8.stkSub(I:l8 X pins σ H s):∀b∈frs X.stack,b∈X.env.locals::X.fs:=λb hb=>by
 rcases I.ok.stk with e|⟨e,hf⟩
 ·rw [e] at hb;exact Ab _ hb
 ·rw [e] at hb;unfold frs at hb;rw [List.filterMap_cons,hf] at hb;exact hb
theorem l8.stkFree(I:l8 X pins σ H s):∀b∈frs X.stack,H b=ζ:=λb hb=>by
 rcases AX.mp (I.stkSub b hb) with e|hb
 ·rw [e];exact I.free
 ·obtain⟨_,o,ho,_⟩:=I.ok.funs.mem hb;exact I.base.free b o ho (I.ok.frf b hb) λz=>I.ok.exfs b z hb
theorem l8.step{g':Array GenState}{t':Nat}{d':Drawn}{ch:List AB}(I:l8 X pins σ H s)
 (hch:∀b∈ch,(b∈X.ex\/X.s₀.heap.objs.size<=b)/\b≠X.env.locals/\(∀x c,X.env.cells.lookup x=ξ c->c≠b)/\∀p∈X.pn++pins,p.1≠b)
 (keep:∀b o,b≠X.env.locals->b∉X.fs->b∉ch->s.heap.get? b=ξ o->H b=ζ->h'.get? b=ξ o)
 (slot:∀b o,b≠X.env.locals->b∈X.fs->b∉ch->s.heap.get? b=ξ o->H b=ζ->∃sl,h'.get? b=ξ {o with slots:=sl}) (free:∀b o,b∉ch->s.heap.get? b=ξ o->H b=ζ->H' b=ζ)
 (there:∀b o,b∉ch->s.heap.get? b=ξ o->∃o',h'.get? b=ξ o')
 (tups:∀b xs,H b=ξ (.tup xs)->H' b=ξ (.tup xs)) (frzs:∀b o u,H b=ξ (.frz o u)->H' b=ξ (.frz o u)) (tbls:∀b ps,H b=ξ (.tbl ps)->∃more,H' b=ξ (.tbl (ps++more)))
 (ns:∀m,s.heap.Ns X.env.locals m->h'.Ns X.env.locals m) (hok:HOk X.prog X.w H' h') (hg:AllBare g'):
 l8 X pins σ H' {s with heap:=h',gens:=g',drawn:=d',toks:=t'}:=by
 have neL:∀b o,X.s₀.heap.get? b=ξ o->b≠X.env.locals:=λb o e=>Ac (An (Aa e) I.ok.above)
 have neC:∀b o,X.s₀.heap.get? b=ξ o->b∉X.ex->b∉ch:=λb o e hx hb=>by
  rcases(hch b hb).1 with z|z
  ·exact hx z
  ·exact absurd (An (Aa e) z) (Nat.lt_irrefl _)
 have cellK:∀x c,X.env.cells.lookup x=ξ c->∀v,s.heap.IsCell c v->h'.IsCell c v:=λx c e v ⟨o,ho,hd⟩=>by
  have nch:c∉ch:=λz=>(hch c z).2.2.1 x c e rfl
  by_cases hc:c∈X.fs
  ·obtain⟨sl,q⟩:=slot c o (I.cne x c e) hc nch ho (I.freeC x c e);exact⟨_,q,hd⟩
  ·exact⟨o,keep c o (I.cne x c e) hc nch ho (I.freeC x c e),hd⟩
 refine⟨I.ok,I.os,hg,⟨λb o e n hb hx=> ?_,λb o e n hb hx=> ?_,λb o e n hx=> ?_,λb o e hx=> ?_,λb xs e=>tups b xs (I.base.tups b xs e),λb o xs e=>frzs b o xs (I.base.frzs b o xs e),λb ps e=> ?_⟩, ?_,λx c e=> ?_, ?_,λx c e=> ?_,λp hp=> ?_,hok,I.len⟩
 ·exact keep b o (neL b o e) hb (neC b o e hx) (I.base.keep b o e n hb hx) (I.base.free b o e n hx)
 ·obtain⟨sl,e1⟩:=I.base.slot b o e n hb hx
  obtain⟨sl',e2⟩:=slot b _ (neL b o e) hb (neC b o e hx) e1 (I.base.free b o e n hx)
  exact⟨sl',e2⟩
 ·obtain⟨o',e1⟩:=I.base.there b o e hx
  exact free b o' (neC b o e hx) e1 (I.base.free b o e n hx)
 ·obtain⟨o',e1⟩:=I.base.there b o e hx
  exact there b o' (neC b o e hx) e1
 ·obtain⟨m1,e1⟩:=I.base.tbls b ps e
  obtain⟨m2,e2⟩:=tbls b _ e1
  exact⟨m1++m2,by rw [e2,Array.append_assoc]⟩
 ·obtain⟨m,hn,hl⟩:=I.loc
  refine⟨m,ns m hn,λi x v e1 e2 e3=> ?_⟩
  obtain⟨u,r,l⟩:=hl i x v e1 e2 e3
  refine⟨u,r, ?_⟩
  rcases l with l|⟨k,c,e,z⟩
  ·exact .inl l
  ·exact .inr ⟨k,c,e,cellK x c e _ z⟩
 ·obtain⟨v,z⟩:=I.cell x c e
  exact⟨v,cellK x c e v z⟩
 ·obtain⟨m,⟨o,_,_,ho,_⟩,_⟩:=I.loc
  exact free _ o (λz=>(hch _ z).2.1 rfl) ho I.free
 ·obtain⟨v,o,ho,hd⟩:=I.cell x c e
  exact free c o (λz=>(hch c z).2.2.1 x c e rfl) ho (I.freeC x c e)
 ·obtain⟨e,n,ne,nf,d⟩:=I.pin p hp
  have nch:p.1∉ch:=λz=>(hch p.1 z).2.2.2 p hp rfl
  exact⟨keep p.1 p.2 ne nf nch e n,free p.1 p.2 nch e n,ne,nf,d⟩
theorem l8.un{t':Nat}(I:l8 X pins σ H s)(u:Un X.fs [] H H' s.heap h')(hok:HOk X.prog X.w H' h'):l8 X pins σ H' {s with heap:=h',toks:=t'}:=by
 obtain⟨m,⟨o,es,ep,ho,r⟩,_⟩:=id I.loc;obtain⟨sl,hL⟩:=u.any ho I.free (by simp)
 exact I.step (g':=s.gens) (d':=s.drawn) (ch:=[]) (λ_ z=>nomatch z) (λb o _ hb _ e n=>u.keep b o e n hb (by simp)) (λb o _ hb _ e n=>u.slot b o e n hb (by simp)) (λb o _ e n=>u.free b o e n (by simp)) (λb o _ e=>u.there b o e (by simp)) u.tups u.frzs u.tbls (λm' hm=>by
  obtain⟨o',es',ep',ho',r'⟩:=hm;rw [ho] at ho';cases ho';exact⟨_,es',ep',hL,r'⟩) hok I.bare
theorem l8.call{g':Array GenState}{t':Nat}{d':Drawn}{ch:List AB}(I:l8 X pins σ H s)(u:Un (frs X.stack) ch H H' s.heap h')(hok:HOk X.prog X.w H' h')(hg:AllBare g')
 (hch:∀b∈ch,(b∈X.ex\/X.s₀.heap.objs.size<=b)/\b≠X.env.locals/\(∀x c,X.env.cells.lookup x=ξ c->c≠b)/\∀p∈X.pn++pins,p.1≠b):
 l8 X pins σ H' {s with heap:=h',gens:=g',drawn:=d',toks:=t'}:=by
 obtain⟨m,⟨o,es,ep,ho,r⟩,_⟩:=id I.loc
 obtain⟨sl,hL⟩:=u.any ho I.free λz=>(hch _ z).2.1 rfl
 exact I.step (ch:=ch) hch (λb o hL hb hc e n=>u.keep b o e n (λz=>(AX.mp (I.stkSub b z)).elim hL hb) hc) (λb o _ _ hc e n=>u.any e n hc) (λb o hc e n=>u.free b o e n hc) (λb o hc e=>u.there b o e hc) u.tups u.frzs u.tbls (λm' hm=>by
  obtain⟨o',es',ep',ho',r'⟩:=hm;rw [ho] at ho';cases ho';exact⟨_,es',ep',hL,r'⟩) hok hg
theorem l8.turned{t':Nat}{it:AB}(I:l8 X pins σ H s)(k:∀b o,b≠it->s.heap.get? b=ξ o->h'.get? b=ξ o)(hn:H it=ζ)(hL:it≠X.env.locals)
 (h1:it∈X.ex\/X.s₀.heap.objs.size<=it) (h2:∀x c,X.env.cells.lookup x=ξ c->c≠it) (h3:∀p∈X.pn++pins,p.1≠it):l8 X pins σ H {s with heap:=h',toks:=t'}:=by
 have nit:∀b u,H b=ξ u->b≠it:=λb u e z=>by rw [z,hn] at e;cases e
 refine I.step (g':=s.gens) (d':=s.drawn) (ch:=[it]) (λb hb=> ?_) (λb o _ _ hc e _=>k b o (λz=>hc (by simp [z])) e) (λb o _ _ hc e _=>⟨o.slots,k b o (λz=>hc (by simp [z])) e⟩) (λ_ _ _ _ n=>n)
  (λb o hc e=>⟨o,k b o (λz=>hc (by simp [z])) e⟩) (λ_ _ e=>e) (λ_ _ _ e=>e) (λb ps e=>⟨#[],by rw [e];simp⟩) (λm hm=> ?_) (λb u e=> ?_) I.bare
 ·have e:b=it:=by simpa using hb
  subst e
  exact⟨h1,hL,h2,h3⟩
 ·obtain⟨o,es,ep,ho,r⟩:=hm
  exact⟨o,es,ep,k _ o (Ne.symm hL) ho,r⟩
 ·refine(I.hok b u e).stay (λc v hc q=>k c v ?_ q) (λ_ q=>q) λ_ _ q=>q
  rcases hc with z|z
  ·rw [z];exact nit b u e
  ·exact nit c _ z
theorem l8.tok(I:l8 X pins σ H s)(t:Nat):l8 X pins σ H {s with toks:=t}:=I.un (h':=s.heap) (t':=t) Un.refl I.hok
theorem l8.kept{t':Nat}(I:l8 X pins σ H s)(k:∀b u,s.heap.get? b=ξ u->h'.get? b=ξ u):l8 X pins σ H {s with heap:=h',toks:=t'}:=I.un (Un.kept k) (I.hok.kept k)
theorem l8.laid{a:AB}{o:HO}{t':Nat}(I:l8 X pins σ H s)(k:∀b u,s.heap.get? b=ξ u->h'.get? b=ξ u)(hp:s.heap.objs.size<=a)(new:G3 X.prog X.w (t8 H a o) h' a o):
 l8 X pins σ (t8 H a o) {s with heap:=h',toks:=t'}:=I.un (Un.laid k hp (I.hok.fresh hp)) (I.hok.laid k hp new)
theorem l8.write{x e:AB}{o:HO}{t':Nat}(I:l8 X pins σ H s)(mu:Mut (H x))(he:e=x\/H e=ξ (.own x))(k:∀b u,b≠e->s.heap.get? b=ξ u->h'.get? b=ξ u)(heo:∃u,h'.get? e=ξ u)
 (new:G3 X.prog X.w (t8 H x o) h' x o):l8 X pins σ (t8 H x o) {s with heap:=h',toks:=t'}:=I.un (Un.write mu he k heo) (I.hok.write mu he k heo new)
theorem l8.weak{σ':List (Υ V)}(I:l8 X pins σ H s)(hl:σ'.length=σ.length)(w:∀(i:Nat) v,σ'[i]?=ξ (ξ v)->σ[i]?=ξ (ξ v)):l8 X pins σ' H s:=
 ⟨I.ok,I.os,I.bare,I.base,let ⟨m,hn,hl'⟩:=I.loc;⟨m,hn,λi x v e1 e2 e3=>hl' i x v e1 (w i v e2) e3⟩,I.cell,I.free,I.freeC,I.pin,I.hok,hl.trans I.len⟩
theorem l8.pins_of{pins':List (AB×Obj)}(I:l8 X pins σ H s)(h:∀p∈pins',s.heap.get? p.1=ξ p.2/\H p.1=ζ/\p.1≠X.env.locals/\p.1∉X.fs/\∀v,p.2.data≠.cell v):l8 X pins' σ H s:=
 ⟨I.ok,I.os,I.bare,I.base,I.loc,I.cell,I.free,I.freeC,λp hp=>(Ar.mp hp).elim (λz=>I.pin p (List.mem_append_left _ z)) (h p),I.hok,I.len⟩
theorem b4f{N:List Str}(hN:N.Nodup){i j:Nat}{x:Str}(a:N[i]?=ξ x)(b:N[j]?=ξ x):i=j:=by
 obtain⟨h1,e1⟩:=Ai.mp a;obtain⟨h2,e2⟩:=Ai.mp b;exact(List.getElem_inj hN).mp (e1.trans e2.symm)
theorem b1H{M:Model}{A:AK}{E:AA->AC->Prop}{i:Nat}{x:Str}{v:V}{u:AA}{Q:Unit->AC->Prop}(I:l8 X pins σ H s)(hN:X.N.Nodup)(hi:X.N[i]?=ξ x)(hx:Loc X.env.scope x)(r:u0 v u)
 (h:∀s',l8 X pins (σ.set i (ξ v)) H s'->(∃a,Heap.SameBut a s.heap s'.heap/\(a=X.env.locals\/X.env.cells.lookup x=ξ a))->Q () s') (hf:X.fn x=true\/X.env.scope.names.lookup x=ξ .local:=by first|exact .inl rfl|exact .inr rfl|assumption):AH M A (storeName X.env x u) Q E s:=by
 obtain⟨m,hn,hl⟩:=id I.loc
 have hcls:(X.env.scope.kind== .class||(X.env.scope.kind== .module && X.env.locals !=X.env.globals))=false:=by rw [I.ok.kind];rfl
 have hiσ:i<σ.length:=by rw [I.len];exact(Ai.mp hi).1
 have cne:=I.cne
 have tracked:∀{a:AB} {h':Heap},(∃o,s.heap.get? a=ξ o/\H a=ζ)->Heap.SameBut a s.heap h'->HOk X.prog X.w H h':=λ {a h'} ha hs b ob e=>by
  obtain⟨_,_,hfree⟩:=ha;refine(I.hok b ob e).stay (λc w' hc q=>(hs.2 c ?_).trans q) (λ_ q=>q) λ_ _ q=>q;rintro rfl;rcases hc with rfl|hc
  ·rw [hfree] at e;cases e
  ·rw [hfree] at hc;cases hc
 rcases hx with hk|hk
 ·refine wpAny_storeName_local hk hn (λh' hn' hs=> ?_) hcls
  obtain⟨oL,_,_,hoL,_⟩:=id hn
  refine h _ ⟨I.ok,I.os,I.bare,⟨λb o e n hb hx=> ?_,λb o e n hb hx=> ?_,I.base.free,λb o e hx=> ?_,I.base.tups,I.base.frzs,I.base.tbls⟩,⟨_,hn',λj y v' e1 e2 e3=> ?_⟩,λy c e=> ?_,I.free,I.freeC,λp hp=> ?_,tracked ⟨oL,hoL,I.free⟩ hs,by simpa using I.len⟩ ⟨_,hs,.inl rfl⟩
  ·exact(hs.2 b (Ac (An (Aa e) I.ok.above))).trans (I.base.keep b o e n hb hx)
  ·obtain⟨sl,e1⟩:=I.base.slot b o e n hb hx
   exact⟨sl,(hs.2 b (Ac (An (Aa e) I.ok.above))).trans e1⟩
  ·obtain⟨o',e1⟩:=I.base.there b o e hx
   exact⟨o',(hs.2 b (Ac (An (Aa e) I.ok.above))).trans e1⟩
  ·by_cases hj:j=i
   ·subst hj
    rw [hi] at e1;cases e1
    rw [BE hiσ] at e2
    cases e2
    exact⟨u,r,.inl ⟨hk,by simp⟩⟩
   ·rw [List.getElem?_set_ne (Ne.symm hj)] at e2
    obtain⟨u',r',q⟩:=hl j y v' e1 e2 e3
    refine⟨u',r', ?_⟩
    rcases q with⟨k,e⟩|⟨k,c,e,z⟩
    ·refine .inl ⟨k, ?_⟩
     have:y≠x:=λe=>hj (b4f hN e1 (e▸hi))
     simp [this,e]
    ·exact .inr ⟨k,c,e,z.sameBut hs (cne y c e)⟩
  ·obtain⟨w',z⟩:=I.cell y c e
   exact⟨w',z.sameBut hs (cne y c e)⟩
  ·obtain⟨e,n,ne,nf,d⟩:=I.pin p hp
   exact⟨(hs.2 p.1 ne).trans e,n,ne,nf,d⟩
 ·have hfn:X.fn x=true:=by
   rcases hf with z|z
   ·exact z
   ·rw [z] at hk;cases hk
  obtain⟨c,hc⟩:=I.ok.has x (.inl hk);obtain⟨w',z⟩:=I.cell x c hc;refine wpAny_storeName_cell I.ok.kind hk hc z (λh' hc' hs=> ?_);obtain⟨oc,hoc,hocd⟩:=id z;refine h {s with heap:=h'} ⟨I.ok,I.os,I.bare,⟨λb o e n hb hx=> ?_,λb o e n hb hx=> ?_,I.base.free,λb o e hx=> ?_,I.base.tups,I.base.frzs,I.base.tbls⟩,⟨m,hn.sameBut hs (Ne.symm (cne x c hc)),λj y v' e1 e2 e3=> ?_⟩,λy c' e=> ?_,I.free,I.freeC,λp hp=> ?_,tracked ⟨oc,hoc,I.freeC x c hc⟩ hs,by simpa using I.len⟩ ⟨c,hs,.inr hc⟩
  ·exact(hs.2 b (Ac (An (Aa e) (I.ok.cab x c hfn hc)))).trans (I.base.keep b o e n hb hx)
  ·obtain⟨sl,e1⟩:=I.base.slot b o e n hb hx;exact⟨sl,(hs.2 b (Ac (An (Aa e) (I.ok.cab x c hfn hc)))).trans e1⟩
  ·obtain⟨o',e1⟩:=I.base.there b o e hx;exact⟨o',(hs.2 b (Ac (An (Aa e) (I.ok.cab x c hfn hc)))).trans e1⟩
  ·by_cases hj:j=i
   ·subst hj;rw [hi] at e1;cases e1;rw [BE hiσ] at e2;cases e2;exact⟨u,r,.inr ⟨.inl hk,c,hc,hc'⟩⟩
   ·rw [List.getElem?_set_ne (Ne.symm hj)] at e2;obtain⟨u',r',q⟩:=hl j y v' e1 e2 e3;refine⟨u',r', ?_⟩;rcases q with q|⟨k,c',e,z'⟩
    ·exact .inl q
    ·refine .inr ⟨k,c',e,z'.sameBut hs ?_⟩;rintro rfl;exact hj (b4f hN e1 (I.ok.inj _ _ _ e hc▸hi))
  ·by_cases hcc:c'=c
   ·subst hcc;exact⟨_,hc'⟩
   ·obtain⟨w2,z2⟩:=I.cell y c' e;exact⟨w2,z2.sameBut hs hcc⟩
  ·obtain⟨e,n,ne,nf,d⟩:=I.pin p hp;refine⟨(hs.2 p.1 ?_).trans e,n,ne,nf,d⟩;intro q;rw [q,hoc] at e;have q':oc=p.2:=Option.some.inj e;exact d w' (by rw [<-q'];exact hocd)
theorem b4N{M:Model}{A:AK}{E:AA->AC->Prop}{i:Nat}{x:Str}{v:V}{u:AA}{Q:Unit->AC->Prop}(I:l8 X pins σ H s)(hN:X.N.Nodup)(hi:X.N[i]?=ξ x)(hx:Loc X.env.scope x)(r:u0 v u)
 (h:∀s',l8 X pins (σ.set i (ξ v)) H s'->Q () s') (hf:X.fn x=true\/X.env.scope.names.lookup x=ξ .local:=by first|exact .inl rfl|exact .inr rfl|assumption):AH M A (storeName X.env x u) Q E s:=
 b1H I hN hi hx r (λs' I' _=>h s' I') hf
theorem l8.call'{s':AC}{ch:List AB}(I:l8 X pins σ H s)(ho:s'.os=s.os)(u:Un (frs X.stack) ch H H' s.heap s'.heap)(hok:HOk X.prog X.w H' s'.heap)(hg:AllBare s'.gens)
 (hch:∀b∈ch,(b∈X.ex\/X.s₀.heap.objs.size<=b)/\b≠X.env.locals/\(∀x c,X.env.cells.lookup x=ξ c->c≠b)/\∀p∈X.pn++pins,p.1≠b):l8 X pins σ H' s':=by
 obtain⟨h',g',d',t',o'⟩:=s'
 have e:o'=s.os:=ho
 subst e
 exact I.call (g':=g') (t':=t') (d':=d') u hok hg hch
end
abbrev XK:=AA->Υ AB->Hp->Prop
abbrev St:=List (Υ V)
abbrev VK:=V->Hp->Prop
abbrev TE:=St->Hp->VK->Prop
abbrev TT:=St->Hp->(Bool->Hp->Prop)->Prop
abbrev TA:=St->Hp->(List V->Hp->Prop)->Prop
structure a1o where
 nx:St->Hp->Prop
 rt:VK
 bk:St->Hp->Prop:=λ_ _=>False
 ct:St->Hp->Prop:=λ_ _=>False
abbrev TS:=a1o->St->Hp->Prop
def EP(X:Cx)(pins:List (AB×Obj))(σ:St)(Q:VK)(u:AA)(s':AC):Prop:=∃v H',l8 X pins σ H' s'/\u0 v u/\Q v H'
def TP(X:Cx)(pins:List (AB×Obj))(σ:St)(Q:Bool->Hp->Prop)(b:Bool)(s':AC):Prop:=∃H',l8 X pins σ H' s'/\Q b H'
def AP(X:Cx)(pins:List (AB×Obj))(σ:St)(Q:List V->Hp->Prop)(us:List AA)(s':AC):Prop:=∃vs H',l8 X pins σ H' s'/\v9 vs us/\Q vs H'
def SP(X:Cx)(pins:List (AB×Obj))(D:a1o)(f:Flow)(s':AC):Prop:=
 match f with
 | .next=>∃σ' H',l8 X pins σ' H' s'/\D.nx σ' H'
 | .brk=>∃σ' H',l8 X pins σ' H' s'/\D.bk σ' H'
 | .cont=>∃σ' H',l8 X pins σ' H' s'/\D.ct σ' H'
 | .ret u=>∃v σ' H',l8 X pins σ' H' s'/\u0 v u/\D.rt v H'
def PE(X:Cx)(e:AF)(t:TE):Prop:=
 ∀pins s σ (H:Hp) (Q:VK),l8 X pins σ H s->t σ H Q->AH (model X.prog X.w) X.A (eval e X.env) (EP X pins σ Q) X.xe s
def PT(X:Cx)(e:AF)(t:TT):Prop:=
 ∀pins s σ (H:Hp) (Q:Bool->Hp->Prop),l8 X pins σ H s->t σ H Q->AH (model X.prog X.w) X.A (isTrue e X.env (eval e X.env)) (TP X pins σ Q) X.xe s
def PW(X:Cx)(e:AF)(t:TT):Prop:=
 ∀(whole:Sem AA) (pins:List (AB×Obj)) (s:AC) (σ:St) (H:Hp) (Q:Bool->Hp->Prop),l8 X pins σ H s->t σ H Q->AH (model X.prog X.w) X.A (isTrue e X.env whole) (TP X pins σ Q) X.xe s
theorem PW.pt{X:Cx}{e:AF}{t:TT}(h:PW X e t):PT X e t:=h _
def PA(X:Cx)(es:List AF)(t:TA):Prop:=
 ∀(pos:Pos) (pins:List (AB×Obj)) (s:AC) (σ:St) (H:Hp) (Q:List V->Hp->Prop),l8 X pins σ H s->t σ H Q->AH (model X.prog X.w) X.A (spliced (backTo pos (AL es X.env))) (AP X pins σ Q) X.xe s
def PS(X:Cx)(st:Stmt)(t:TS):Prop:=
 ∀pins s σ (H:Hp) (D:a1o),l8 X pins σ H s->t D σ H->AH (model X.prog X.w) X.A (exec st X.env) (SP X pins D) X.xe s
def PSs(X:Cx)(st:List Stmt)(t:TS):Prop:=
 ∀pins s σ (H:Hp) (D:a1o),l8 X pins σ H s->t D σ H->AH (model X.prog X.w) X.A (execs st X.env) (SP X pins D) X.xe s
theorem K6{α:Type}{t:Sem α}{Q Q':α->AC->Prop}{M:Model}{A:AK}{E:AA->AC->Prop}{s:AC}(h:AH M A t Q E s)(hQ:∀a s,Q a s->Q' a s):AH M A t Q' E s:=wpAny_mono h hQ λ_ _ x=>x
section
variable {X:Cx}
def a0o(i:Nat):TE:=λσ H Q=>∃v,σ[i]?=ξ (ξ v)/\Q v H
def tC(v:V):TE:=λ_ H Q=>Q v H
theorem c4s{i:Nat}{x:Str}{pos:Pos}(hN:X.N[i]?=ξ x)(hv:Vis X.env.scope x)(hd:Δ x:=by decide)(hcd:(x==("__classdict__":Str))=false:=by decide):PE X (.Name x pos) (a0o i):=by
 ext q
 obtain⟨v,e,h⟩:=h;obtain⟨m,hn,hl⟩:=I.loc;obtain⟨u,r,l⟩:=hl i x v hN e hv;have fin:EP X pins σ Q u s:=⟨v,H,I,r,h⟩;rcases l with⟨hk,hm⟩|⟨hk,c,hc,hcell⟩
 ·exact wpAny_Name (wpAny_loadName_local I.ok.kind hk hn hm fin) hd
 ·rcases hk with hk|hk
  ·exact wpAny_Name (wpAny_loadName_cell I.ok.kind hk hc hcell fin) hd
  ·exact wpAny_Name (wpAny_loadName_free I.ok.kind hk hc hcell fin hcd) hd
theorem c4l{i j pos}:PE X (.Constant (.int i) j pos) (tC (.int i)):=λ_ _ _ H _ I h=>wpAny_Constant_int ⟨.int i,H,I.tok _,⟨_,rfl⟩,h⟩
theorem c5u{b j pos}:PE X (.Constant (.bool b) j pos) (tC (.bl b)):=λ_ _ _ H _ I h=>Constant_bool ⟨.bl b,H,I,rfl,h⟩
theorem c4n{j pos}:PE X (.Constant .none j pos) (tC .non):=λ_ _ _ H _ I h=>Constant_none ⟨.non,H,I,rfl,h⟩
theorem c4q{x j pos}:PE X (.Constant (.str x) j pos) (tC (.str x)):=λ_ _ _ H _ I h=>Calls.Constant_str ⟨.str x,H,I.tok _,⟨_,rfl⟩,h⟩
def Gl(X:Cx)(x:Str):Prop:=X.env.kindOf x=ξ .globalImplicit
theorem a8l{E:AA->AC->Prop}{pins:List (AB×Obj)}{s:AC}{σ:St}{H:Hp}{x:Str}{u:AA}{pos:Pos}{Q:AA->AC->Prop}(I:l8 X pins σ H s)(hg:Gl X x)(hm:X.mg x=ξ u)(h:Q u s)
 (hd:Δ x:=by decide):AH (model X.prog X.w) X.A (eval (.Name x pos) X.env) Q E s:=
 Calls.Name_function_global I.ok.kind hg (Calls.loadGlobal_global (by rw [I.ok.glob];exact I.mod.glob.keeps I.bk) hm h) hd
theorem a7c{E:AA->AC->Prop}{pins:List (AB×Obj)}{s:AC}{σ:St}{H:Hp}{x:Str}{u:AA}{pos:Pos}{Q:AA->AC->Prop}(I:l8 X pins σ H s)(hg:Gl X x)(hm:X.mg x=ζ)(hv:bootBuiltins x=ξ u)(h:Q u s)
 (hn:x≠"__name__":=by decide) (hd:Δ x:=by decide):AH (model X.prog X.w) X.A (eval (.Name x pos) X.env) Q E s:=by
 obtain⟨mb,h1,h2⟩:=I.mod.blt
 exact Calls.Name_function_global I.ok.kind hg (Calls.loadGlobal_builtin (by rw [I.ok.glob];exact I.mod.glob.keeps I.bk) hm (by rw [I.ok.blt];exact h1.keeps I.bk) ((h2 x hn).trans hv) h) hd
theorem b6R{x:Str}{v:V}{u:AA}{pos:Pos}(hg:Gl X x)(hm:X.mg x=ξ u)(r:u0 v u)(hd:Δ x:=by decide):PE X (.Name x pos) (tC v):=
 λ_ _ _ H _ I h=>a8l I hg hm ⟨v,H,I,r,h⟩ hd
theorem a1I{x:Str}{v:V}{u:AA}{pos:Pos}(hg:Gl X x)(hm:X.mg x=ζ)(hv:bootBuiltins x=ξ u)(r:u0 v u)(hn:x≠"__name__":=by decide)(hd:Δ x:=by decide):PE X (.Name x pos) (tC v):=
 λ_ _ _ H _ I h=>a7c I hg hm hv ⟨v,H,I,r,h⟩ hn hd
variable {a b:AF}{ta tb:TE}{pos:Pos}
def PC(X:Cx)(op:CmpOp)(a b:AF)(t:TE):Prop:=
 ∀pins s σ (H:Hp) (Q:VK),l8 X pins σ H s->t σ H Q->
  AH (model X.prog X.w) X.A (eval a X.env) (λv s₁=>AH (model X.prog X.w) X.A (eval b X.env) (λu s₂=>AH (model X.prog X.w) X.A (compareOp op v u) (EP X pins σ Q) X.xe s₂) X.xe s₁) X.xe s
def tB(t:TE):TT:=λσ H Q=>t σ H λx H1=>∃c,x= .bl c/\Q c H1
theorem b5S{op:CmpOp}{t:TE}(h:PC X op a b t)(h1:behindInMarks op b=false:=by first|exact nobehind _ (by decide) (by decide)|rfl):PT X (.Compare a [op] [b] pos) (tB t):=by
 intro pins s σ H Q I hw;refine wpAny_isTrue_Compare1 (K6 (h pins s σ H _ I hw) λv s1 h1=>K6 h1 λu s2 h2=>K6 h2 λc s3 h0=>t7 h0 λx H1 I1 r1 q1=> ?_) h1;obtain⟨d,rfl,q⟩:=q1;cases r1;exact wpAny_truthy_bool ⟨H1,I1,q⟩
theorem c0g{e:AF}{t:TE}(h:PE X e t)(he:∀whole,isTrue e X.env whole=(do let v<-whole;standAt e.pos;holding [v] (truthy v)):=by intro _;rfl):PT X e (tB t):=by
 intro pins s σ H Q I hw;refine isTrue_plain (K6 (h pins s σ H _ I hw) λv s1 h0=>t7 h0 λx H1 I1 r1 q1=> ?_) (he _);obtain⟨d,rfl,q⟩:=q1;cases r1;exact wpAny_truthy_bool ⟨H1,I1,q⟩
variable {tA tB':TT}{rest:List AF}
def c6k(t u:TT):TT:=λσ H Q=>t σ H λc H1=>if c=true then u σ H1 Q else Q false H1
def tOr(t u:TT):TT:=λσ H Q=>t σ H λc H1=>if c=true then Q true H1 else u σ H1 Q
def c6r(t:TT):TT:=λσ H Q=>t σ H λc H1=>Q (!c) H1
theorem c15(ha:PT X a tA):PW X (.BoolOp .And [a] pos) tA:=by
 intro wh pins s σ H Q I h;refine isTrue_and (K6 (ha pins s σ H Q I h) λc s1 e=> ?_);cases c with
 |true=>exact isTrue_and_nil e
 |false=>exact e
theorem c0j(ha:PT X a tA):PW X (.BoolOp .Or [a] pos) tA:=by
 intro wh pins s σ H Q I h;refine isTrue_or (K6 (ha pins s σ H Q I h) λc s1 e=> ?_);cases c with
 |false=>exact isTrue_or_nil e
 |true=>exact e
theorem c4z(ha:PT X a tA)(hb:PW X (.BoolOp .And (b::rest) pos) tB'):PW X (.BoolOp .And (a::b::rest) pos) (c6k tA tB'):=by
 intro wh pins s σ H Q I h;refine isTrue_and (K6 (ha pins s σ H _ I h) λc s1 ⟨H1,I1,q1⟩=> ?_);cases c with
 |true=>exact hb wh pins s1 σ H1 Q I1 q1
 |false=>exact⟨H1,I1,q1⟩
theorem c2X(ha:PT X a tA)(hb:PW X (.BoolOp .Or (b::rest) pos) tB'):PW X (.BoolOp .Or (a::b::rest) pos) (tOr tA tB'):=by
 intro wh pins s σ H Q I h;refine isTrue_or (K6 (ha pins s σ H _ I h) λc s1 ⟨H1,I1,q1⟩=> ?_);cases c with
 |true=>exact⟨H1,I1,q1⟩
 |false=>exact hb wh pins s1 σ H1 Q I1 q1
theorem c0e(ha:PT X a tA):PT X (.UnaryOp .Not a pos) (c6r tA):=by
 ext q
 exact isTrue_not (ha pins s σ H (λc H1=>Q (!c) H1) I h)
def c5I(ta tb:TE):TE:=λσ H Q=>ta σ H λx H1=>∃c,x= .bl c/\if c=true then tb σ H1 Q else Q (.bl false) H1
def c5N(ta:TE):TE:=λσ H Q=>ta σ H λx H1=>∃c,x= .bl c/\Q (.bl (!c)) H1
theorem c4p{op}{t:TE}(h:PE X a t):PE X (.BoolOp op [a] pos) t:=λpins s σ H Q I hw=>BoolOp_one (h pins s σ H Q I hw)
theorem c4j(ha:PE X a ta)(hb:PE X (.BoolOp .And (b::rest) pos) tb):PE X (.BoolOp .And (a::b::rest) pos) (c5I ta tb):=by
 ext q
 refine BoolOp_and (K6 (ha pins s σ H _ I h) λv s1 h0=>t7 h0 λx H1 I1 r1 q1=> ?_);obtain⟨c,rfl,q1⟩:=q1;cases r1;refine wpAny_truthy_bool ?_;cases c with
 |true=>exact hb pins s1 σ H1 Q I1 q1
 |false=>exact⟨.bl false,H1,I1,rfl,q1⟩
theorem c4o(ha:PE X a ta):PE X (.UnaryOp .Not a pos) (c5N ta):=by
 ext q
 refine UnaryOp_ (K6 (ha pins s σ H _ I h) λv s1 h0=>t7 h0 λx H1 I1 r1 q1=> ?_);obtain⟨c,rfl,q1⟩:=q1;cases r1;exact not_of (wpAny_truthy_bool ⟨.bl (!c),H1,I1,rfl,q1⟩)
def tIf(t:TT)(ta tb:TE):TE:=λσ H Q=>t σ H λc H1=>if c=true then ta σ H1 Q else tb σ H1 Q
theorem b92{c:AF}(hc:PT X c tA)(ha:PE X a ta)(hb:PE X b tb):PE X (.IfExp c a b pos) (tIf tA ta tb):=by
 ext q
 refine wpAny_IfExp (K6 (hc pins s σ H _ I h) λd s1 ⟨H1,I1,q1⟩=> ?_);cases d with
 |true=>exact ha pins s1 σ H1 Q I1 q1
 |false=>exact hb pins s1 σ H1 Q I1 q1
end
def SqL(K:AE)(H:Hp)(a:AB)(xs:List V):Prop:=
 Rd H a (.lst xs)\/
  ∃(o:Obj) (its:Array AA) (n:Nat),K.lookup a=ξ o/\o.cls= .type "list"/\o.dict=ζ/\o.data= .seq its n/\its.size<=AO/\v9 xs its.toList
def SqT(K:AE)(H:Hp)(a:AB)(xs:List V):Prop:=
 Rd H a (.tup xs)\/
  ∃(o:Obj) (its:Array AA) (n:Nat),K.lookup a=ξ o/\o.cls= .type "tuple"/\o.data= .seq its n/\its.size<=AO/\v9 xs its.toList
def c52:AA->Υ V
 | .none=>ξ .non
 | .bool b=>ξ (.bl b)
 | .int i _=>ξ (.int i)
 | .str x _=>ξ (.str x)
 | .bytes b _=>ξ (.byt b)
 | .float b _=>ξ (.flt b)
 | .ref a=>ξ (.ref a)
 | .type n=>ξ (.ty n)
 |_=>ζ
theorem u0.abs{x:V}{u:AA}(r:u0 x u):c52 u=ξ x:=by
 cases x with
 |non=>cases r;rfl
 |bl _=>cases r;rfl
 |int _=>obtain⟨t,rfl⟩:=r;rfl
 |str _=>obtain⟨t,rfl⟩:=r;rfl
 |byt _=>obtain⟨t,rfl⟩:=r;rfl
 |flt _=>obtain⟨t,rfl⟩:=r;rfl
 |ref _=>cases r;rfl
 |ty _=>cases r;rfl
theorem u0.inj{x y:V}{u:AA}(r:u0 x u)(q:u0 y u):x=y:=Option.some.inj (r.abs.symm.trans q.abs)
theorem v9.inj:∀{xs ys:List V} {us:List AA},v9 xs us->v9 ys us->xs=ys
 |_,_,_,.nil,.nil=>rfl
 |_,_,_,.cons r t,.cons r' t'=>by rw [r.inj r',v9.inj t t']
section
variable {X:Cx}{pins:List (AB×Obj)}{σ:St}{H:Hp}{s:AC}{a:AB}{xs ys:List V}
theorem SqL.of{K:AE}(h:H a=ξ (.lst xs)):SqL K H a xs:= .inl (.inl h)
theorem l8.list(I:l8 X pins σ H s)(h:SqL X.K H a xs):∃its:List AA,v9 xs its/\PlainL s.heap a its.toArray/\xs.length<=AO:=by
 rcases h with h|⟨o,its,n,hk,hc,hd,hs,hz,r⟩
 ·obtain⟨z,its,n,r,e⟩:=h.ok I.hok;exact⟨its,r,⟨_,n,e,rfl,rfl,rfl⟩,z⟩
 ·refine⟨its.toList,r,⟨o,n,I.kIn a o hk,hc,hd,by simpa using hs⟩, ?_⟩
  have e:=r.length;simp only [Array.length_toList] at e
  lia
theorem l8.tuple(I:l8 X pins σ H s)(h:SqT X.K H a xs):∃its:List AA,v9 xs its/\IsTup s.heap a its.toArray/\xs.length<=AO:=by
 rcases h with h|⟨o,its,n,hk,hc,hs,hz,r⟩
 ·obtain⟨z,its,r,p⟩:=h.ok I.hok;exact⟨its,r,p,z⟩
 ·refine⟨its.toList,r,⟨o,I.kIn a o hk,hc,n,by simpa using hs⟩, ?_⟩
  have e:=r.length;simp only [Array.length_toList] at e
  lia
theorem l8.list_inj(I:l8 X pins σ H s)(h:SqL X.K H a xs)(h':SqL X.K H a ys):xs=ys:=by
 obtain⟨its,r,⟨o,n,e,_,_,d⟩,_⟩:=I.list h;obtain⟨its',r',⟨o',n',e',_,_,d'⟩,_⟩:=I.list h';rw [e] at e';cases e';rw [d] at d';injection d' with d1 _
 have:its=its':=by simpa using congrArg Array.toList d1
 subst this;exact r.inj r'
theorem l8.tuple_inj(I:l8 X pins σ H s)(h:SqT X.K H a xs)(h':SqT X.K H a ys):xs=ys:=by
 obtain⟨its,r,⟨o,e,_,n,d⟩,_⟩:=I.tuple h;obtain⟨its',r',⟨o',e',_,n',d'⟩,_⟩:=I.tuple h';rw [e] at e';cases e';rw [d] at d';injection d' with d1 _
 have:its=its':=by simpa using congrArg Array.toList d1
 subst this;exact r.inj r'
end
abbrev Cx.wish(X:Cx)(E:AA->AC->Prop):Cx:={X with xe:=E}
abbrev Cx.nox(X:Cx):Cx:=X.wish λ_ _=>False
theorem Cx.Ok.wish{X:Cx}(ok:X.Ok)(E:AA->AC->Prop):(X.wish E).Ok:=
 ⟨ok.mod,ok.kind,ok.glob,ok.blt,ok.above,ok.inj,ok.has,ok.cab,ok.hd,ok.frames,ok.stk,ok.exf,ok.bs,ok.bsz,ok.noex,ok.exfs,ok.funs,ok.frf⟩
theorem Cx.Ok.unwish{X:Cx}{E:AA->AC->Prop}(ok:(X.wish E).Ok):X.Ok:=
 ⟨ok.mod,ok.kind,ok.glob,ok.blt,ok.above,ok.inj,ok.has,ok.cab,ok.hd,ok.frames,ok.stk,ok.exf,ok.bs,ok.bsz,ok.noex,ok.exfs,ok.funs,ok.frf⟩
section
variable {X:Cx}{pins:List (AB×Obj)}{σ:St}{H:Hp}{s:AC}{E:AA->AC->Prop}
theorem l8.wish(I:l8 X pins σ H s)(E:AA->AC->Prop):l8 (X.wish E) pins σ H s:=⟨I.ok.wish E,I.os,I.bare,I.base,I.loc,I.cell,I.free,I.freeC,I.pin,I.hok,I.len⟩
theorem l8.unwish(I:l8 (X.wish E) pins σ H s):l8 X pins σ H s:=⟨I.ok.unwish,I.os,I.bare,I.base,I.loc,I.cell,I.free,I.freeC,I.pin,I.hok,I.len⟩
theorem SP.unwish{D:a1o}{f:Flow}{s':AC}(h:SP (X.wish E) pins D f s'):SP X pins D f s':=by
 cases f with
 |next=>obtain⟨σ',H',I,q⟩:=h;exact⟨σ',H',I.unwish,q⟩
 |brk=>obtain⟨σ',H',I,q⟩:=h;exact⟨σ',H',I.unwish,q⟩
 |cont=>obtain⟨σ',H',I,q⟩:=h;exact⟨σ',H',I.unwish,q⟩
 |ret u=>obtain⟨v,σ',H',I,r,q⟩:=h;exact⟨v,σ',H',I.unwish,r,q⟩
theorem PSs.nox{st:List Stmt}{t:TS}(h:PSs X.nox st t):PSs X st t:=λpins s σ H D I hw=>
 wpAny_mono (h pins s σ H D (I.wish _) hw) (λ_ _ q=>q.unwish) λ_ _ z=>False.elim z
end
section
variable {X:Cx}{st:Stmt}{rest:List Stmt}{t u:TS}{e:AF}{te:TE}{pos:Pos}
def c22:TS:=λD σ H=>D.nx σ H
def c5P(t u:TS):TS:=λD σ H=>t {D with nx:=u D} σ H
theorem Z8:PSs X [] c22:=λ_ _ σ H _ I h=>wpAny_execs_nil ⟨σ,H,I,h⟩
theorem E6(h1:PS X st t)(h2:PSs X rest u):PSs X (st::rest) (c5P t u):=by
 intro pins s σ H D I h;refine wpAny_execs_cons (K6 (h1 pins s σ H {D with nx:=u D} I h) λf s1 q=> ?_)
 cases f with
 |next=>
  obtain⟨σ',H',I',q⟩:=q;exact h2 pins s1 σ' H' D I' q
 |ret v=>exact q
 |brk=>exact q
 |cont=>exact q
theorem b6V(h1:PS X st t):PSs X [st] t:=by
 intro pins s σ H D I h;refine wpAny_execs_cons (K6 (h1 pins s σ H D I h) λf s1 q=> ?_);cases f with
 |next=>exact wpAny_execs_nil q
 |ret v=>exact q
 |brk=>exact q
 |cont=>exact q
theorem l8.quiet{pins:List (AB×Obj)}{σ:St}{H:Hp}{s:AC}(I:l8 X pins σ H s):interactive X.env=false:=by simp [interactive,I.ok.kind]
def c5K(te:TE):TS:=λD σ H=>te σ H λ_ H1=>D.nx σ H1
theorem b26(he:PE X e te)(hs:swapsWith e ζ pos.line X.env=pure false:=by rfl):PS X (.Expr e pos) (c5K te):=by
 intro pins s σ H D I h;exact wpAny_Expr_any (K6 (he pins s σ H _ I h) λv s1 h0=>t7 h0 λx H1 I1 r1 q1=>⟨σ,H1,I1,q1⟩) I.quiet hs
def c6s(te:TE):TS:=λD σ H=>te σ H D.rt
theorem c0a(he:PE X e te):PS X (.Return (ξ e) pos) (c6s te):=by
 intro pins s σ H D I h;exact wpAny_Return_some (K6 (he pins s σ H _ I h) λv s1 h0=>t7 h0 λx H1 I1 r1 q1=>⟨x,σ,H1,I1,r1,q1⟩)
def c6p(c:TT)(t u:TS):TS:=λD σ H=>c σ H λb H1=>if b=true then t D σ H1 else u D σ H1
theorem c2V{c:AF}{a b:List Stmt}{tc:TT}(hc:PT X c tc)(ha:PSs X a t)(hb:PSs X b u):PS X (.If c a b pos) (c6p tc t u):=by
 intro pins s σ H D I h;refine wpAny_If (K6 (hc pins s σ H _ I h) λd s1 ⟨H1,I1,q1⟩=> ?_);cases d with
 |true=>exact ha pins s1 σ H1 D I1 q1
 |false=>exact hb pins s1 σ H1 D I1 q1
def c4P:TS:=λ_ _ _=>False
theorem b99:PS X st c4P:=λ_ _ _ _ _ _ h=>h.elim
end
abbrev TG:=V->St->Hp->(St->Hp->Prop)->Prop
abbrev TGs:=List V->St->Hp->(St->Hp->Prop)->Prop
def PG(X:Cx)(target:AF)(t:TG):Prop:=
 ∀pins s σ (H:Hp) (v:V) (u:AA) (Q:St->Hp->Prop),l8 X pins σ H s->u0 v u->t v σ H Q->
  AH (model X.prog X.w) X.A (assign target X.env u) (λ_ s'=>∃σ' H',l8 X pins σ' H' s'/\Q σ' H') X.xe s
def PGs(X:Cx)(ts:List AF)(t:TGs):Prop:=
 ∀pins s σ (H:Hp) (vs:List V) (us:List AA) (Q:St->Hp->Prop),l8 X pins σ H s->v9 vs us->t vs σ H Q->
  AH (model X.prog X.w) X.A (assignInOrder ((assignEach ts X.env).map (·.2)) us) (λ_ s'=>∃σ' H',l8 X pins σ' H' s'/\Q σ' H') X.xe s
section
variable {X:Cx}{pos:Pos}
def b1b(i:Nat):TG:=λv σ H Q=>Q (σ.set i (ξ v)) H
theorem p0{i:Nat}{x:Str}(hN:X.N.Nodup)(hi:X.N[i]?=ξ x)(hx:Loc X.env.scope x)(hf:X.fn x=true\/X.env.scope.names.lookup x=ξ .local:=by first|exact .inl rfl|exact .inr rfl|assumption):PG X (.Name x pos) (b1b i):=by
 intro pins s σ H v u Q I r h;exact wpAny_assign_Name (b4N I hN hi hx r (λs' I'=>⟨_,H,I',h⟩) hf)
def c5a:TGs:=λvs σ H Q=>vs=[]/\Q σ H
def c2H(t:TG)(u:TGs):TGs:=λvs σ H Q=>∃v r,vs=v::r/\t v σ H λσ' H'=>u r σ' H' Q
theorem a8o:PGs X [] c5a:=by
 intro pins s σ H vs us Q I r h;obtain⟨e,h⟩:=h;subst e;cases r;exact assignInOrder_nil ⟨σ,H,I,h⟩
theorem a0n{e:AF}{es:List AF}{t:TG}{u:TGs}(h1:PG X e t)(h2:PGs X es u)
 (hs:(assignEach (e::es) X.env).map (·.2)=assign e X.env::(assignEach es X.env).map (·.2):=by rfl):PGs X (e::es) (c2H t u):=by
 intro pins s σ H vs us Q I r h
 obtain⟨v,vr,e1,h⟩:=h
 subst e1
 cases r with
 |cons r rr=>
  rw [hs]
  refine assignInOrder_cons (K6 (h1 pins s σ H _ _ _ I r h) λ_ s1 ⟨σ1,H1,I1,q1⟩=> ?_)
  exact h2 pins s1 σ1 H1 _ _ Q I1 rr q1
def c5b(K:AE)(n:Nat)(t:TGs):TG:=λv σ H Q=>∃a xs,v= .ref a/\SqT K H a xs/\xs.length=n/\t xs σ H Q
theorem b24{es:List AF}{k:Nat}{t:TGs}{n:Nat}(hc:X.calm=true)(h:PGs X es t)
 (hn:(assignEach es X.env).length=n:=by rfl) (hst:(assignEach es X.env).findIdx? (·.1)=ζ:=by rfl):PG X (.Tuple es k pos) (c5b X.K n t):=by
 intro pins s σ H v u Q I r hw
 obtain⟨a,xs,e1,hq,hl,hw⟩:=hw
 subst e1
 cases r
 obtain⟨its,rv,ht,hz⟩:=I.tuple hq
 refine assign_Tuple_tuple (I.ok.hd hc) ht (by simp [hn,<-hl,rv.length]) hst λh' hx=> ?_
 have I1:l8 X pins σ H {s with heap:=h'}:=I.kept (t':=s.toks) λb o e=>hx b o (Ac (Aa e)) e
 exact h pins _ σ H xs _ Q I1 (by simpa using rv) hw
def c6l(te:TE)(g:TG):TS:=λD σ H=>te σ H λx H1=>g x σ H1 D.nx
theorem c0b{i:Nat}{x:Str}{e:AF}{te:TE}{pos':Pos}(hN:X.N.Nodup)(hi:X.N[i]?=ξ x)(hx:Loc X.env.scope x)(he:PE X e te)(hs:swapsWith e (ξ (.Name x pos')) pos.line X.env=pure false:=by rfl)(hf:X.fn x=true\/X.env.scope.names.lookup x=ξ .local:=by first|exact .inl rfl|exact .inr rfl|assumption):
 PS X (.Assign [.Name x pos'] e pos) (c6l te (b1b i)):=by
 intro pins s σ H D I h
 refine wpAny_Assign_Name (K6 (he pins s σ H _ I h) λv s1 h0=>t7 h0 λy H1 I1 r1 q1=> ?_) hs
 exact b4N I1 hN hi hx r1 (λs2 I2=>⟨_,H1,I2,q1⟩) hf
end
structure It where
 go:Nat->Hp->Prop
 yld:Nat->Hp->V->Hp->Prop
 stop:Nat->Hp->Prop
def a6T(X:Cx)(pins:List (AB×Obj))(H:Hp)(b:AB):Prop:=
 H b=ζ/\b≠X.env.locals/\b∉X.fs/\(b∈X.ex\/X.s₀.heap.objs.size<=b)/\(∀x c,X.env.cells.lookup x=ξ c->c≠b)/\∀p∈X.pn++pins,p.1≠b
theorem l8.fpOk{X:Cx}{pins:List (AB×Obj)}{σ:St}{H H':Hp}{s:AC}{b:AB}(I:l8 X pins σ H s)(hb:s.heap.objs.size<=b)(hn:H' b=ζ):a6T X pins H' b:=by
 refine⟨hn,Nat.ne_of_gt (An I.lt hb),I.nofs hb,.inr (Nat.le_trans I.sz hb),λx c e z=> ?_,λp hp z=> ?_⟩
 ·obtain⟨v,q⟩:=I.cell x c e;exact absurd (An q.lt (by rw [z];exact hb)) (Nat.lt_irrefl _)
 ·exact absurd (An (Aa (I.pin p hp).1) (by rw [z];exact hb)) (Nat.lt_irrefl _)
structure b1X(P:AJ)(w:AI)(K:AE)(tg:AF)(J:It)(fp:List AB)(it:AB)(tn:Nat->Heap->Prop):Prop where
 mem:it∈fp
 obj:∀i h,tn i h->∀b∈fp,∃o,h.get? b=ξ o/\∀v,o.data≠.cell v
 keep:∀i h h',tn i h->(∀b∈fp,∀o,h.get? b=ξ o->h'.get? b=ξ o)->tn i h'
 item:∀(X:Cx),X.prog=P->X.w=w->X.K=K->X.calm=true->∀(i:Nat) (pins:List (AB×Obj)) (s:AC) (σ:St) (H:Hp) (E:AA->AC->Prop),l8 X pins σ H s->(∀b∈fp,a6T X pins H b)->tn i s.heap->J.go i H->
  AH (model P w) X.A (pyNext (.ref it)) (λr s1=>∃u,r=ξ u/\
   AH (model P w) X.A (letOwnedTupleGo tg (.ref it) u) (λ_ s2=>∃x H',l8 X pins σ H' s2/\u0 x u/\J.yld i H x H'/\tn (i+1) s2.heap/\∀b∈fp,H' b=ζ) E s1) E s
 done:∀(X:Cx),X.prog=P->X.w=w->X.K=K->X.calm=true->∀(i:Nat) (pins:List (AB×Obj)) (s:AC) (σ:St) (H:Hp) (E:AA->AC->Prop),l8 X pins σ H s->(∀b∈fp,a6T X pins H b)->tn i s.heap->J.stop i H->
   AH (model P w) X.A (pyNext (.ref it)) (λr s1=>r=ζ/\l8 X pins σ H s1) E s
 self:∀(A:AK) (i:Nat) (s:AC) (Q:AA->AC->Prop) (E:AA->AC->Prop),tn i s.heap->Q (.ref it) s->AH (model P w) A (pyIter (.ref it)) Q E s
abbrev TI:=St->Hp->(It->Hp->Prop)->Prop
def PIE(X:Cx)(pins:List (AB×Obj))(σ:St)(tg:AF)(R:It->Hp->Prop)(itv:AA)(s2:AC):Prop:=
 ∃(it:AB) (fp:List AB) (tn:Nat->Heap->Prop) (J:It) (H':Hp),itv= .ref it/\l8 X pins σ H' s2/\b1X X.prog X.w X.K tg J fp it tn/\tn 0 s2.heap/\(∀b∈fp,a6T X pins H' b)/\R J H'
def PI(X:Cx)(tg iter:AF)(wi:TI):Prop:=
 ∀pins s σ (H:Hp) (R:It->Hp->Prop),l8 X pins σ H s->wi σ H R->
  AH (model X.prog X.w) X.A (eval iter X.env) (λv s1=>AH (model X.prog X.w) X.A (pyIter v) (PIE X pins σ tg R) X.xe s1) X.xe s
theorem b3Z{M:Model}{A:AK}{E:AA->AC->Prop}{s:AC}{tg:AF}{it:AB}{u:AA}{o:Obj}{n:String}{vs:Array AA}{Q:Unit->AC->Prop}(ho:s.heap.get? it=ξ o)(hc:o.cls= .type n)(hd:o.data= .fields vs)
 (hn:["enumerate","zip","dict_itemiterator","dict_reverseitemiterator","odict_iterator","itertools.zip_longest","itertools.pairwise"].contains n=false) (hQ:Q () s):AH M A (letOwnedTupleGo tg (.ref it) u) Q E s:=by
 unfold letOwnedTupleGo
 cases tg<;>first
  |exact AN hQ
  |(cases u<;>first
   |exact AN hQ
   |(refine AG (wpAny_load ho ?_)
     rw [hc,hd]
     show AH M A (if(["enumerate","zip","dict_itemiterator","dict_reverseitemiterator","odict_iterator","itertools.zip_longest","itertools.pairwise"].contains n && vs[0]?==ξ (rawInt _))=true then _ else _) Q E s
     rw [if_neg (by intro h;rw [hn,Bool.false_and] at h;cases h)]
     exact AN hQ))
def Itl(K:AE)(a:AB):It:=
 ⟨λi H=>∃xs x,SqL K H a xs/\xs[i]?=ξ x,λi H x H'=>H'=H/\∀xs,SqL K H a xs->xs[i]?=ξ x,λi H=>∃xs,SqL K H a xs/\xs.length<=i⟩
def Itt(K:AE)(a:AB):It:=
 ⟨λi H=>∃xs x,SqT K H a xs/\xs[i]?=ξ x,λi H x H'=>H'=H/\∀xs,SqT K H a xs->xs[i]?=ξ x,λi H=>∃xs,SqT K H a xs/\xs.length<=i⟩
def Itr(lo:Int)(n:Nat):It:=⟨λi _=>i<n,λi H x H'=>H'=H/\x= .int (lo+i),λi _=>n<=i⟩
theorem b8n{P:AJ}{w:AI}{K:AE}{tg:AF}(a it:AB):b1X P w K tg (Itl K a) [it] it (λi h=>h.IsListIter it a i) where
 mem:=by simp
 obj:=λi h st b hb=>by
  have e:b=it:=by simpa using hb
  subst e
  ext j
 keep:=λi h h' st k=>st.at λo e=>k it (by simp) o e
 item:=by
  ext af
  obtain⟨xs,x,hq,hx⟩:=hg;obtain⟨its,rv,p,hz⟩:=I.list hq;obtain⟨u,hu,ru⟩:=rv.get hx
  ext ak
  refine wpAny_pyNext_list_item st p.isList (x:=u) (by simpa using hu) λh' st' sb=> ?_
  have I1:l8 X pins σ H {s with heap:=h'}:=I.turned (t':=s.toks) (λb o hb e=>(sb.2 b hb).trans e) f0 f1 f3 f4 f5
  obtain⟨o,e,c,d⟩:=id st';exact⟨u,rfl,b3Z (s:={s with heap:=h'}) e c d (by decide) ⟨x,H,I1,ru,⟨rfl,λys hy=>by rw [I.list_inj hy hq];exact hx⟩,st',λb hb=>(hf b hb).1⟩⟩
 done:=by
   ext af
   obtain⟨xs,hq,hx⟩:=hg;obtain⟨its,rv,p,hz⟩:=I.list hq
   ext ak
   have hl:=rv.length;exact wpAny_pyNext_list_end (I.ok.hd hc) st p.isList (by simp;lia) λh' eb=>⟨rfl,I.turned (t':=s.toks) (λb o hb e=>eb b o hb e) f0 f1 f3 f4 f5⟩
 self:=λ_ _ _ _ _ st h=>wpAny_pyIter_listiter st h
theorem b58{P:AJ}{w:AI}{K:AE}{tg:AF}(a it:AB):b1X P w K tg (Itt K a) [it] it (λi h=>h.IsTupleIter it a i) where
 mem:=by simp
 obj:=λi h st b hb=>by
  have e:b=it:=by simpa using hb
  subst e
  ext j
 keep:=λi h h' st k=>st.at λo e=>k it (by simp) o e
 item:=by
  ext af
  obtain⟨xs,x,hq,hx⟩:=hg;obtain⟨its,rv,p,hz⟩:=I.tuple hq;obtain⟨u,hu,ru⟩:=rv.get hx
  ext ak
  refine wpAny_pyNext_tuple_item st (show s.heap.IsTuple a its.toArray from p) (x:=u) (by simpa using hu) λh' st' sb=> ?_
  have I1:l8 X pins σ H {s with heap:=h'}:=I.turned (t':=s.toks) (λb o hb e=>(sb.2 b hb).trans e) f0 f1 f3 f4 f5
  obtain⟨o,e,c,d⟩:=id st';exact⟨u,rfl,b3Z (s:={s with heap:=h'}) e c d (by decide) ⟨x,H,I1,ru,⟨rfl,λys hy=>by rw [I.tuple_inj hy hq];exact hx⟩,st',λb hb=>(hf b hb).1⟩⟩
 done:=by
   ext af
   obtain⟨xs,hq,hx⟩:=hg;obtain⟨its,rv,p,hz⟩:=I.tuple hq
   ext ak
   have hl:=rv.length;exact wpAny_pyNext_tuple_end (I.ok.hd hc) st (show s.heap.IsTuple a its.toArray from p) (by simp;lia) λh' eb=>⟨rfl,I.turned (t':=s.toks) (λb o hb e=>eb b o hb e) f0 f1 f3 f4 f5⟩
 self:=λ_ _ _ _ _ st h=>wpAny_pyIter_tupleiter st h
theorem b57{P:AJ}{w:AI}{K:AE}{tg:AF}(it:AB)(lo:Int)(n:Nat):b1X P w K tg (Itr lo n) [it] it (λi h=>IsRangeIter h it (lo+(i:Nat)*1) ((n:Int) - (i:Nat)) 1) where
 mem:=by simp
 obj:=λi h st b hb=>by
  have e:b=it:=by simpa using hb
  subst e;exact⟨_,st,λv z=>by
   have z':Data.fields _=Data.cell v:=z;cases z'⟩
 keep:=λi h h' st k=>k it (by simp) _ st
 item:=by
  ext g
  have W:=Walks.range (prog:=X.prog) (w:=X.w) (I.ok.hd hc) it lo 1 n;refine W.item i s _ _ hg st λv h' tk hv st' kk=> ?_;obtain⟨t,rfl⟩:=hv;have I1:l8 X pins σ H {s with heap:=h',toks:=tk}:=I.turned (λb o hb e=>kk b o (by simpa using hb) e) f0 f1 f3 f4 f5
  refine⟨_,rfl,b3Z (s:={s with heap:=h',toks:=tk}) (n:="range_iterator") st' rfl rfl (by decide) ⟨.int (lo+i),H,I1,⟨t, ?_⟩,⟨rfl,rfl⟩,st',λb hb=>(hf b hb).1⟩⟩
  rw [Int.mul_one]
 done:=by
   ext g
   exact wpAny_pyNext_range_end (I.ok.hd hc) st (by have:n<=i:=hg;lia) λh' eb=>⟨rfl,I.turned (t':=s.toks) (λb o hb e=>eb b o hb e) f0 f1 f3 f4 f5⟩
 self:=λ_ _ _ _ _ st h=>wpAny_pyIter_rangeiter st h
section
variable {X:Cx}{tg:AF}
theorem b4B{pins:List (AB×Obj)}{σ:St}{H:Hp}{s:AC}{R:It->Hp->Prop}{E:AA->AC->Prop}{lo hi:Int}{t u v:Tok}{tk:Nat}(I:l8 X pins σ H s)(h1: -(2 ^ 62)<=lo)(h2:lo<2 ^ 62)(h3: -(2 ^ 62)<=hi)(h4:hi<2 ^ 62)
 (q:R (Itr lo (hi - lo).toNat) H):AH (model X.prog X.w) X.A (pyIter (.ref s.heap.objs.size)) (PIE X pins σ tg R) E {s with heap:=s.heap.push {cls:= .type "range",data:= .fields #[.int lo t,.int hi u,.int 1 v]},toks:=tk}:=by
 refine wpAny_pyIter_range (IsRange.new ..) (small_one h1 h2 h3 h4) ?_
 have I1:l8 X pins σ H {s with heap:=s.heap.push {cls:= .type "range",data:= .fields #[.int lo t,.int hi u,.int 1 v]},toks:=tk}:=I.kept λb o e=>AY _ e
 refine⟨(s.heap.push {cls:= .type "range",data:= .fields #[.int lo t,.int hi u,.int 1 v]}).objs.size,[(s.heap.push {cls:= .type "range",data:= .fields #[.int lo t,.int hi u,.int 1 v]}).objs.size],_,_,H,rfl,
  I1.kept (t':=tk) λb o e=>AY _ e,b57 _ lo (hi - lo).toNat, ?_,λb hb=> ?_,q⟩
 ·have e1:lo+((0:Nat):Int)*1=lo:=by simp
  have e2:(((hi - lo).toNat:Nat):Int) - ((0:Nat):Int)=Builtin.Range.rangeSize lo hi 1:=by rw [rangeSize_one];split<;>lia
  show IsRangeIter _ _ (lo+((0:Nat):Int)*1) ((((hi - lo).toNat:Nat):Int) - ((0:Nat):Int)) 1
  rw [e1,e2]
  exact Ae _ rfl
 ·have e:b=(s.heap.push {cls:= .type "range",data:= .fields #[.int lo t,.int hi u,.int 1 v]}).objs.size:=by simpa using hb
  subst e
  exact I1.fpOk (AQ _) (I1.hok.fresh (AQ _))
def c5d(ta:TA):TI:=λσ H R=>ta σ H λvs H1=>∃j:Int,vs=[.int j]/\ -(2 ^ 62)<=j/\j<2 ^ 62/\R (Itr 0 j.toNat) H1
def c5e(ta:TA):TI:=λσ H R=>ta σ H λvs H1=>∃i j:Int,vs=[.int i,.int j]/\(-(2 ^ 62)<=i/\i<2 ^ 62/\ -(2 ^ 62)<=j/\j<2 ^ 62)/\R (Itr i (j - i).toNat) H1
theorem b1w{a:AF}{ta:TA}{p pos:Pos}(hg:Gl X "range")(hm:X.mg "range"=ζ)(ha:PA X [a] ta)(hs:AL [a] X.env=[(false,eval a X.env)]:=by rfl):PI X tg (.Call (.Name "range" p) [a] [] pos) (c5d ta):=by
 intro pins s σ H R I h;refine Call_ (a7c I hg hm boot_range (PyProof.Rows.callWith_type1 (K6 (ha pos pins s σ H _ I h) λus s1 h0=>t7 h0 λvs H1 I1 r1 q1=> ?_) hs rfl));obtain⟨j,e,q1,q2,q⟩:=q1;subst e;cases r1 with
 |cons r rr=>
  cases rr;obtain⟨t,rfl⟩:=r;exact call_range_1 (b4B I1 (by lia) (by lia) q1 q2 (by simpa using q))
theorem b76{a b:AF}{ta:TA}{p pos:Pos}(hg:Gl X "range")(hm:X.mg "range"=ζ)(ha:PA X [a,b] ta)(hs:AL [a,b] X.env=[(false,eval a X.env),(false,eval b X.env)]:=by rfl)(hs2:AL [b] X.env=[(false,eval b X.env)]:=by rfl):
 PI X tg (.Call (.Name "range" p) [a,b] [] pos) (c5e ta):=by
 intro pins s σ H R I h
 refine Call_ (a7c I hg hm boot_range (PyProof.Rows.callWith_type1 (K6 (ha pos pins s σ H _ I h) λus s1 h0=>t7 h0 λvs H1 I1 r1 q1=> ?_) (by rw [hs,hs2]) (by rw [hs2];rfl)))
 obtain⟨i,j,e,⟨q1,q2,q3,q4⟩,q⟩:=q1
 subst e
 cases r1 with
 |cons r rr=>
  cases rr with
  |cons r' rr=>
   cases rr
   obtain⟨t,rfl⟩:=r
   obtain⟨t',rfl⟩:=r'
   exact call_range_2 (b4B I1 q1 q2 q3 q4 q)
def c5L(wi:TI)(g:TG)(tb:TS):TS:=λD σ H=>wi σ H λJ H1=>∃W:Nat->Nat->St->Hp->Prop,(∃m,W 0 m σ H1)/\∀i m σ H,W i m σ H->
 (J.stop i H/\D.nx σ H)\/(J.go i H/\∃N:St->Hp->Prop,(∀σ' H',N σ' H'->∃m',m'<m/\W (i+1) m' σ' H')/\∀x H',J.yld i H x H'->g x σ H' λσ2 H2=>tb {D with nx:=N,ct:=N,bk:=D.nx} σ2 H2)
def a9A(fp:List AB)(h:Heap):List (AB×Obj):=fp.filterMap λb=>(h.get? b).map λo=>(b,o)
theorem a2T{fp:List AB}{h:Heap}{b:AB}{o:Obj}(hb:b∈fp)(e:h.get? b=ξ o):(b,o)∈a9A fp h:=List.mem_filterMap.mpr ⟨b,hb,by rw [e];rfl⟩
theorem b72{fp:List AB}{h:Heap}{p:AB×Obj}(hp:p∈a9A fp h):p.1∈fp/\h.get? p.1=ξ p.2:=by
 obtain⟨b,hb,e⟩:=List.mem_filterMap.mp hp;cases q:h.get? b with
 |none=>rw [q] at e;cases e
 |some o=>
  rw [q] at e;have e':(b,o)=p:=Option.some.inj e;subst e';exact⟨hb,q⟩
theorem l8.pinned{pins:List (AB×Obj)}{σ:St}{H:Hp}{s:AC}{fp:List AB}(I:l8 X pins σ H s)(hf:∀b∈fp,a6T X pins H b)(ho:∀b∈fp,∃o,s.heap.get? b=ξ o/\∀v,o.data≠.cell v):l8 X (pins++a9A fp s.heap) σ H s:=
 I.pins_of λp hp=>(Ar.mp hp).elim (λz=>I.pin p (As _ z)) λz=>by
  obtain⟨hb,e⟩:=b72 z;obtain⟨f0,f1,f2,_⟩:=hf p.1 hb;obtain⟨o,e',d⟩:=ho p.1 hb;rw [e] at e';cases e';exact⟨e,f0,f1,f2,d⟩
theorem l8.unpinned{pins pl:List (AB×Obj)}{σ:St}{H:Hp}{s:AC}(I:l8 X (pins++pl) σ H s):l8 X pins σ H s:=I.pins_of λp hp=>I.pin p (As _ (List.mem_append_left _ hp))
theorem a5K{iter:AF}{body:List Stmt}{wi:TI}{g:TG}{tb:TS}{pos:Pos}(hp:PassesOwn (model X.prog X.w) X.A X.env X.xe)(hc:X.calm=true)(hi:PI X tg iter wi)(hg:PG X tg g)(hb:PSs X body tb)
 (hs:∀x,foldedSetIterable iter X.env x=pure x:=by intro _;rfl):PS X (.For tg iter body [] pos) (c5L wi g tb):=by
 intro pins s σ H D I h
 refine wpAny_For (K6 (hi pins s σ H _ I h) λv s1 h1=>K6 h1 λitv s2 h2=> ?_) hs
 obtain⟨it,fp,tn,J,H2,e,I2,T,st2,f2,W,⟨m0,w0⟩,turn⟩:=h2
 subst e
 have stat:∀{H':Hp},(∀b∈fp,H' b=ζ)->∀b∈fp,a6T X pins H' b:=λhn b hb=>⟨hn b hb,(f2 b hb).2⟩
 refine codeAny_forLoop_any (λn s'=>∃i σ' H',l8 X pins σ' H' s'/\tn i s'.heap/\(∀b∈fp,H' b=ζ)/\W i n σ' H') ?_ m0 ⟨0,σ,H2,I2,st2,λb hb=>(f2 b hb).1,w0⟩
 rintro n s3 ⟨i,σ3,H3,I3,st3,fr3,w3⟩
 rcases turn i n σ3 H3 w3 with⟨stop,qn⟩|⟨go,N,hN,step⟩
 ·refine wpAny_passesOwn hp (K6 (T.done X rfl rfl rfl hc i pins s3 σ3 H3 X.xe I3 (stat fr3) st3 stop) λr s4 ⟨hr,I4⟩=> ?_)
  subst hr
  exact wpAny_execs_nil ⟨σ3,H3,I4,qn⟩
 ·refine wpAny_passesOwn hp (K6 (T.item X rfl rfl rfl hc i pins s3 σ3 H3 X.xe I3 (stat fr3) st3 go) λr s4 ⟨u,hr,h4⟩=> ?_)
  subst hr
  refine wpAny_passesOwn hp (K6 h4 λ_ s5 ⟨x,H5,I5,r5,y5,st5,fr5⟩=> ?_)
  have I5':=I5.pinned (stat fr5) (T.obj _ _ st5)
  refine wpAny_passesOwn hp (K6 (hg _ s5 σ3 H5 x u _ I5' r5 (step x H5 y5)) λ_ s6 ⟨σ6,H6,I6,q6⟩=> ?_)
  refine wpAny_passesOwn hp (K6 (hb _ s6 σ6 H6 _ I6 q6) λf s7 q7=> ?_)
  have again:∀{σ7:St} {H7:Hp},l8 X (pins++a9A fp s5.heap) σ7 H7 s7->N σ7 H7->∃m,m<n/\∃i σ' H',l8 X pins σ' H' s7/\tn i s7.heap/\(∀b∈fp,H' b=ζ)/\W i m σ' H':=λ {σ7 H7} I7 n7=>by
   obtain⟨m',hm,w7⟩:=hN σ7 H7 n7;refine⟨m',hm,i+1,σ7,H7,I7.unpinned,T.keep _ _ _ st5 λb hb o e=>(I7.pin (b,o) (As _ (As _ (a2T hb e)))).1,λb hb=> ?_,w7⟩;obtain⟨o,e,d⟩:=T.obj _ _ st5 b hb;exact(I7.pin (b,o) (As _ (As _ (a2T hb e)))).2.1
  cases f with
  |next=>obtain⟨σ7,H7,I7,n7⟩:=q7;exact again I7 n7
  |cont=>obtain⟨σ7,H7,I7,n7⟩:=q7;exact again I7 n7
  |brk=>obtain⟨σ7,H7,I7,q7⟩:=q7;exact⟨σ7,H7,I7.unpinned,q7⟩
  |ret v=>obtain⟨x7,σ7,H7,I7,r7,q7⟩:=q7;exact⟨x7,σ7,H7,I7.unpinned,r7,q7⟩
end
theorem b8Z{K:AE}{a:AB}{xs:List V}{g:TG}{tb:TS}{D:a1o}{σ:St}{H:Hp}(Pv:Nat->St->Hp->Prop)(h0:Pv 0 σ H)(hl:∀i σ H,i<=xs.length->Pv i σ H->SqL K H a xs)
 (hs:∀i x σ H,xs[i]?=ξ x->Pv i σ H->g x σ H λσ2 H2=>tb {D with nx:=Pv (i+1),ct:=Pv (i+1),bk:=D.nx} σ2 H2) (hd:∀σ H,Pv xs.length σ H->D.nx σ H):
 ∃W:Nat->Nat->St->Hp->Prop,(∃m,W 0 m σ H)/\∀i m σ H,W i m σ H->
  ((Itl K a).stop i H/\D.nx σ H)\/((Itl K a).go i H/\∃N:St->Hp->Prop,(∀σ' H',N σ' H'->∃m',m'<m/\W (i+1) m' σ' H')/\∀x H',(Itl K a).yld i H x H'->g x σ H' λσ2 H2=>tb {D with nx:=N,ct:=N,bk:=D.nx} σ2 H2):=by
 refine⟨λi m σ H=>m=xs.length - i/\i<=xs.length/\Pv i σ H,⟨xs.length,by simp,Nat.zero_le _,h0⟩, ?_⟩
 rintro i m σ H ⟨rfl,hi,p⟩
 have q:=hl i σ H hi p
 by_cases hlt:i<xs.length
 ·refine .inr ⟨⟨xs,xs[i],q,by simp [hlt]⟩,Pv (i+1),λσ' H' p'=>⟨xs.length - (i+1),by lia,rfl,hlt,p'⟩,λx H' y=> ?_⟩
  obtain⟨e,y⟩:=y
  subst e
  exact hs i x σ _ (y xs q) p
 ·have e:i=xs.length:=by lia
  subst e
  exact .inl ⟨⟨xs,q,AQ _⟩,hd σ H p⟩
theorem c1b{K:AE}{a:AB}{xs:List V}{g:TG}{tb:TS}{D:a1o}{σ:St}{H:Hp}(Pv:Nat->St->Hp->Prop)(h0:Pv 0 σ H)(hl:∀i σ H,i<=xs.length->Pv i σ H->SqT K H a xs)
 (hs:∀i x σ H,xs[i]?=ξ x->Pv i σ H->g x σ H λσ2 H2=>tb {D with nx:=Pv (i+1),ct:=Pv (i+1),bk:=D.nx} σ2 H2) (hd:∀σ H,Pv xs.length σ H->D.nx σ H):
 ∃W:Nat->Nat->St->Hp->Prop,(∃m,W 0 m σ H)/\∀i m σ H,W i m σ H->
  ((Itt K a).stop i H/\D.nx σ H)\/((Itt K a).go i H/\∃N:St->Hp->Prop,(∀σ' H',N σ' H'->∃m',m'<m/\W (i+1) m' σ' H')/\∀x H',(Itt K a).yld i H x H'->g x σ H' λσ2 H2=>tb {D with nx:=N,ct:=N,bk:=D.nx} σ2 H2):=by
 refine⟨λi m σ H=>m=xs.length - i/\i<=xs.length/\Pv i σ H,⟨xs.length,by simp,Nat.zero_le _,h0⟩, ?_⟩
 rintro i m σ H ⟨rfl,hi,p⟩
 have q:=hl i σ H hi p
 by_cases hlt:i<xs.length
 ·refine .inr ⟨⟨xs,xs[i],q,by simp [hlt]⟩,Pv (i+1),λσ' H' p'=>⟨xs.length - (i+1),by lia,rfl,hlt,p'⟩,λx H' y=> ?_⟩
  obtain⟨e,y⟩:=y
  subst e
  exact hs i x σ _ (y xs q) p
 ·have e:i=xs.length:=by lia
  subst e
  exact .inl ⟨⟨xs,q,AQ _⟩,hd σ H p⟩
theorem b1a{lo:Int}{n:Nat}{g:TG}{tb:TS}{D:a1o}{σ:St}{H:Hp}(Pv:Nat->St->Hp->Prop)(h0:Pv 0 σ H)
 (hs:∀i σ H,i<n->Pv i σ H->g (.int (lo+i)) σ H λσ2 H2=>tb {D with nx:=Pv (i+1),ct:=Pv (i+1),bk:=D.nx} σ2 H2) (hd:∀σ H,Pv n σ H->D.nx σ H):
 ∃W:Nat->Nat->St->Hp->Prop,(∃m,W 0 m σ H)/\∀i m σ H,W i m σ H->
  ((Itr lo n).stop i H/\D.nx σ H)\/((Itr lo n).go i H/\∃N:St->Hp->Prop,(∀σ' H',N σ' H'->∃m',m'<m/\W (i+1) m' σ' H')/\∀x H',(Itr lo n).yld i H x H'->g x σ H' λσ2 H2=>tb {D with nx:=N,ct:=N,bk:=D.nx} σ2 H2):=by
 refine⟨λi m σ H=>m=n - i/\i<=n/\Pv i σ H,⟨n,by simp,Nat.zero_le _,h0⟩, ?_⟩
 rintro i m σ H ⟨rfl,hi,p⟩
 by_cases hlt:i<n
 ·refine .inr ⟨hlt,Pv (i+1),λσ' H' p'=>⟨n - (i+1),by lia,rfl,hlt,p'⟩,λx H' y=> ?_⟩
  obtain⟨e,y⟩:=y
  subst e y
  exact hs i σ _ hlt p
 ·have e:i=n:=by lia
  subst e
  exact .inl ⟨AQ _,hd σ H p⟩
abbrev R2:=V->V->Hp->VK->Prop
def OpR(X:Cx)(f:AA->AA->Sem AA)(r:R2):Prop:=
 ∀pins s σ (H:Hp) (x y:V) (v u:AA) (Q:VK),l8 X pins σ H s->u0 x v->u0 y u->r x y H Q->
  AH (model X.prog X.w) X.A (f v u) (EP X pins σ Q) X.xe s
def UnR(X:Cx)(f:AA->Sem AA)(r:V->Hp->VK->Prop):Prop:=
 ∀pins s σ (H:Hp) (x:V) (v:AA) (Q:VK),l8 X pins σ H s->u0 x v->r x H Q->
  AH (model X.prog X.w) X.A (f v) (EP X pins σ Q) X.xe s
def M8(X:Cx)(f:AA)(r:List V->Hp->VK->Prop):Prop:=
 ∀pins s σ (H:Hp) (xs:List V) (us:List AA) (Q:VK),l8 X pins σ H s->v9 xs us->r xs H Q->
  AH (model X.prog X.w) X.A (call f us) (EP X pins σ Q) X.xe s
def c50(X:Cx)(r:V->Hp->(Bool->Hp->Prop)->Prop):Prop:=
 ∀pins s σ (H:Hp) (x:V) (v:AA) (Q:Bool->Hp->Prop),l8 X pins σ H s->u0 x v->r x H Q->
  AH (model X.prog X.w) X.A (truthy v) (TP X pins σ Q) X.xe s
def tOp(r:R2)(ta tb:TE):TE:=λσ H Q=>ta σ H λx H1=>tb σ H1 λy H2=>r x y H2 Q
def tUn(r:V->Hp->VK->Prop)(ta:TE):TE:=λσ H Q=>ta σ H λx H1=>r x H1 Q
def rI(C:Int->Int->Prop)(g:Int->Int->V):R2:=λx y H Q=>∃i j,x= .int i/\y= .int j/\C i j/\Q (g i j) H
def rI0(g:Int->Int->V):R2:=λx y H Q=>∃i j,x= .int i/\y= .int j/\Q (g i j) H
def rU(g:Int->V):V->Hp->VK->Prop:=λx H Q=>∃i,x= .int i/\Q (g i) H
section
variable {X:Cx}{a b c:AF}{ta tb tc:TE}{pos:Pos}
theorem c3c(ha:PE X a ta)(hb:PE X b tb){pins:List (AB×Obj)}{s:AC}{σ:St}{H:Hp}{R:V->V->Hp->Prop}(I:l8 X pins σ H s)
 (h:ta σ H λx H1=>tb σ H1 λy H2=>R x y H2) {Q:AA->AC->Prop} {f:AA->AA->Sem AA}
 (hf:∀v u s2 x y H2,l8 X pins σ H2 s2->u0 x v->u0 y u->R x y H2->AH (model X.prog X.w) X.A (f v u) Q X.xe s2):
 AH (model X.prog X.w) X.A (eval a X.env) (λv s₁=>AH (model X.prog X.w) X.A (eval b X.env) (λu s₂=>AH (model X.prog X.w) X.A (f v u) Q X.xe s₂) X.xe s₁) X.xe s:=by
 refine K6 (ha pins s σ H _ I h) λv s1 h0=>t7 h0 λx H1 I1 r1 q1=> ?_
 refine K6 (hb pins s1 σ H1 _ I1 q1) λu s2 h0=>t7 h0 λy H2 I2 r2 q2=> ?_
 exact hf v u s2 x y H2 I2 r1 r2 q2
theorem c5w{op:Operator}{r:R2}(ho:OpR X (binaryOp op) r)(ha:PE X a ta)(hb:PE X b tb):PE X (.BinOp a op b pos) (tOp r ta tb):=by
 ext q
 exact wpAny_BinOp (c3c ha hb I h λv u s2 x y H2 I2 rx ry q=>ho pins s2 σ H2 x y v u Q I2 rx ry q)
theorem c5x{op:UnaryOp}{r:V->Hp->VK->Prop}(ho:UnR X (unaryOp op) r)(ha:PE X a ta):PE X (.UnaryOp op a pos) (tUn r ta):=by
 ext q
 exact UnaryOp_ (K6 (ha pins s σ H _ I h) λv s1 h0=>t7 h0 λx H1 I1 r1 q1=>ho pins s1 σ H1 x v Q I1 r1 q1)
theorem opI{f:AA->AA->Sem AA}{C:Int->Int->Prop}{g:Int->Int->Int}
 (rule:∀(i j:Int) (t u:Tok) (s:AC) (Q:AA->AC->Prop) (E:AA->AC->Prop),C i j->Q (.int (g i j) s.toks) {s with toks:=s.toks+1}->AH (model X.prog X.w) X.A (f (.int i t) (.int j u)) Q E s):
 OpR X f (rI C λi j=> .int (g i j)):=by
 intro pins s σ H x y v u Q I rx ry h
 obtain⟨i,j,rfl,rfl,hc,q⟩:=h
 obtain⟨t,rfl⟩:=rx
 obtain⟨t',rfl⟩:=ry
 exact rule i j t t' s _ _ hc ⟨.int (g i j),H,I.tok _,⟨_,rfl⟩,q⟩
theorem c5o{f:AA->AA->Sem AA}{g:Int->Int->Int}
 (rule:∀(i j:Int) (t u:Tok) (s:AC) (Q:AA->AC->Prop) (E:AA->AC->Prop),Q (.int (g i j) s.toks) {s with toks:=s.toks+1}->AH (model X.prog X.w) X.A (f (.int i t) (.int j u)) Q E s):
 OpR X f (rI0 λi j=> .int (g i j)):=by
 intro pins s σ H x y v u Q I rx ry h
 obtain⟨i,j,rfl,rfl,q⟩:=h
 obtain⟨t,rfl⟩:=rx
 obtain⟨t',rfl⟩:=ry
 exact rule i j t t' s _ _ ⟨.int (g i j),H,I.tok _,⟨_,rfl⟩,q⟩
theorem c37{f:AA->AA->Sem AA}{g:Int->Int->Bool}
 (rule:∀(i j:Int) (t u:Tok) (s:AC) (Q:AA->AC->Prop) (E:AA->AC->Prop),Q (.bool (g i j)) s->AH (model X.prog X.w) X.A (f (.int i t) (.int j u)) Q E s):
 OpR X f (rI0 λi j=> .bl (g i j)):=by
 intro pins s σ H x y v u Q I rx ry h
 obtain⟨i,j,rfl,rfl,q⟩:=h
 obtain⟨t,rfl⟩:=rx
 obtain⟨t',rfl⟩:=ry
 exact rule i j t t' s _ _ ⟨.bl (g i j),H,I,rfl,q⟩
def a93(i j:Int):Prop:=0<j/\j<1073741824
def b7i(i j:Int):Prop:=0<=j/\j<=1000000/\i.natAbs<2 ^ 64
def b4W(i j:Int):Prop:=(-(2 ^ 64)<i/\i<2 ^ 64)\/(-(2 ^ 64)<j/\j<2 ^ 64)
theorem b4W.ok{i j:Int}(h:b4W i j):IntMulOk i j:=by
 rcases h with⟨h1,h2⟩|⟨h1,h2⟩
 ·exact .of_left (intBits_le_64 h1 h2)
 ·exact .of_right (intBits_le_64 h1 h2)
theorem c38:OpR X (binaryOp .Add) (rI0 λi j=> .int (i+j)):=c5o λ_ _ _ _ _ _ _ q=>add_int q
theorem c4f:OpR X (binaryOp .Sub) (rI0 λi j=> .int (i - j)):=c5o λ_ _ _ _ _ _ _ q=>sub_int q
theorem c4c:OpR X (binaryOp .Mult) (rI b4W λi j=> .int (i*j)):=opI λ_ _ _ _ _ _ _ hc q=>mul_int q hc.ok
theorem c1K:OpR X (binaryOp .FloorDiv) (rI a93 λi j=> .int (i / j)):=opI λi j _ _ _ _ _ hc q=>by
 have h1:(0:Int)<j:=hc.1;have h2:j<1073741824:=hc.2;exact floordiv_int (by lia) (by rw [Int.fdiv_eq_ediv_of_nonneg i (by lia)];exact q) (.inl (PyProof.noPylong_small (by lia)))
theorem c4b:OpR X (binaryOp .Mod) (rI (λ_ j=>0<j) λi j=> .int (i % j)):=opI λi j _ _ _ _ _ hc q=>by
 have h1:(0:Int)<j:=hc;exact mod_int' (by lia) (by rw [Int.fmod_eq_emod_of_nonneg i (by lia)];exact q)
theorem c4d:OpR X (binaryOp .Pow) (rI b7i λi j=> .int (i ^ j.toNat)):=opI λ_ _ _ _ _ _ _ hc q=>pow_int_small hc.1 hc.2.1 hc.2.2 q
theorem unI{f:AA->Sem AA}{g:Int->Int}
 (rule:∀(i:Int) (t:Tok) (s:AC) (Q:AA->AC->Prop) (E:AA->AC->Prop),Q (.int (g i) s.toks) {s with toks:=s.toks+1}->AH (model X.prog X.w) X.A (f (.int i t)) Q E s):
 UnR X f (rU λi=> .int (g i)):=by
 intro pins s σ H x v Q I rx h
 obtain⟨i,rfl,q⟩:=h
 obtain⟨t,rfl⟩:=rx
 exact rule i t s _ _ ⟨.int (g i),H,I.tok _,⟨_,rfl⟩,q⟩
theorem c4S:UnR X (unaryOp .USub) (rU λi=> .int (-i)):=unI λ_ _ _ _ _ q=>neg_int q
theorem b5o{pins:List (AB×Obj)}{σ:St}{H:Hp}{s:AC}{Q:VK}{k k':Bool}(I:l8 X pins σ H s)(q:Q (.bl k) H)(e:k=k'):EP X pins σ Q (.bool k') s:=by
 subst e;exact⟨.bl k,H,I,rfl,q⟩
theorem c5r:OpR X (compareOp .Lt) (rI0 λi j=> .bl (decide (i<j))):=c37 λ_ _ _ _ _ _ _ q=>lt_int q
theorem c5q:OpR X (compareOp .LtE) (rI0 λi j=> .bl (decide (i<=j))):=c37 λ_ _ _ _ _ _ _ q=>le_int q
theorem c5p:OpR X (compareOp .Gt) (rI0 λi j=> .bl (decide (j<i))):=c37 λ_ _ _ _ _ _ _ q=>gt_int q
theorem b74:OpR X (compareOp .Lt) (λx y H Q=>∃i j,x= .str i/\y= .str j/\Q (.bl (decide (i.cps.toList<j.cps.toList))) H):=by
 ext t
 obtain⟨i,j,rfl,rfl,q⟩:=h
 ext x
 exact lt_str (b5o I q rfl)
theorem b73:OpR X (compareOp .In) (λx y H Q=>∃i j,x= .str i/\y= .str j/\Q (.bl (!(Builtin.Str.occurrences j i 0 j.length 1).isEmpty)) H):=by
 ext t
 obtain⟨i,j,rfl,rfl,q⟩:=h
 ext x
 exact in_str (b5o I q rfl)
theorem c4a:OpR X (compareOp .Is) (λx y H Q=>y= .non/\Q (.bl (decide (x= .non))) H):=by
 ext t
 obtain⟨rfl,q⟩:=h;cases ry;refine is_none_gen (b5o I q ?_);cases x<;>first
  |(cases rx;rfl)
  |(obtain⟨t,rfl⟩:=rx;rfl)
theorem c1V{op:CmpOp}{r:R2}(ho:OpR X (compareOp op) r)(ha:PE X a ta)(hb:PE X b tb)(hm:behindInMarks op b=false):PE X (.Compare a [op] [b] pos) (tOp r ta tb):=by
 ext q
 exact wpAny_Compare1 (c3c ha hb I h λv u s2 x y H2 I2 rx ry q=>ho pins s2 σ H2 x y v u Q I2 rx ry q) hm
def c5Q(t:TE):TT:=λσ H Q=>t σ H λx H'=>∃k,x= .bl k/\Q k H'
theorem c13{op:CmpOp}{r:R2}(ho:OpR X (compareOp op) r)(ha:PE X a ta)(hb:PE X b tb)(hm:behindInMarks op b=false):PT X (.Compare a [op] [b] pos) (c5Q (tOp r ta tb)):=by
 ext q
 refine wpAny_isTrue_Compare1 (K6 (ha pins s σ H _ I h) λv s1 h0=>t7 h0 λx H1 I1 r1 q1=>K6 (hb pins s1 σ H1 _ I1 q1) λu s2 h0=>t7 h0 λy H2 I2 r2 q2=>
  K6 (ho pins s2 σ H2 x y v u _ I2 r1 r2 q2) λc s3 ⟨z,H3,I3,r3,k,e,q3⟩=> ?_) hm
 subst e;cases r3;exact wpAny_truthy_bool ⟨H3,I3,q3⟩
def c27(K:AE)(x:V)(H:Hp)(k:Bool):Prop:=
 match x with
 | .non=>k=false
 | .bl b=>k=b
 | .int i=>k=(i !=0)
 | .str y=>y.length<=AO/\k=((y.length:Int) !=0)
 | .byt y=>y.size<=AO/\k=((y.size:Int) !=0)
 | .ref p=>(∃xs,SqL K H p xs/\k= !xs.isEmpty)\/(∃xs,SqT K H p xs/\k= !xs.isEmpty)\/∃kvs,H p=ξ (.dK kvs)/\k= !kvs.isEmpty
 |_=>False
theorem b5w{κ:Type}{kvs:List (κ×V)}{vs:List (κ×AA)}(r:KV kvs vs):(!vs.isEmpty)= !kvs.isEmpty:=by
 cases r<;>rfl
theorem a84{xs:List V}{its:List AA}(r:v9 xs its):(!its.toArray.isEmpty)= !xs.isEmpty:=by
 cases r<;>simp
theorem a7d:(AO:Nat)<2 ^ 63:=by rw [sizeLine_eq];decide
theorem c4R:c50 X (λx H Q=>∃k,c27 X.K x H k/\Q k H):=by
 intro pins s σ H x v Q I rx h;obtain⟨k,e,q⟩:=h;have hl:=a7d;have hs:AO=16777216:=sizeLine_eq;cases x with
 |non=>
  cases rx;have e':k=false:=e;subst e';exact truthy_none ⟨H,I,q⟩
 |bl b=>
  cases rx;have e':k=b:=e;subst e';exact wpAny_truthy_bool ⟨H,I,q⟩
 |int i=>
  obtain⟨t,rfl⟩:=rx;have e':k=(i !=0):=e;subst e';exact PySem.P.truthy_int ⟨H,I,q⟩
 |str y=>
  obtain⟨t,rfl⟩:=rx;obtain⟨hy,e'⟩:y.length<=AO/\k=((y.length:Int) !=0):=e;subst e';exact PySem.P.truthy_str (by lia) ⟨H,I.tok _,q⟩
 |byt y=>
  obtain⟨t,rfl⟩:=rx;obtain⟨hy,e'⟩:y.size<=AO/\k=((y.size:Int) !=0):=e;subst e';exact PySem.W.truthy_bytes (by lia) ⟨H,I.tok _,q⟩
 |ref p=>
  cases rx;have e':(∃xs,SqL X.K H p xs/\k= !xs.isEmpty)\/(∃xs,SqT X.K H p xs/\k= !xs.isEmpty)\/∃kvs,H p=ξ (.dK kvs)/\k= !kvs.isEmpty:=e;rcases e' with⟨xs,hx,e'⟩|⟨xs,hx,e'⟩|⟨kvs,hx,e'⟩
  ·subst e';obtain⟨its,r,pl,hz⟩:=I.list hx;have hlen:=r.length;exact wpAny_truthy_list pl.isList (by simp only [Ah];lia) ⟨H,I.tok _,by rw [a84 r];exact q⟩
  ·subst e';obtain⟨its,r,pl,hz⟩:=I.tuple hx;have hlen:=r.length;exact truthy_tuple pl (by simp only [Ah];lia) ⟨H,I.tok _,by rw [a84 r];exact q⟩
  ·subst e';obtain⟨hz,hS,vs,r,m⟩:kvs.length<=AO/\(p==sysModules)=false/\∃vs,KV kvs vs/\s.heap.DictOf (r8 X.prog X.w) p vs:=I.hok p _ hx;have hlen:kvs.length=vs.length:=Paired.length r;exact wpAny_truthy_dict hS m (by lia) ⟨H,I.tok _,by rw [b5w r];exact q⟩
 |_=>exact(show False from e).elim
theorem c0f(ha:PE X a ta)(he:∀whole,isTrue a X.env whole=(do let v<-whole;standAt a.pos;holding [v] (truthy v))):
 PT X a (λσ H Q=>ta σ H λx H'=>∃k,c27 X.K x H' k/\Q k H'):=by
 intro pins s σ H Q I h
 exact isTrue_plain (K6 (ha pins s σ H _ I h) λv s1 h0=>t7 h0 λx H1 I1 r1 q1=>c4R pins s1 σ H1 x v Q I1 r1 q1) (he _)
theorem b5O:OpR X (binaryOp .Add) (λx y H Q=>∃i j,x= .str i/\y= .str j/\i.length+j.length<=AO/\Q (.str (i++j)) H):=by
 ext t
 obtain⟨i,j,rfl,rfl,hz,q⟩:=h
 ext x
 exact add_str (λt' tk=>⟨.str (i++j),H,I.tok _,⟨_,rfl⟩,q⟩) hz
theorem a1O{x:V}{us:List AA}(r:v9 [x] us):∃u,us=[u]/\u0 x u:=by
 cases r with
 |cons r1 r2=>cases r2;exact⟨_,rfl,r1⟩
theorem c5W{x y:V}{us:List AA}(r:v9 [x,y] us):∃u w',us=[u,w']/\u0 x u/\u0 y w':=by
 cases r with
 |cons r1 r2=>
  cases r2 with
  |cons r3 r4=>cases r4;exact⟨_,_,rfl,r1,r3⟩
theorem b7o(hc:X.calm=true):M8 X (.builtin "min") (λxs H Q=>∃i j,xs=[.int i,.int j]/\Q (.int (if j<i then j else i)) H):=by
 intro pins s σ H xs us Q I r h;obtain⟨i,j,rfl,q⟩:=h;obtain⟨u,w',rfl,⟨t,rfl⟩,⟨t',rfl⟩⟩:=c5W r;refine min_two_ints (I.ok.hd hc) λh' tk k=>⟨_,H,I.kept k, ?_,q⟩
 by_cases hj:j<i
 ·rw [if_pos hj,if_pos hj];exact⟨_,rfl⟩
 ·rw [if_neg hj,if_neg hj];exact⟨_,rfl⟩
end
structure b45(h:Heap)(x dx C:AB)(mA:Str->Υ AA):Prop where
 obj:h.get? x=ξ (PySem.W.instObj C dx)
 ns:h.Ns1 dx mA
 ne:dx≠x
theorem b7V{h:Heap}{dx:AB}{mA:Str->Υ AA}(n:h.Ns1 dx mA):∃od,h.get? dx=ξ od/\∀name,PySem.W.lookIn name od=ξ (mA name):=by
 obtain⟨o,es,ep,ho,hd,hk,_,hm⟩:=n;refine⟨o,ho,λname=> ?_⟩;have e:=hm name;unfold nsFind findBy at e;rw [<-Array.find?_toList] at e;unfold PySem.W.lookIn;rw [hd];dsimp only;split
 ·rename_i y q;rw [q] at e;exact congrArg ξ e
 ·rename_i q;rw [q] at e;have a:es.toList.any (·.refKey)=false:=by
   rw [List.any_eq_false];intro y hy;obtain⟨z,t,hkey⟩:=hk y (Array.mem_toList_iff.mp hy);simp [DictEntry.refKey,hkey]
  have a':¬es.toList.any (·.refKey)=true:=by rw [a];exact Af
  rw [if_neg a'];exact congrArg ξ e
theorem b45.look{h:Heap}{x dx C:AB}{mA:Str->Υ AA}(I:b45 h x dx C mA):∃od,PySem.W.InstAt h x (PySem.W.instObj C dx) C (ξ od)/\∀name,PySem.W.lookIn name od=ξ (mA name):=
 let ⟨od,ho,hl⟩:=b7V I.ns
 ⟨od,⟨I.obj,rfl,rfl,ho⟩,hl⟩
section
variable {prog:AJ}{w:AI}{A:AK}{E:AA->AC->Prop}{s:AC}{K:AE}{x dx C f:AB}{mA:Str->Υ AA}{name:Str}{v:AA}
theorem c1l{expr:Bool}{Q:AA->AC->Prop}(X:K.In s.heap)(I:b45 s.heap x dx C mA)(hg:PySem.W.plainGet K C name=true)(hh:PySem.W.hasDictIn K C=true)
 (ha:PySem.W.findIn K (.ref C) name=ξ ζ) (hv:mA name=ξ v) (hv':PySem.W.handedIn v=true) (h:Q v {s with toks:=s.toks+1}):
 AH (model prog w) A (getAttr (.ref x) name expr) Q E s:=by
 obtain⟨od,J,hl⟩:=I.look
 exact PySem.W.get_value X J (PySem.W.plainGet_of hg).1 (PySem.W.findObj_own hh ha rfl (by rw [hl,hv])) hv' h
theorem b9e{pl:Sem Bool}{Q:AA×List AA->AC->Prop}(X:K.In s.heap)(I:b45 s.heap x dx C mA)(hg:PySem.W.plainGet K C name=true)
 (hf:PySem.W.findIn K (.ref C) name=ξ (ξ (.ref f))) (ht:PySem.W.isFn K (.ref f)=true) (hv:mA name=ζ) (h:Q (.ref f,[.ref x]) s):
 AH (model prog w) A (getMethod (.ref x) name pl) Q E s:=by
 obtain⟨od,J,hl⟩:=I.look
 exact PySem.W.method_fn X J (PySem.W.plainGet_of hg).1 (PySem.W.plainGet_of hg).2 hf (beq_iff_eq.mp ht) (by show(PySem.W.lookIn name od).map (·.isSome)=ξ false;rw [hl,hv];rfl) h
theorem c2h{ns:List Str}{Q:Unit->AC->Prop}(X:K.In s.heap)(I:b45 s.heap x dx C mA)
 (hs:PySem.W.findIn K (.ref C) "__setattr__"=ξ (ξ (.builtin "object.__setattr__"))) (hp:PySem.W.plainOver K C=true) (ht:PySem.W.takerIn K C name=ξ ζ) (hh:PySem.W.hasDictIn K C=true)
 (hw:PySem.Within mA ns) (hsz:ns.length<=AO)
 (h:∀h',b45 h' x dx C (λy=>if y=name then ξ v else mA y)->Heap.SameBut dx s.heap h'->Q () {s with heap:=h',toks:=s.toks+2}):
 AH (model prog w) A (setAttr (.ref x) name v) Q E s:=by
 obtain⟨od,J,hl⟩:=I.look
 refine PySem.W.set_plain X J hs (PySem.W.osa_open (s:={s with toks:=s.toks+1}) (r:=ζ) X J hp ht λb=> ?_)
 obtain⟨cd,hc,hd'⟩:=PySem.W.any_some hh
 have hx:s.heap.get? x=ξ ⟨.ref C,ξ dx,.plain, #[]⟩:=I.obj
 refine AG (AN (AG (AG (wpAny_loadPart hx (AG (PySem.W.Looks.here (s:={s with toks:=s.toks+1}) (PySem.W.looks_clsIn X hc) ?_))))))
 rw [hd']
 refine AN (a:=ξ dx) (AG (AN (AG ?_)))
 refine wpAny_nsSet1 (s:={s with toks:=s.toks+1}) I.ns λh' hn2 hs2=> ?_
 obtain⟨oD,esD,epD,hoD,hdD,hcD⟩:=hn2.count (PySem.Within.cons name v hw)
 refine AG (wpAny_lookBehind hoD (by rw [hdD];exact pastItsLine_dict (Nat.le_trans hcD (by rw [AV];lia))) ?_)
 exact AN (h _ ⟨(hs2.2 _ (Ne.symm I.ne)).trans I.obj,hn2,I.ne⟩ hs2)
theorem b9G{R:Result->AC->Prop}{vs:List AA}{kw:List (Str×AA)}(X:K.In s.heap)(hm:PySem.W.makesIn K C=true)
 (hi:PySem.W.findIn K (.ref C) "__init__"=ξ (ξ (.ref f))) (hf:PySem.W.typeIn K (.ref f)=ξ (.type "function"))
 (h:codeAny (model prog w) (A.under (.builtin "type.__call__" ⟨.ref C::vs,kw⟩)) (.call (.ref f) ⟨.ref (s.heap.objs.size+1)::vs,kw⟩) (PySem.W.InitBack (s.heap.objs.size+1) R)
  {s with heap:=(s.heap.push PySem.W.emptyDict).push (PySem.W.instObj C s.heap.objs.size)}):
 codeAny (model prog w) A (.call (.ref C) ⟨vs,kw⟩) R s:=by
 obtain⟨hh,g,d,t,os⟩:=s
 exact PySem.W.make_core (PySem.W.makes_of X hm) (PySem.W.looks_findIn X hi) (λself=>PySem.W.bind_fn X self hf) (.inl rfl) h
end
def a4c(f:Str)(v:V):List (Str×V)->List (Str×V)
 |[]=>[(f,v)]
 |(g,x)::r=>if g=f then(g,v)::r else(g,x)::a4c f v r
theorem a7Q(f g:Str)(v:V):∀fs:List (Str×V),(a4c f v fs).lookup g=if g=f then ξ v else fs.lookup g
 |[]=>by
  show List.lookup g [(f,v)]=_
  by_cases h:g=f
  ·have hb:(g==f)=true:=beq_iff_eq.mpr h;simp only [List.lookup,hb,if_pos h]
  ·have hb:(g==f)=false:=beq_eq_false_iff_ne.mpr h;simp only [List.lookup,hb,if_neg h]
 |(k,x)::r=>by
  have ih:=a7Q f g v r
  ext an
  by_cases hk:k=f
  ·rw [if_pos hk]
   by_cases h:g=k
   ·have hb:(g==k)=true:=beq_iff_eq.mpr h;simp only [List.lookup,hb,if_pos (h.trans hk)]
   ·have hb:(g==k)=false:=beq_eq_false_iff_ne.mpr h;simp only [List.lookup,hb,if_neg (λe:g=f=>h (e.trans hk.symm))]
  ·rw [if_neg hk]
   by_cases h:g=k
   ·have hb:(g==k)=true:=beq_iff_eq.mpr h;simp only [List.lookup,hb,if_neg (λe:g=f=>hk (h.symm.trans e))]
   ·have hb:(g==k)=false:=beq_eq_false_iff_ne.mpr h;simp only [List.lookup,hb];exact ih
theorem a7a(f:Str)(v:V):∀fs:List (Str×V),f∈(a4c f v fs).map (·.1)/\∀g,g∈fs.map (·.1)->g∈(a4c f v fs).map (·.1)
 |[]=>⟨by simp [a4c],λg h=>by simp at h⟩
 |(k,x)::r=>by
  obtain⟨i1,i2⟩:=a7a f v r
  ext an
  by_cases hk:k=f
  ·rw [if_pos hk];subst hk;exact⟨by simp,λg h=>by simpa using h⟩
  ·rw [if_neg hk];refine⟨?_,λg h=> ?_⟩
   ·rw [AM];exact Ab _ i1
   ·rw [AM] at h ⊢;rcases AX.mp h with e|e
    ·exact AX.mpr (.inl e)
    ·exact Ab _ (i2 g e)
theorem a7O(f:Str)(v:V):∀fs:List (Str×V),(a4c f v fs).length<=fs.length+1
 |[]=>by simp [a4c]
 |(k,x)::r=>by
  have ih:=a7O f v r
  ext an
  by_cases hk:k=f
  ·rw [if_pos hk,AV,AV];lia
  ·rw [if_neg hk,AV,AV];lia
theorem a17.some_of{v:V}{o:Υ AA}(r:a17 (ξ v) o):∃u,o=ξ u/\u0 v u:=by
 cases o with
 |none=>exact(show False from r).elim
 |some u=>exact⟨u,rfl,r⟩
theorem a17.none_of{o:Υ AA}(r:a17 ζ o):o=ζ:=by
 cases o with
 |none=>rfl
 |some u=>exact(show False from r).elim
theorem b7J{v:V}{u:AA}(r:u0 v u):PySem.W.handedIn u=true:=by
 cases v with
 |non=>cases(show u=Value.none from r);rfl
 |bl b=>cases(show u=Value.bool b from r);rfl
 |int i=>obtain⟨t,e⟩:=(show ∃t,u=Value.int i t from r);cases e;rfl
 |str x=>obtain⟨t,e⟩:=(show ∃t,u=Value.str x t from r);cases e;rfl
 |byt b=>obtain⟨t,e⟩:=(show ∃t,u=Value.bytes b t from r);cases e;rfl
 |flt b=>obtain⟨t,e⟩:=(show ∃t,u=Value.float b t from r);cases e;rfl
 |ref a=>cases(show u=Value.ref a from r);rfl
 |ty n=>cases(show u=Value.type n from r);rfl
section
variable {P:AJ}{w:AI}{H H':Hp}{h h':Heap}{a C dx:AB}{fs fs':List (Str×V)}
theorem b2o(hok:HOk P w H h)(e:H a=ξ (.ins C dx fs)):∃mA,b45 h a dx C mA/\(∀f,a17 (fs.lookup f) (mA f))/\PySem.Within mA (fs.map (·.1))/\fs.length<=1000/\H dx=ξ (.own a):=by
 obtain⟨d,z,ne,ob,mA,n,r,q⟩:=(show G3 P w H h a (.ins C dx fs) from hok a _ e);exact⟨mA,⟨ob,n,ne⟩,r,q,z,d⟩
end
structure Cls(K:AE)(C:AB):Prop where
 pg:PySem.W.plainGet K C Str.empty=true
 hd:PySem.W.hasDictIn K C=true
 po:PySem.W.plainOver K C=true
 sa:PySem.W.findIn K (.ref C) "__setattr__"=ξ (ξ (.builtin "object.__setattr__"))
theorem Cls.get{K:AE}{C:AB}(c:Cls K C)(f:Str):PySem.W.plainGet K C f=true:=c.pg
def a0q(K:AE)(C:AB)(f:Str):Prop:=PySem.W.findIn K (.ref C) f=ξ ζ
theorem a0q.taker{K:AE}{C:AB}{f:Str}(n:a0q K C f):PySem.W.takerIn K C f=ξ ζ:=by
 unfold PySem.W.takerIn;rw [show PySem.W.findIn K (.ref C) f=ξ ζ from n]
 rfl
structure c4Y(K:AE)(C:AB)(m:Str)(f:AB):Prop where
 at_:PySem.W.findIn K (.ref C) m=ξ (ξ (.ref f))
 fn:PySem.W.isFn K (.ref f)=true
 kp:PySem.W.keepIn K (.ref f)=true
section
variable {X:Cx}{pins:List (AB×Obj)}{σ:St}{H:Hp}{s:AC}{a C dx:AB}{fs:List (Str×V)}{f:Str}{v:V}{A:AK}{E:AA->AC->Prop}
theorem b5s{b:Bool}{Q:AA->AC->Prop}(I:l8 X pins σ H s)(e:H a=ξ (.ins C dx fs))(c:Cls X.K C)(n:a0q X.K C f)(l:fs.lookup f=ξ v)
 (h:∀u s',l8 X pins σ H s'->u0 v u->Q u s'):AH (model X.prog X.w) A (getAttr (.ref a) f b) Q E s:=by
 obtain⟨mA,O,r,_,_,_⟩:=b2o I.hok e
 obtain⟨u,hu,ru⟩:=a17.some_of (v:=v) (o:=mA f) (by rw [<-l];exact r f)
 exact c1l I.kIn O (c.get f) c.hd n hu (b7J ru) (h u _ (I.tok _) ru)
theorem b5t{m:Str}{g:AB}{pl:Sem Bool}{Q:AA×List AA->AC->Prop}(I:l8 X pins σ H s)(e:H a=ξ (.ins C dx fs))(c:Cls X.K C)(k:c4Y X.K C m g)(l:fs.lookup m=ζ)
 (h:Q (.ref g,[.ref a]) s):AH (model X.prog X.w) A (getMethod (.ref a) m pl) Q E s:=by
 obtain⟨mA,O,r,_,_,_⟩:=b2o I.hok e
 have hn:mA m=ζ:=a17.none_of (by rw [<-l];exact r m)
 exact b9e I.kIn O (c.get m) k.at_ k.fn hn h
theorem b52{y:V}{u:AA}{Q:Unit->AC->Prop}(I:l8 X pins σ H s)(e:H a=ξ (.ins C dx fs))(c:Cls X.K C)(n:a0q X.K C f)(hl:fs.length<1000)(ry:u0 y u)
 (h:∀s',l8 X pins σ (t8 H a (.ins C dx (a4c f y fs))) s'->Q () s'):AH (model X.prog X.w) A (setAttr (.ref a) f u) Q E s:=by
 obtain⟨mA,O,r,wi,_,ho⟩:=b2o I.hok e
 have hz:(fs.map (·.1)).length<=AO:=by rw [AT,sizeLine_eq];lia
 refine c2h I.kIn O c.sa c.po n.taker c.hd wi hz λh' O' sb=>h _ ?_
 have hd:∃o,h'.get? dx=ξ o:=by obtain⟨o,_,_,e',_⟩:=O'.ns;exact⟨o,e'⟩
 refine I.write (x:=a) (e:=dx) (by rw [e];exact True.intro) (.inr ho) (λb q hb z=>(sb.2 b hb).trans z) hd ?_
 refine⟨by rw [i6 O.ne];exact ho, ?_,O.ne,O'.obj,_,O'.ns,λg=> ?_,λg hg=> ?_⟩
 ·have:=a7O f y fs;lia
 ·show a17 ((a4c f y fs).lookup g) (if g=f then ξ u else mA g)
  rw [a7Q]
  by_cases q:g=f
  ·rw [if_pos q,if_pos q];exact ry
  ·rw [if_neg q,if_neg q];exact r g
 ·by_cases q:g=f
  ·rw [q];exact(a7a f y fs).1
  ·refine(a7a f y fs).2 g (wi g λz=>hg ?_)
   show(if g=f then ξ u else mA g)=ζ
   rw [if_neg q];exact z
theorem l8.made(I:l8 X pins σ H s):l8 X pins σ (t8 (t8 H s.heap.objs.size (.own (s.heap.objs.size+1))) (s.heap.objs.size+1) (.ins C s.heap.objs.size []))
 {s with heap:=(s.heap.push PySem.W.emptyDict).push (PySem.W.instObj C s.heap.objs.size)}:=by
 have e1:(s.heap.push PySem.W.emptyDict).get? s.heap.objs.size=ξ PySem.W.emptyDict:=Ae s.heap rfl
 have e2:((s.heap.push PySem.W.emptyDict).push (PySem.W.instObj C s.heap.objs.size)).get? (s.heap.objs.size+1)=ξ (PySem.W.instObj C s.heap.objs.size):=by
  have:=Ae (s.heap.push PySem.W.emptyDict) (o:=PySem.W.instObj C s.heap.objs.size) rfl
  rwa [Heap.size_push] at this
 have e3:(s.heap.push PySem.W.emptyDict).Ns s.heap.objs.size (λ_=>ζ):=⟨PySem.W.emptyDict, #[],_,e1,rfl,(λe he=>absurd he (by simp)),λ_=>rfl⟩
 have I1:=I.laid (a:=s.heap.objs.size) (o:= .own (s.heap.objs.size+1)) (h':=s.heap.push PySem.W.emptyDict) (t':=s.toks) (λb u q=>AY _ q) (AQ _) ⟨_,e1⟩
 refine I1.laid (a:=s.heap.objs.size+1) (o:= .ins C s.heap.objs.size []) (t':=s.toks) (λb u q=>AY _ q) (Nat.le_of_eq (Heap.size_push _ _)) ?_
 have ne:s.heap.objs.size≠s.heap.objs.size+1:=Ac (Nat.lt_succ_self _)
 refine⟨by rw [i6 ne,j1],Nat.zero_le _,ne,e2,λ_=>ζ,(Heap.Ns1.of_empty e3).at λo q=>AY _ q,λ_=>True.intro,λy hy=>absurd rfl hy⟩
theorem c0R{prog:AJ}{w:AI}{env:Env}{e:AF}{f:Str}{pos:Pos}{s:AC}{Q:AA->AC->Prop}(hb:attributeBase e f env (eval e env)=eval e env)
 (h:AH (model prog w) A (eval e env) (λo s₁=>AH (model prog w) A (getAttr o f true) Q E s₁) E s):AH (model prog w) A (eval (.Attribute e f pos) env) Q E s:=
 Attribute_any_ h (by rw [arm_eval_Attribute,hb])
end
def c6o(K:AE)(ta:TE)(f:Str):TE:=λσ H Q=>ta σ H λx H1=>∃a C dx fs v,x= .ref a/\H1 a=ξ (.ins C dx fs)/\Cls K C/\a0q K C f/\fs.lookup f=ξ v/\Q v H1
def c5F(K:AE)(ta tv:TE)(f:Str):TS:=λD σ H=>tv σ H λy H1=>ta σ H1 λx H2=>∃a C dx fs,x= .ref a/\H2 a=ξ (.ins C dx fs)/\Cls K C/\a0q K C f/\fs.length<1000/\
 D.nx σ (t8 H2 a (.ins C dx (a4c f y fs)))
section
variable {X:Cx}{o e value:AF}{f:Str}{pos pos' tpos:Pos}{ta tv:TE}
theorem c4k(he:PE X e ta)(hb:attributeBase e f X.env (eval e X.env)=eval e X.env):PE X (.Attribute e f pos) (c6o X.K ta f):=by
 ext q
 refine c0R hb (K6 (he pins s σ H _ I h) λu s1 ⟨x,H1,I1,rx,a,C,dx,fs,v,ex,ea,c,n,l,q⟩=> ?_);subst ex;obtain rfl:u=Value.ref a:=rx;exact b5s I1 ea c n l λu' s2 I2 ru=>⟨v,H1,I2,ru,q⟩
theorem X6(ha:PE X o ta)(hv:PE X value tv)(hs:swapsWith value (ξ (.Attribute o f pos')) pos.line X.env=pure false):PS X (.Assign [.Attribute o f pos'] value pos) (c5F X.K ta tv f):=by
 intro pins s σ H D I h;refine plainObj_wpAny_Assign_Attribute (K6 (hv pins s σ H _ I h) λu s1 h0=>t7 h0 λy H1 I1 ry q=>K6 (ha pins s1 σ H1 _ I1 q) λov s2 ⟨x,H2,I2,rx,a,C,dx,fs,ex,ea,c,n,l,q2⟩=> ?_) hs;subst ex;obtain rfl:ov=Value.ref a:=rx;exact b52 I2 ea c n l ry λs3 I3=>⟨σ,_,I3,q2⟩
end
section
variable {X:Cx}{pins:List (AB×Obj)}{σ:St}{H:Hp}{s:AC}{A:AK}{E:AA->AC->Prop}{Q:AA->AC->Prop}{c:AA}{b:Bool}
end
structure M5(k:Nat)(A:AK):Prop where
 hd:A.handled=ζ
 dp:A.depth+3*k+5<recursionLimit
 un:A.units+16*k+200<cLine
theorem M5.mono{j k:Nat}{A:AK}(r:M5 k A)(h:j<=k):M5 j A:=⟨r.hd,by have:=r.dp;lia,by have:=r.un;lia⟩
theorem M5.deeper{k:Nat}{A:AK}(r:M5 (k+1) A)(env:Env):M5 k (A.deeper env):=
 ⟨r.hd,by have:=r.dp;show A.depth+1+3*k+5<_;lia,by have:=r.un;show A.units+3+16*k+200<_;lia⟩
theorem b5H{A:AK}{C:AB}{us:List AA}{kw:List (Str×AA)}:(A.under (.builtin "type.__call__" ⟨.ref C::us,kw⟩)).depth=A.depth+1:=by
 first|rfl|simp [Around.under,Code.weight,Code.isCreation,Code.isGuard,Code.isCaller,Code.frames,Code.isFrame,guardIds]
theorem b5I{A:AK}{C:AB}{us:List AA}{kw:List (Str×AA)}:(A.under (.builtin "type.__call__" ⟨.ref C::us,kw⟩)).units=A.units+1:=by
 first|rfl|simp [Around.under,Code.cUnits,Code.frames,Code.isFrame]
theorem M5.make{k:Nat}{A:AK}(r:M5 (k+1) A)(C:AB)(us:List AA)(kw:List (Str×AA)):M5 k (A.under (.builtin "type.__call__" ⟨.ref C::us,kw⟩)):=
 ⟨r.hd,by have:=r.dp;rw [b5H];lia,by have:=r.un;rw [b5I];lia⟩
theorem M5.depth{k:Nat}{A:AK}(r:M5 k A):A.depth<recursionLimit:=by have:=r.dp;lia
theorem M5.units{k:Nat}{A:AK}(r:M5 k A):A.units+64<cLine:=by have:=r.un;lia
def c2r:TA:=λ_ H Q=>Q [] H
def b7c(ta:TE)(tr:TA):TA:=λσ H Q=>ta σ H λx H1=>tr σ H1 λxs H2=>Q (x::xs) H2
section
variable {X:Cx}{e:AF}{es:List AF}{te:TE}{t:TA}{pos:Pos}
theorem X5:PA X [] c2r:=λ_ _ _ _ H Q I h=>Calls.spliced_nil ⟨[],H,I,.nil,h⟩
theorem D8(ha:PE X e te)(hr:PA X es t)(hs:Ψ e es X.env:=by rfl):PA X (e::es) (b7c te t):=by
 intro pos pins s σ H Q I h;rw [hs];show AH _ _ (spliced ((false,eval e X.env)::backTo pos (AL es X.env))) _ _ s;refine Calls.spliced_cons (K6 (ha pins s σ H _ I h) λu s1 h0=>t7 h0 λx H1 I1 r1 q1=> ?_);exact K6 (hr pos pins s1 σ H1 _ I1 q1) λus s2 h0=>t7 h0 λxs H2 I2 r2 q2=>⟨x::xs,H2,I2,.cons r1 r2,q2⟩
def c6t(t:TA):TE:=λσ H Q=>t σ H λxs H1=>xs.length<=AO/\∀p,H1 p=ζ->Q (.ref p) (t8 H1 p (.tup xs))
def c6q(t:TA):TE:=λσ H Q=>t σ H λxs H1=>xs.length<=AO/\∀p,H1 p=ζ->Q (.ref p) (t8 H1 p (.lst xs))
theorem c4r{x1}(h:PA X es t):PE X (.Tuple es x1 pos) (c6t t):=by
 intro pins s σ H Q I hq;refine wpAny_Tuple_spliced (K6 (h pos pins s σ H _ I hq) λus s1 h0=>a6h h0 λxs H1 I1 r z q=>⟨by rw [<-r.length];exact z, ?_⟩)
 have hf:H1 s1.heap.objs.size=ζ:=I1.hok.fresh (AQ _);refine⟨.ref s1.heap.objs.size,t8 H1 s1.heap.objs.size (.tup xs),I1.laid (t':=s1.toks) (λb u e=>AY _ e) (AQ _) ?_,rfl,q _ hf⟩;exact⟨z,us,r,⟨_,Ae _ rfl,rfl,_,rfl⟩⟩
theorem c4m(h:PA X es t):PE X (.List es pos) (c6q t):=by
 intro pins s σ H Q I hq;refine wpAny_List_spliced (K6 (h pos pins s σ H _ I hq) λus s1 h0=>a6h h0 λxs H1 I1 r z q=>⟨by rw [<-r.length];exact z, ?_⟩)
 have hf:H1 s1.heap.objs.size=ζ:=I1.hok.fresh (AQ _);refine⟨.ref s1.heap.objs.size,t8 H1 s1.heap.objs.size (.lst xs),I1.laid (t':=s1.toks) (λb u e=>AY _ e) (AQ _) ?_,rfl,q _ hf⟩;exact⟨z,us,0,r,Ae _ rfl⟩
end
abbrev Sp:=List V->Hp->VK->XK->Prop
abbrev CXT:=List Env->Hp->AC->XK->AA->AC->Prop
structure b43(P:AJ)(w:AI)(K:AE)(mg:Str->Υ AA)(base:Heap)(A:AK)(outer:List Env)(s:AC)(H:Hp):Prop where
 frames:A.frames=ξ outer
 mod:Mod K mg base
 bs:∀b o,base.get? b=ξ o->s.heap.get? b=ξ o/\H b=ζ
 bsz:base.objs.size<=s.heap.objs.size
 funs:s.heap.FunFrames base outer
 frf:∀b∈frs outer,H b=ζ
 hok:HOk P w H s.heap
 bare:AllBare s.gens
def CE(outer:List Env)(P:AJ)(w:AI)(H:Hp)(s:AC)(Q:VK)(u:AA)(s':AC):Prop:=
 ∃v H',s'.os=s.os/\AllBare s'.gens/\Un (frs outer) [] H H' s.heap s'.heap/\HOk P w H' s'.heap/\u0 v u/\Q v H'
def CR(CX:CXT)(outer:List Env)(P:AJ)(w:AI)(H:Hp)(s:AC)(Q:VK)(E:XK)(r:Result)(s':AC):Prop:=
 match r with
 | .ok (.ret u)=>CE outer P w H s Q u s'
 | .ok _=>False
 | .error e=>CX outer H s E e s'
structure S9(P:AJ)(w:AI)(K:AE)(mg:Str->Υ AA)(base:Heap)(CX:CXT)(k:Nat)(f:AB)(fd:FuncData)(ps:List Str)(sp:Sp):Prop where
 len:∀vs H Q E,sp vs H Q E->vs.length=ps.length
 run:∀(A:AK) (outer:List Env) (s:AC) (H:Hp) (args:Args) (us:List AA) (vs:List V) (Q:VK) (E:XK),M5 k A->b43 P w K mg base A outer s H->BindsTo s fd args (ps.zip us)->v9 vs us->sp vs H Q E->
  codeAny (model P w) A (.call (.ref f) args) (CR CX outer P w H s Q E) s
theorem S9.mono{P:AJ}{w:AI}{K:AE}{mg:Str->Υ AA}{base:Heap}{CX:CXT}{j k:Nat}{f:AB}{fd:FuncData}{ps:List Str}{sp:Sp}(F:S9 P w K mg base CX j f fd ps sp)(h:j<=k):
 S9 P w K mg base CX k f fd ps sp:=⟨F.len,λA outer s H args us vs Q E hr=>F.run A outer s H args us vs Q E (hr.mono h)⟩
theorem S9.imp{P:AJ}{w:AI}{K:AE}{mg:Str->Υ AA}{base:Heap}{CX:CXT}{k:Nat}{f:AB}{fd:FuncData}{ps:List Str}{sp sp':Sp}(F:S9 P w K mg base CX k f fd ps sp)
 (h:∀vs H Q E,sp' vs H Q E->sp vs H Q E):S9 P w K mg base CX k f fd ps sp':=
 ⟨λvs H Q E q=>F.len vs H Q E (h _ _ _ _ q),λA outer s H args us vs Q E hr he hb hv hs=>F.run A outer s H args us vs Q E hr he hb hv (h _ _ _ _ hs)⟩
theorem b43.make{P:AJ}{w:AI}{K:AE}{mg:Str->Υ AA}{base:Heap}{A:AK}{outer:List Env}{s:AC}{H:Hp}(e:b43 P w K mg base A outer s H)(C:AB)(us:List AA)(kw:List (Str×AA)):
 b43 P w K mg base (A.under (.builtin "type.__call__" ⟨.ref C::us,kw⟩)) outer s H:=⟨by first|exact e.frames|(simpa [Around.under,Code.envs,Code.isFrame,pushEnvs] using e.frames),e.mod,e.bs,e.bsz,e.funs,e.frf,e.hok,e.bare⟩
section
variable {X:Cx}{pins:List (AB×Obj)}{σ:St}{H:Hp}{s s':AC}
theorem l8.env0(I:l8 X pins σ H s):b43 X.prog X.w X.K X.mg X.base X.A X.stack s H:=
 ⟨I.ok.frames,I.ok.mod,I.bs,Nat.le_trans I.ok.bsz I.sz,I.stack,I.stkFree,I.hok,I.bare⟩
theorem l8.after{Q:VK}{u:AA}(I:l8 X pins σ H s)(h:CE X.stack X.prog X.w H s Q u s'):EP X pins σ Q u s':=by
 obtain⟨v,H',os,bare,un,hok,r,q⟩:=h;obtain⟨hh,g,d,t,os'⟩:=s';obtain rfl:os'=s.os:=os;exact⟨v,H',I.call (h':=hh) (g':=g) (d':=d) (t':=t) (ch:=[]) un hok bare (λb z=>absurd z (by simp)),r,q⟩
end
def c21(sp:Sp)(dvs:List V)(E:XK)(t:TA):TE:=λσ H Q=>t σ H λvs H1=>sp (vs++dvs) H1 Q E
def c5M(C:AB)(sp:Sp)(dvs:List V)(E:XK)(t:TA):TE:=λσ H Q=>t σ H λvs H1=>∀x dx,H1 x=ζ->H1 dx=ζ->dx≠x->
 sp (.ref x::(vs++dvs)) (t8 (t8 H1 dx (.own x)) x (.ins C dx [])) (λv H2=>v= .non/\Q (.ref x) H2) E
def a0L(K:AE)(fd:FuncData)(ps:List Str)(ds:List AA):Prop:=
 ∀(s:AC) (us:List AA),K.In s.heap->(us++ds).length=ps.length->BindsTo s fd ⟨us,[]⟩ (ps.zip (us++ds))
theorem a0L.all{K:AE}{fd:FuncData}{ps:List Str}(h:∀us:List AA,us.length=ps.length->bindArgs fd ⟨us,[]⟩=pure (ps.zip us)):a0L K fd ps []:=λs us _ hl=>by
 rw [Am] at hl ⊢;exact .of_eq (h us hl)
def a6U(CX:CXT)(X:Cx)(E:XK):Prop:=∀(pins:List (AB×Obj)) (σ:St) (H:Hp) (s:AC) (e:AA) (s':AC),l8 X pins σ H s->CX X.stack H s E e s'->X.xe e s'
section
variable {X:Cx}{CX:CXT}{k:Nat}{f C:AB}{fd:FuncData}{ps:List Str}{sp:Sp}{dvs:List V}{ds:List AA}{E:XK}{x m:Str}{p pos apos:Pos}{e o:AF}{es:List AF}{ta:TE}{t:TA}
theorem b3c{pins:List (AB×Obj)}{σ:St}{H:Hp}{s:AC}{Q:VK}{us:List AA}{vs:List V}(F:S9 X.prog X.w X.K X.mg X.base CX k f fd ps sp)(hr:M5 k X.A)(hb:a0L X.K fd ps ds)(hd:v9 dvs ds)(hx:a6U CX X E)
 (I:l8 X pins σ H s) (r:v9 vs us) (h:sp (vs++dvs) H Q E):AH (model X.prog X.w) X.A (call (.ref f) us) (EP X pins σ Q) X.xe s:=by
 have r2:v9 (vs++dvs) (us++ds):=r.append hd
 have hl:(us++ds).length=ps.length:=by rw [<-r2.length];exact F.len _ _ _ _ h
 refine wpAny_call (codeAny_mono (F.run X.A X.stack s H ⟨us,[]⟩ (us++ds) (vs++dvs) Q E hr I.env0 (hb s us I.kIn hl) r2 h) λr s' hq=> ?_)
 cases r with
 |error e=>exact hx pins σ H s e s' I hq
 |ok fl=>
  cases fl with
  |ret u=>exact I.after hq
  |next=>exact False.elim hq
  |brk=>exact False.elim hq
  |cont=>exact False.elim hq
theorem b6Q(F:S9 X.prog X.w X.K X.mg X.base CX k f fd ps sp)(hr:M5 k X.A)(hg:Gl X x)(hm:X.mg x=ξ (.ref f))(hk:PySem.W.keepIn X.K (.ref f)=true)(hb:a0L X.K fd ps ds)(hd:v9 dvs ds)(hx:a6U CX X E)
 (ha:PA X (e::es) t) (hdb:Δ x:=by decide) (he:Ψ e es X.env:=by rfl) (hpl:Φ₁ pos es X.env:=by rfl):
 PE X (.Call (.Name x p) (e::es) [] pos) (c21 sp dvs E t):=by
 intro pins s σ H Q I h
 refine wpAny_Call_Name_kw (a8l I hg hm ?_ hdb)
 refine PySem.W.callWith_K (h₀:=X.base) I.ok.mod.kin hk (K6 (ha pos pins s σ H _ I h) λus s1 h0=>t7 h0 λvs H1 I1 r q=>⟨I1.kIn, ?_⟩) he hpl
 exact b3c F hr hb hd hx I1 r q
theorem b90(F:S9 X.prog X.w X.K X.mg X.base CX k f fd ps sp)(hr:M5 k X.A)(hg:Gl X x)(hm:X.mg x=ξ (.ref f))(hk:PySem.W.keepIn X.K (.ref f)=true)(hb:a0L X.K fd ps ds)(hd:v9 dvs ds)(hx:a6U CX X E)
 (hdb:Δ x:=by decide):PE X (.Call (.Name x p) [] [] pos) (c21 sp dvs E c2r):=by
 intro pins s σ H Q I h
 refine wpAny_Call_Name_kw (a8l I hg hm ?_ hdb)
 exact PySem.W.callWith_K0 I.kIn hk (b3c (us:=[]) F hr hb hd hx I .nil h)
structure Mk(K:AE)(C f:AB):Prop where
 makes:PySem.W.makesIn K C=true
 init:PySem.W.findIn K (.ref C) "__init__"=ξ (ξ (.ref f))
 fn:PySem.W.isFn K (.ref f)=true
 kp:PySem.W.keepIn K (.ref C)=true
theorem c0m{pins:List (AB×Obj)}{σ:St}{H:Hp}{s:AC}{Q:VK}{us:List AA}{vs:List V}(M:Mk X.K C f)(F:S9 X.prog X.w X.K X.mg X.base CX k f fd ps sp)(hr:M5 (k+1) X.A)(hb:a0L X.K fd ps ds)(hd:v9 dvs ds)
 (hx:a6U CX X E) (I:l8 X pins σ H s) (r:v9 vs us)
 (h:∀x dx,H x=ζ->H dx=ζ->dx≠x->sp (.ref x::(vs++dvs)) (t8 (t8 H dx (.own x)) x (.ins C dx [])) (λv H2=>v= .non/\Q (.ref x) H2) E):
 AH (model X.prog X.w) X.A (call (.ref C) us) (EP X pins σ Q) X.xe s:=by
 have hq:=h (s.heap.objs.size+1) s.heap.objs.size (I.hok.fresh (Nat.le_succ _)) (I.hok.fresh (AQ _)) (Ac (Nat.lt_succ_self _))
 have I2:=l8.made (C:=C) I
 have r2:v9 (V.ref (s.heap.objs.size+1)::(vs++dvs)) (Value.ref (s.heap.objs.size+1)::(us++ds)):= .cons rfl (r.append hd)
 have hl:(Value.ref (s.heap.objs.size+1)::us++ds).length=ps.length:=by
  have e:=r2.length;rw [F.len _ _ _ _ hq] at e;exact e.symm
 refine wpAny_call (b9G (f:=f) I.kIn M.makes M.init (beq_iff_eq.mp M.fn) (codeAny_mono (F.run _ X.stack _ _ ⟨Value.ref (s.heap.objs.size+1)::us,[]⟩ (Value.ref (s.heap.objs.size+1)::(us++ds)) _ _ E (hr.make C us [])
  (I2.env0.make C us []) (hb _ (Value.ref (s.heap.objs.size+1)::us) I2.kIn hl) r2 hq) λr s' hq'=> ?_))
 cases r with
 |error e=>exact hx pins σ _ _ e s' I2 hq'
 |ok fl=>
  cases fl with
  |ret u=>
   obtain⟨v,H',I3,rv,ev,q3⟩:=I2.after hq'
   subst ev
   exact⟨rv,⟨V.ref (s.heap.objs.size+1),H',I3,rfl,q3⟩⟩
  |next=>exact False.elim hq'
  |brk=>exact False.elim hq'
  |cont=>exact False.elim hq'
theorem c1X(M:Mk X.K C f)(F:S9 X.prog X.w X.K X.mg X.base CX k f fd ps sp)(hr:M5 (k+1) X.A)(hg:Gl X x)(hm:X.mg x=ξ (.ref C))(hb:a0L X.K fd ps ds)(hd:v9 dvs ds)(hx:a6U CX X E)
 (ha:PA X (e::es) t) (hdb:Δ x:=by decide) (he:Ψ e es X.env:=by rfl) (hpl:Φ₁ pos es X.env:=by rfl):
 PE X (.Call (.Name x p) (e::es) [] pos) (c5M C sp dvs E t):=by
 intro pins s σ H Q I h
 refine wpAny_Call_Name_kw (a8l I hg hm ?_ hdb)
 refine PySem.W.callWith_K (h₀:=X.base) I.ok.mod.kin M.kp (K6 (ha pos pins s σ H _ I h) λus s1 h0=>t7 h0 λvs H1 I1 r q=>⟨I1.kIn, ?_⟩) he hpl
 exact c0m M F hr hb hd hx I1 r q
end
section
variable {X:Cx}{CX:CXT}{k:Nat}{f C:AB}{fd:FuncData}{ps ks:List Str}{sp:Sp}{E:XK}{x m:Str}{p pos apos kpos:Pos}{e o:AF}{es:List AF}{kws:List Keyword}{te ta:TE}{t tk:TA}{nm:Υ Str}
variable {g:List AA->List AA->List AA}{gV:List V->List V->List V}
end
structure i8(N P:List Str)(sc:Scope):Prop where
 kind:sc.kind= .function
 co:sc.isCoroutine=false
 gen:sc.isGenerator=false
 nd:N.Nodup
 pre:N.take P.length=P
 par:∀x∈P,sc.names.lookup x=ξ .local\/sc.names.lookup x=ξ .cell
 nofree:∀y∈sc.names,y.2≠.free
theorem b0Y{kindOf:Str->Υ NameKind}{x:Str}:∀{binds:List (Str×AA)} {m:Str->Υ AA},(∀v,(x,v)∉binds)->bindL kindOf binds m x=m x
 |[],_,_=>rfl
 |(n,v)::r,m,h=>by
  unfold bindL;rw [b0Y λw hw=>h w (Ab _ hw)];split
  ·have:x≠n:=by rintro rfl;exact h v AU
   simp [this]
  ·rfl
theorem b0W{kindOf:Str->Υ NameKind}{x:Str}:∀{binds:List (Str×AA)} {m:Str->Υ AA},(∀v,(x,v)∉binds)->bindC kindOf binds m x=m x
 |[],_,_=>rfl
 |(n,v)::r,m,h=>by
  unfold bindC;rw [b0W λw hw=>h w (Ab _ hw)];split
  ·rfl
  ·have:x≠n:=by rintro rfl;exact h v AU
   simp [this]
theorem b0X{kindOf:Str->Υ NameKind}{x:Str}{v:AA}:∀{P:List Str} {vs:List AA} {i:Nat} {m:Str->Υ AA},P.Nodup->P[i]?=ξ x->vs[i]?=ξ v->kindOf x=ξ .local->
 bindL kindOf (P.zip vs) m x=ξ v
 |[],_,_,_,_,h,_,_=>by simp at h
 |_::_,[],_,_,_,_,h,_=>by simp at h
 |p::P,w::vs,0,m,nd,h1,h2,hk=>by
  simp at h1 h2;subst h1;subst h2;show bindL kindOf ((p,w)::P.zip vs) m p=_;unfold bindL;rw [b0Y λv hv=>(List.nodup_cons.mp nd).1 (List.of_mem_zip hv).1,if_pos hk];simp
 |p::P,w::vs,i+1,m,nd,h1,h2,hk=>by
  show bindL kindOf ((p,w)::P.zip vs) m x=_;unfold bindL;exact b0X (i:=i) (List.nodup_cons.mp nd).2 (by simpa using h1) (by simpa using h2) hk
theorem b0V{kindOf:Str->Υ NameKind}{x:Str}{v:AA}:∀{P:List Str} {vs:List AA} {i:Nat} {m:Str->Υ AA},P.Nodup->P[i]?=ξ x->vs[i]?=ξ v->kindOf x≠ξ .local->
 bindC kindOf (P.zip vs) m x=ξ v
 |[],_,_,_,_,h,_,_=>by simp at h
 |_::_,[],_,_,_,_,h,_=>by simp at h
 |p::P,w::vs,0,m,nd,h1,h2,hk=>by
  simp at h1 h2;subst h1;subst h2;show bindC kindOf ((p,w)::P.zip vs) m p=_;unfold bindC;rw [b0W λv hv=>(List.nodup_cons.mp nd).1 (List.of_mem_zip hv).1,if_neg hk];simp
 |p::P,w::vs,i+1,m,nd,h1,h2,hk=>by
  show bindC kindOf ((p,w)::P.zip vs) m x=_;unfold bindC;exact b0V (i:=i) (List.nodup_cons.mp nd).2 (by simpa using h1) (by simpa using h2) hk
def a4C(N:List Str)(vs:List V):St:=vs.map ξ++AS (N.length - vs.length) ζ
def a8L(CX:CXT)(P:AJ)(w:AI)(K:AE)(mg:Str->Υ AA)(base:Heap)(N:List Str)(qual:Str)(scope:Scope)(f:AB)(cd:AA)(A:AK)(outer:List Env)(s:AC)(H:Hp)(E:XK):Cx where
 prog:=P
 w:=w
 K:=K
 mg:=mg
 base:=base
 A:=A.deeper (envOfC qual scope s.heap.objs.size f cd)
 N:=N
 s₀:=s
 H₀:=H
 env:=envOfC qual scope s.heap.objs.size f cd
 outer:=outer
 stack:=envOfC qual scope s.heap.objs.size f cd::outer
 ex:=[]
 calm:=true
 fn:=λ_=>true
 pn:=[]
 xe:=λe s'=>AH (model P w) (A.deeper (envOfC qual scope s.heap.objs.size f cd)) (leaving (envOfC qual scope s.heap.objs.size f cd) e) (λ_ s''=>CX outer H s E e s'') (λe' s''=>CX outer H s E e' s'') s'
theorem b3D{sc:Scope}{n:Nat}{x:Str}(h:sc.names.lookup x=ξ .cell):∃c,(cellsFrom n sc.names []).lookup x=ξ c:=by
 have q:=PySem.W.cellsFrom_some sc.names n [] (.inl h);exact Option.isSome_iff_exists.mp q
theorem b7M{CX:CXT}{P:AJ}{w:AI}{K:AE}{mg:Str->Υ AA}{base:Heap}{N ps:List Str}{qual:Str}{scope:Scope}{f:AB}{cd:AA}{A:AK}{outer:List Env}{s s1:AC}{H:Hp}{E:XK}{us:List AA}{vs:List V}
 (S:i8 N ps scope) (hd:A.handled=ζ) (e0:b43 P w K mg base A outer s H) (hl:vs.length=ps.length) (r:v9 vs us)
 (x:InCallC s s.heap.objs.size (bindL (envOfC qual scope s.heap.objs.size f cd).kindOf (ps.zip us) λ_=>ζ) (cellsFrom (s.heap.objs.size+1) scope.names []) (bindC (envOfC qual scope s.heap.objs.size f cd).kindOf (ps.zip us) λ_=>ζ) s1):
 l8 (a8L CX P w K mg base N qual scope f cd A outer s H E) [] (a4C N vs) H s1:=by
 have hpl:ps.length<=N.length:=by have:=congrArg List.length S.pre;rw [List.length_take] at this;lia
 obtain⟨h1,tk,rfl,hk⟩:=x.done
 have noA:∀b:AB,b∉(a8L CX P w K mg base N qual scope f cd A outer s H E).ex:=λb z=>absurd (show b∈([]:List AB) from z) (by simp)
 refine⟨⟨e0.mod,S.kind,rfl,rfl,AQ _,λy z c h1 h2=> ?_,λy hy=> ?_,λy c _ h=> ?_,λ_=>hd,Around.frames_deeper e0.frames,.inr ⟨rfl,rfl⟩,λb z=>absurd z (noA b),e0.bs,e0.bsz,λb _ _=>noA b,λb z=>absurd z (noA b),e0.funs,e0.frf⟩,
  rfl,e0.bare,Un.kept hk,⟨_,x.toInCall.ns,λi y v h1 h2 h3=> ?_⟩,λy c h=>⟨_,x.cell y c h⟩,e0.hok.fresh (AQ _),λy c h=> ?_,λp hp=>absurd (show p∈([]:List (AB×Obj)) from hp) (by simp),e0.hok.kept hk, ?_⟩
 ·exact name_of_addr x.apart (PySem.mem_of_lookup h1) (PySem.mem_of_lookup h2)
 ·have hy:scope.names.lookup y=ξ .cell\/scope.names.lookup y=ξ .free:=hy
  rcases hy with hy|hy
  ·exact b3D hy
  ·exact absurd rfl (S.nofree _ (PySem.mem_of_lookup hy))
 ·exact Ay (x.above y c (PySem.mem_of_lookup h))
 ·have hi:i<vs.length:=by
   unfold a4C at h2
   by_cases hi:i<vs.length
   ·exact hi
   ·rw [List.getElem?_append_right (by simpa using hi)] at h2
    rw [List.getElem?_replicate] at h2;split at h2<;>cases h2
  have ha:vs[i]?=ξ v:=by
   unfold a4C at h2;rw [Aw (by simpa using hi),Ak] at h2
   cases e:vs[i]? with
   |none=>rw [e] at h2;cases h2
   |some a=>rw [e] at h2;cases h2;rfl
  obtain⟨u,hu,rv⟩:=r.get ha;have hp:ps[i]?=ξ y:=by
   rw [<-S.pre,List.getElem?_take_of_lt (by lia)];exact h1
  have ndP:ps.Nodup:=by rw [<-S.pre];exact S.nd.sublist (List.take_sublist _ _)
  refine⟨u,rv, ?_⟩;rcases S.par y (BA hp) with k|k
  ·exact .inl ⟨k,b0X ndP hp hu k⟩
  ·obtain⟨c,e⟩:=b3D (n:=s.heap.objs.size+1) k;refine .inr ⟨.inl k,c,e, ?_⟩;have q:=x.cell y c e;rw [b0V ndP hp hu (by show scope.names.lookup y≠_;rw [k];decide)] at q
   exact q
 ·exact e0.hok.fresh (Ay (x.above y c (PySem.mem_of_lookup h)))
 ·unfold a4C
  show _=N.length
  rw [AW,AT,List.length_replicate]
  lia
theorem c47{CX:CXT}{P:AJ}{w:AI}{K:AE}{mg:Str->Υ AA}{base:Heap}{k:Nat}{f:AB}{name qual:Str}{params:Arguments}{body:List Stmt}{scope:Scope}{dV kV doc pm cdv ct oc:AA}{an od:Υ AB}
 {osl:Array (Υ AA)} {N ps:List Str} {sp:Sp} (lk:K.lookup f=ξ ⟨oc,od,.func (PySem.W.fnOf name qual params body scope dV kV doc pm an cdv ct),osl⟩) (hcd:PySem.W.codeIn K cdv qual=true) (S:i8 N ps scope)
 (len:∀vs H Q E,sp vs H Q E->vs.length=ps.length)
 (hbody:∀(A:AK) (outer:List Env) (s:AC) (H:Hp) (vs:List V) (Q:VK) (E:XK),M5 k (A.deeper (envOfC qual scope s.heap.objs.size f cdv))->sp vs H Q E->
  ∃t,PSs (a8L CX P w K mg base N qual scope f cdv A outer s H E) body t/\t {nx:=λ_ H'=>Q .non H',rt:=Q} (a4C N vs) H):
 S9 P w K mg base CX (k+1) f (PySem.W.fnOf name qual params body scope dV kV doc pm an cdv ct) ps sp:=by
 refine⟨len,λA outer s H args us vs Q E hr e0 hb r hsp=> ?_⟩
 have hl:=len _ _ _ _ hsp
 have KX:K.In s.heap:=e0.mod.kin.keeps λb o e=>(e0.bs b o e).1
 have lim:s.heap.NoLimit:=e0.mod.nolimit.keeps λb o e=>(e0.bs b o e).1
 have hkind:∀y∈ps.zip us,scope.names.lookup y.1=ξ .local\/(scope.names.lookup y.1=ξ .cell/\((cellsFrom (s.heap.objs.size+1) scope.names []).lookup y.1).isSome=true):=λ⟨n,v⟩ hy=>by
  rcases S.par n (List.of_mem_zip hy).1 with q|q
  ·exact .inl q
  ·exact .inr ⟨q,PySem.W.cellsFrom_some _ _ _ (.inl q)⟩
 refine codeAny_call_function hr.depth (KX _ _ lk) rfl S.co S.gen rfl (PySem.W.codeRec_of KX hcd) (hb _ _ _ _ ?_)
 refine wpAny_newFunctionEnv_cells S.kind hkind λenv he s1 x=> ?_
 subst he
 refine⟨lim.keeps x.toInCall.keep,codeAny_func ?_⟩
 obtain⟨t,ht,hq⟩:=hbody A outer s H vs Q E (hr.deeper _) hsp
 have I:l8 (a8L CX P w K mg base N qual scope f cdv A outer s H E) [] (a4C N vs) H s1:=b7M S hr.hd e0 hl r x
 refine wpAny_mono (ht [] s1 (a4C N vs) H _ I hq) (λfl s' hs=> ?_) λe s' hs=>hs
 have fin:∀{σ':St} {H':Hp} {v:V} {u:AA},l8 (a8L CX P w K mg base N qual scope f cdv A outer s H E) [] σ' H' s'->u0 v u->Q v H'->CE outer P w H s Q u s':=
  λ {σ' H' v u} J rv q=>⟨v,H',J.os,J.bare,J.base,J.hok,rv,q⟩
 cases fl with
 |ret u=>
  obtain⟨v,σ',H',J,rv,q⟩:=hs
  exact fin J rv q
 |next=>
  obtain⟨σ',H',J,q⟩:=hs
  exact fin (v:=V.non) (u:=Value.none) J rfl q
 |brk=>
  obtain⟨_,_,_,q⟩:=hs
  exact False.elim q
 |cont=>
  obtain⟨_,_,_,q⟩:=hs
  exact False.elim q
section
variable {X:Cx}{x:Str}{p pos:Pos}{e:AF}{es:List AF}{t:TA}{id T:String}{r:List V->Hp->VK->Prop}
def tCB(r:List V->Hp->VK->Prop)(t:TA):TE:=λσ H Q=>t σ H λvs H1=>r vs H1 Q
theorem a2m(hc:M8 X (.builtin id) r)(hg:Gl X x)(hm:X.mg x=ζ)(hv:bootBuiltins x=ξ (.builtin id))(ha:PA X (e::es) t)(hn:x≠"__name__":=by decide)(hdb:Δ x:=by decide)
 (he:Ψ e es X.env:=by rfl) (hpl:Φ₁ pos es X.env:=by rfl):PE X (.Call (.Name x p) (e::es) [] pos) (tCB r t):=by
 intro pins s σ H Q I h
 refine wpAny_Call_Name_kw (a7c I hg hm hv ?_ hn hdb)
 exact PyProof.Rows.callWith_builtin1 (K6 (ha pos pins s σ H _ I h) λus s1 h0=>t7 h0 λvs H1 I1 r1 q1=>hc pins s1 σ H1 vs us Q I1 r1 q1) he hpl
theorem b1v(hc:M8 X (.type T) r)(hg:Gl X x)(hm:X.mg x=ζ)(hv:bootBuiltins x=ξ (.type T))(ha:PA X (e::es) t)(hn:x≠"__name__":=by decide)(hdb:Δ x:=by decide)
 (he:Ψ e es X.env:=by rfl) (hpl:Φ₁ pos es X.env:=by rfl):PE X (.Call (.Name x p) (e::es) [] pos) (tCB r t):=by
 intro pins s σ H Q I h
 refine wpAny_Call_Name_kw (a7c I hg hm hv ?_ hn hdb)
 exact PyProof.Rows.callWith_type1 (K6 (ha pos pins s σ H _ I h) λus s1 h0=>t7 h0 λvs H1 I1 r1 q1=>hc pins s1 σ H1 vs us Q I1 r1 q1) he hpl
end
end L2
namespace HT
open PySem PyProof.Rows
section
open PySem.SeqAt
open PySem.AutoSeq1 (wpAny_loadPart')
open PySem.MeetsSeq PySem.MeetsSeq2 PySem.MeetsSeq3
end
section
variable {prog:AJ}{w:AI}{A:AK}{E:AA->AC->Prop}{s:AC}
theorem cat_tup{t b:AB}{vs ws:List AA}{Q:AA->AC->Prop}(ht:IsTup s.heap t vs.toArray)(hb:IsTup s.heap b ws.toArray)(hv:vs≠[])
 (h1:ws=[]->Q (.ref t) s) (h2:ws≠[]->Q (.ref s.heap.objs.size) {s with heap:=s.heap.push {cls:= .type "tuple",data:= .seq (vs++ws).toArray}})
 (hsz:vs.length+ws.length<=AO):AH (model prog w) A (binaryOp .Add (.ref t) (.ref b)) Q E s:=by
 obtain⟨⟨cls,dd,data,sl⟩,ho,hc,n,hd⟩:=id ht
 obtain⟨⟨cls2,dd2,data2,sl2⟩,ho2,hc2,n2,hd2⟩:=id hb
 simp only at hc hd hc2 hd2
 subst hc hd hc2 hd2
 have e:vs.toArray++ws.toArray=(vs++ws).toArray:=by simp
 by_cases hw:ws=[]
 ·exact concat_meets ⟨_,ho,rfl⟩ ⟨_,ho2,rfl⟩ noFill_tuple_add seq_tuple_add PySem.F.slot_tuple_add PySem.F.entry_tuple_add (PySem.F.args_tuple_add_2 _ _)
   (tuple_addW1 t b vs.toArray ws.toArray n n2 dd dd2 sl sl2 (by simpa using hv) (by simp [hw])) ⟨ho,ho2,h1 hw⟩
 ·refine concat_meets ⟨_,ho,rfl⟩ ⟨_,ho2,rfl⟩ noFill_tuple_add seq_tuple_add PySem.F.slot_tuple_add PySem.F.entry_tuple_add (PySem.F.args_tuple_add_2 _ _)
   (tuple_addW2 t b vs.toArray ws.toArray n n2 dd dd2 sl sl2 (by simpa using hv) (by simpa using hw) (by rw [Ah,Ah];exact hsz)) ⟨ho,ho2, ?_⟩
  rw [e]
  exact h2 hw
def sIx(n d:Nat):Υ Int->Nat
 |none=>d
 |some v=>if v<0 then(v+(n:Int)).toNat else min v.toNat n
theorem sIx_le(n d:Nat)(hd:d<=n)(o:Υ Int):sIx n d o<=n:=by
 cases o with
 |none=>exact hd
 |some v=>
  show(if v<0 then(v+(n:Int)).toNat else min v.toNat n)<=n
  by_cases hv:v<0
  ·rw [if_pos hv];lia
  ·rw [if_neg hv];exact Nat.min_le_right _ _
theorem b6k(v:Int)(n d:Nat):(if v<0 then max (v+(n:Int)) 0 else min v (n:Int))=((sIx n d (ξ v):Nat):Int):=by
 show(if v<0 then max (v+(n:Int)) 0 else min v (n:Int))=(((if v<0 then(v+(n:Int)).toNat else min v.toNat n):Nat):Int)
 by_cases hv:v<0
 ·simp only [if_pos hv];lia
 ·simp only [if_neg hv];lia
theorem b5c(lo hi:Υ Int)(n:Nat):Builtin.Slice.sliceAdjust lo hi 1 (n:Int)=(((sIx n 0 lo:Nat):Int),((sIx n n hi:Nat):Int)):=by
 have h1:¬((1:Int)<0):=by lia
 unfold Builtin.Slice.sliceAdjust;simp only [h1,if_false];refine Prod.ext ?_ ?_
 ·cases lo with
  |none=>rfl
  |some v=>exact b6k v n 0
 ·cases hi with
  |none=>rfl
  |some v=>exact b6k v n n
theorem b5Q(i j:Nat):Builtin.Slice.slicePlaces (i:Int) (j:Int) 1=j - i:=by
 unfold Builtin.Slice.slicePlaces;have h1:(1:Int)>0:=by lia
 simp only [h1,if_true,Int.ediv_one];split<;>lia
theorem a9R{v:AA}{o:Υ Int}{Q:Υ Int->AC->Prop}(p:IsPart v o)(h:Q o s):AH (model prog w) A (Builtin.Slice.slicePartIndex v) Q E s:=by
 cases p with
 |none=>exact slicePart_none h
 |int i t=>exact slicePart_int h
theorem sliceApplied_gen{sl:AB}{vl vu:AA}{lo hi:Υ Int}{n:Nat}{Q:Int×Int×Nat->AC->Prop}(hs:s.heap.IsSliceOf sl vl vu .none)(pl:IsPart vl lo)(pu:IsPart vu hi)
 (h:Q (((sIx n 0 lo:Nat):Int),1,sIx n n hi - sIx n 0 lo) s):AH (model prog w) A (Builtin.Slice.sliceApplied (.ref sl) (pure (n:Int))) Q E s:=by
 obtain⟨os,hos,hcs,hds⟩:=id hs
 unfold Builtin.Slice.sliceApplied Builtin.Slice.sliceFields
 refine AG (AG (wpAny_field hos hds (x:=vl) rfl (AG (wpAny_field hos hds (x:=vu) rfl (AG (wpAny_field hos hds (x:= .none) rfl (AN ?_)))))))
 refine AG (slicePart_none ?_)
 show AH _ _ (if((1:Int)==0)=true then _ else _) _ _ s
 rw [if_neg (by decide)]
 refine AG (a9R pl (AG (a9R pu (AG (AN ?_)))))
 show AH _ _ (match Builtin.Slice.sliceAdjust lo hi 1 (n:Int) with|(lo,hi)=>pure (lo,(1:Int),Builtin.Slice.slicePlaces lo hi 1)) _ _ s
 rw [b5c lo hi n]
 show AH _ _ (pure (((sIx n 0 lo:Nat):Int),(1:Int),Builtin.Slice.slicePlaces ((sIx n 0 lo:Nat):Int) ((sIx n n hi:Nat):Int) 1)) _ _ s
 rw [b5Q]
 exact AN h
theorem b95(xs:Array AA)(i k:Nat):((AZ k).filterMap λ(m:Nat)=>xs[((i:Int)+(m:Int)*1).toNat]?).toArray=((xs.toList.drop i).take k).toArray:=by
 have e:(λ(m:Nat)=>xs[((i:Int)+(m:Int)*1).toNat]?)=λm=>xs[i+m]?:=by
  funext m
  have:((i:Int)+(m:Int)*1).toNat=i+m:=by lia
  rw [this]
 rw [e];have:=pick_run xs i k;rw [List.filterMap_map] at this;have e2:((λx=>xs[x]?)∘λx=>i+x)=λm=>xs[i+m]?:=rfl;rw [e2] at this;rw [this]
theorem getItem_tuple_cut{t sl:AB}{items:Array AA}{vl vu:AA}{lo hi:Υ Int}{Q:AA->AC->Prop}(ht:IsTup s.heap t items)(hs:s.heap.IsSliceOf sl vl vu .none)(pl:IsPart vl lo)(pu:IsPart vu hi)
 (hw:¬(sIx items.size 0 lo=0/\sIx items.size items.size hi=items.size))
 (h:Q (.ref s.heap.objs.size) {s with heap:=s.heap.push {cls:= .type "tuple",data:= .seq ((items.toList.drop (sIx items.size 0 lo)).take (sIx items.size items.size hi - sIx items.size 0 lo)).toArray}})
 (hsz:items.size<=AO):AH (model prog w) A (getItem (.ref t) (.ref sl)) Q E s:=by
 have htake:sizeOk (.seq ((items.toList.drop (sIx items.size 0 lo)).take (sIx items.size items.size hi - sIx items.size 0 lo)).toArray):=by
  show((items.toList.drop (sIx items.size 0 lo)).take (sIx items.size items.size hi - sIx items.size 0 lo)).toArray.size<=AO;rw [Ah,List.length_take,List.length_drop,Array.length_toList]
  lia
 have hj:sIx items.size items.size hi<=items.size:=sIx_le _ _ (AQ _) hi
 obtain⟨os,hos,hcs,hds⟩:=id hs
 have hTs:s.TypeIs (.ref sl) "slice":=⟨os,hos,hcs⟩
 unfold getItem
 try with_reducible refine wpAny_holding ?_
 first|refine AG (AN ?_)|skip
 refine AG (wpAny_sequenceKey ht.typeIs (by decide) ?_)
 refine AG (wpAny_callSpecial?_slot (name:=AD "__getitem__") ht.typeIs PyProof.Rows.slot_tuple_getitem
  (wpAny_call_entry PyProof.Rows.slot_tuple_getitem ht.typeIs entry_tuple_getitem ?_ (args_tuple_getitem _ _)))
 show AH _ _ (Builtin.Tuple.tupleItemsOf (.ref t)>>=_) _ _ s
 refine AG (tupleItemsOf_ ht ?_)
 refine AG (wpAny_typeOf hTs ?_)
 rw [if_pos (by decide)]
 refine AG (sliceApplied_gen hs pl pu ?_)
 have hno:¬((((sIx items.size 0 lo:Nat):Int)==0 &&(1:Int)==1 &&(sIx items.size items.size hi - sIx items.size 0 lo)==items.size)=true):=by
  intro q;rw [χ,χ] at q;have q1:((sIx items.size 0 lo:Nat):Int)=0:=eq_of_beq q.1.1;have q2:sIx items.size items.size hi - sIx items.size 0 lo=items.size:=eq_of_beq q.2;exact hw ⟨by lia,by lia⟩
 show AH _ _ (if(((sIx items.size 0 lo:Nat):Int)==0 &&(1:Int)==1 &&(sIx items.size items.size hi - sIx items.size 0 lo)==items.size)=true then _ else _) _ _ s
 rw [if_neg hno,b95]
 first
  |exact AG (m:=Builtin.Tuple.tupleExact _) (wpAny_newObj_type (AN ⟨_,rfl,AN h⟩) htake)
  |exact AG (m:=Builtin.Tuple.tupleExact _) (wpAny_newObj_type (AG (AN (AN ⟨_,rfl,AN h⟩))) htake)
  |exact AG (AG (m:=Builtin.Tuple.tupleExact _) (wpAny_newObj_type (AN (AN ⟨_,rfl,AN h⟩)) htake))
  |exact AG (AG (m:=Builtin.Tuple.tupleExact _) (wpAny_newObj_type (AN ⟨_,rfl,AN h⟩) htake))
end
end HT
namespace L2
abbrev TO:=St->Hp->(Υ Int->Hp->Prop)->Prop
def PO(X:Cx)(e:Υ AF)(t:TO):Prop:=
 ∀pins s σ (H:Hp) (Q:Υ Int->Hp->Prop),l8 X pins σ H s->t σ H Q->
  AH (model X.prog X.w) X.A (evalPart e X.env) (λu s'=>∃o H',l8 X pins σ H' s'/\IsPart u o/\Q o H') X.xe s
def c2s:TO:=λ_ H Q=>Q ζ H
def c5O(t:TE):TO:=λσ H Q=>t σ H λx H1=>∃i,x= .int i/\Q (ξ i) H1
section
variable {X:Cx}{e:AF}{te:TE}{lo hi:Υ AF}{tl th:TO}{pos p2:Pos}
theorem c1Z:PO X ζ c2s:=by
 ext q
 rw [evalPart_none];exact AN ⟨ζ,H,I,.none,h⟩
theorem c10(h:PE X e te):PO X (ξ e) (c5O te):=by
 intro pins s σ H Q I hw;rw [evalPart_some];refine K6 (h pins s σ H _ I hw) λu s1 h0=>t7 h0 λx H1 I1 r1 q1=> ?_;obtain⟨i,rfl,q⟩:=q1;obtain⟨t,rfl⟩:=r1;exact⟨ξ i,H1,I1,.int i t,q⟩
def SlR(X:Cx)(r:V->Υ Int->Υ Int->Hp->VK->Prop):Prop:=
 ∀pins s σ (H:Hp) (x:V) (v vl vu:AA) (lo hi:Υ Int) (sl:AB) (Q:VK),l8 X pins σ H s->u0 x v->s.heap.IsSliceOf sl vl vu .none->IsPart vl lo->IsPart vu hi->r x lo hi H Q->
  ∃T id,typeLookup (.type T) "__getitem__"=pure (ξ (.builtin id))/\s.TypeIs v T/\AH (model X.prog X.w) X.A (getItem v (.ref sl)) (EP X pins σ Q) X.xe s
def tSl(r:V->Υ Int->Υ Int->Hp->VK->Prop)(te:TE)(tl th:TO):TE:=λσ H Q=>te σ H λx H1=>tl σ H1 λl H2=>th σ H2 λu H3=>r x l u H3 Q
theorem b93{r:V->Υ Int->Υ Int->Hp->VK->Prop}(hr:SlR X r)(he:PE X e te)(hl:PO X lo tl)(hu:PO X hi th):PE X (.Subscript e (.Slice lo hi ζ p2) pos) (tSl r te tl th):=by
 ext q
 refine Subscript_ (K6 (he pins s σ H _ I h) λv s1 h0=>t7 h0 λx H1 I1 r1 q1=> ?_);refine wpAny_Slice (K6 (hl pins s1 σ H1 _ I1 q1) λvl s2 h0=>t7 h0 λl H2 I2 pl q2=>K6 (hu pins s2 σ H2 _ I2 q2) λvu s3 h0=>t7 h0 λu H3 I3 pu q3=> ?_);rw [evalPart_none];refine AN ?_;have I4:l8 X pins σ H3 {s3 with heap:=s3.heap.push {cls:= .type "slice",data:= .fields #[vl,vu,.none]}}:=I3.kept (t':=s3.toks) λb ob q=>AY _ q
 obtain⟨T,id,hT,ht,hg⟩:=hr pins {s3 with heap:=s3.heap.push {cls:= .type "slice",data:= .fields #[vl,vu,.none]}} σ H3 x v vl vu l u s3.heap.objs.size Q I4 r1 (Heap.IsSliceOf.new ..) pl pu q3
 show AH (model X.prog X.w) X.A (subscriptTail e (.Slice lo hi ζ p2) v (.ref s3.heap.objs.size)) (EP X pins σ Q) X.xe {s3 with heap:=s3.heap.push {cls:= .type "slice",data:= .fields #[vl,vu,.none]}}
 exact tail_any (ops:=[.ref s3.heap.objs.size,v]) ht hT hg (by with_unfolding_all rfl)
def c0V(xs:List V)(lo hi:Υ Int):List V:=(xs.drop (HT.sIx xs.length 0 lo)).take (HT.sIx xs.length xs.length hi - HT.sIx xs.length 0 lo)
theorem b3I(xs:List V)(lo hi:Υ Int):(c0V xs lo hi).length<=xs.length:=by
 unfold c0V;rw [List.length_take,List.length_drop]
 lia
def c6i(K:AE):V->Υ Int->Υ Int->Hp->VK->Prop:=λx lo hi H Q=>∃a xs,x= .ref a/\SqT K H a xs/\
 ¬(HT.sIx xs.length 0 lo=0/\HT.sIx xs.length xs.length hi=xs.length)/\∀p,H p=ζ->Q (.ref p) (t8 H p (.tup (c0V xs lo hi)))
theorem c4I:SlR X (c6i X.K):=by
 ext w
 refine⟨"tuple",_,PyProof.Rows.slot_tuple_getitem.lookup,ht.typeIs, ?_⟩;refine HT.getItem_tuple_cut ht hs pl pu (by rw [hlen];exact hw) ?_ (by rw [hlen];exact hz)
 rw [hlen];refine⟨.ref s.heap.objs.size,_,I.laid (t':=s.toks) (o:= .tup (c0V xs lo hi)) (λb ob q=>AY _ q) (AQ _) ?_,rfl,q _ (I.hok.fresh (AQ _))⟩;exact⟨Nat.le_trans (b3I xs lo hi) hz,_,(r.drop (HT.sIx xs.length 0 lo)).take (HT.sIx xs.length xs.length hi - HT.sIx xs.length 0 lo),IsTup.new _ _⟩
def c5z(K:AE):R2:=λx y H Q=>∃a b xs ys,x= .ref a/\y= .ref b/\SqT K H a xs/\SqT K H b ys/\xs≠[]/\xs.length+ys.length<=AO/\
 (ys=[]->Q (.ref a) H)/\(ys≠[]->∀p,H p=ζ->Q (.ref p) (t8 H p (.tup (xs++ys))))
theorem v9.nil_iff{xs:List V}{us:List AA}(r:v9 xs us):us=[]↔xs=[]:=by
 cases r with
 |nil=>simp
 |cons _ _=>simp
theorem c1J:OpR X (binaryOp .Add) (c5z X.K):=by
 ext t
 obtain⟨a,b,xs,ys,rfl,rfl,ha,hb,hx,hz,q1,q2⟩:=h;cases rx;cases ry;obtain⟨its,r1,p1,_⟩:=I.tuple ha;obtain⟨its2,r2,p2,_⟩:=I.tuple hb;refine HT.cat_tup p1 p2 (λz=>hx (r1.nil_iff.mp z)) (λz=>⟨.ref a,H,I,rfl,q1 (r2.nil_iff.mp z)⟩) (λz=> ?_) (by rw [<-r1.length,<-r2.length];exact hz)
 refine⟨.ref s.heap.objs.size,_,I.laid (t':=s.toks) (o:= .tup (xs++ys)) (λb ob q=>AY _ q) (AQ _) ?_,rfl,q2 (λw=>z (r2.nil_iff.mpr w)) _ (I.hok.fresh (AQ _))⟩;exact⟨by rw [AW];exact hz,_,r1.append r2,IsTup.new _ _⟩
end
def ixN(n:Nat)(i:Int):Υ Nat:=if 0<=i then(if i<n then ξ i.toNat else ζ) else if -(n:Int)<=i then ξ (i+n).toNat else ζ
def atI{α:Type}(xs:List α)(i:Int):Υ α:=(ixN xs.length i).bind λj=>xs[j]?
theorem c1o{n:Nat}{i:Int}{j:Nat}(h:ixN n i=ξ j):seqIndex? i n=ξ j/\j<n/\ -(n:Int)<=i/\i<n:=by
 unfold ixN at h
 by_cases h0:0<=i
 ·rw [if_pos h0] at h
  by_cases h1:i<n
  ·rw [if_pos h1] at h;have e:i.toNat=j:=Option.some.inj h;exact⟨by rw [seqIndex_of h0 h1,e],by lia,by lia,h1⟩
  ·rw [if_neg h1] at h;cases h
 ·rw [if_neg h0] at h
  by_cases h1: -(n:Int)<=i
  ·rw [if_pos h1] at h;have e:(i+n).toNat=j:=Option.some.inj h;exact⟨by rw [seqIndex_neg (by lia) h1,e],by lia,h1,by lia⟩
  ·rw [if_neg h1] at h;cases h
theorem b10{α:Type}{xs:List α}{i:Int}{v:α}(h:atI xs i=ξ v):∃j,seqIndex? i xs.length=ξ j/\xs[j]?=ξ v/\j<xs.length/\ -(xs.length:Int)<=i/\i<xs.length:=by
 unfold atI at h;cases e:ixN xs.length i with
 |none=>rw [e] at h;cases h
 |some j=>
  rw [e] at h;obtain⟨h1,h2,h3,h4⟩:=c1o e;exact⟨j,h1,h,h2,h3,h4⟩
def b6d(b:AF):Prop:=∀o i,subscripted b false o i=operate [o,i] (getItem o i)
def IxR(X:Cx)(r:R2):Prop:=
 ∀(value slice:AF) (pins:List (AB×Obj)) (s:AC) (σ:St) (H:Hp) (x y:V) (v u:AA) (Q:VK),l8 X pins σ H s->u0 x v->u0 y u->r x y H Q->
  subscripted slice false v u=operate [v,u] (getItem v u)->AH (model X.prog X.w) X.A (subscriptTail value slice v u) (EP X pins σ Q) X.xe s
def MtR(X:Cx)(id:String)(r:V->List V->Hp->VK->Prop):Prop:=
 ∀pins s σ (H:Hp) (x:V) (xs:List V) (v:AA) (us:List AA) (Q:VK),l8 X pins σ H s->u0 x v->v9 xs us->r x xs H Q->
  AH (model X.prog X.w) X.A (call (.builtin id) (v::us)) (EP X pins σ Q) X.xe s
section
variable {X:Cx}{a b:AF}{ta tb:TE}{pos:Pos}
theorem c5v{r:R2}(hr:IxR X r)(ha:PE X a ta)(hb:PE X b tb)(hs:b6d b):PE X (.Subscript a b pos) (tOp r ta tb):=by
 ext q
 exact Subscript_ (c3c ha hb I h λv u s2 x y H2 I2 rx ry q=>hr a b pins s2 σ H2 x y v u Q I2 rx ry q (hs _ _))
def c6e(K:AE):R2:=λx y H Q=>∃p xs i v,x= .ref p/\y= .int i/\SqL K H p xs/\atI xs i=ξ v/\Q v H
def c6g(K:AE):R2:=λx y H Q=>∃p xs i v,x= .ref p/\y= .int i/\SqT K H p xs/\atI xs i=ξ v/\Q v H
def c6f:R2:=λx y H Q=>∃z i c,x= .str z/\y= .int i/\z.length<=AO/\atI z.cps.toList i=ξ c/\Q (.str ⟨#[c]⟩) H
theorem c1p:IxR X (c6e X.K):=by
 intro value slice pins s σ H x y v u Q I rx ry h hs;obtain⟨p,xs,i,z,rfl,rfl,hq,he,q⟩:=h;cases rx;obtain⟨t,rfl⟩:=ry;obtain⟨its,r,pl,hz⟩:=I.list hq;obtain⟨j,h1,h2,h3,h4,h5⟩:=b10 he;obtain⟨w,ew,rw'⟩:=r.get h2;have hl:=r.length;have hn:=a7d;have fin:EP X pins σ Q w s:=⟨z,H,I,rw',q⟩
 by_cases h0:0<=i
 ·have hj:i.toNat=j:=by
   rw [seqIndex_of h0 h5] at h1;exact Option.some.inj h1
  exact item_listR pl.isList h0 (by lia) (by rw [hj];simpa using ew) fin hs
 ·have hj:(i+(its.toArray.size:Int)).toNat=j:=by
   rw [seqIndex_neg (by lia) h4] at h1
   rw [Ah,<-hl];exact Option.some.inj h1
  exact subscriptTail_builtinR (x:=w) pl.isList.typeIs slot_list_getitem.lookup
   (wpAny_getItem_list_neg (Q:=λr s'=>r=w/\EP X pins σ Q r s') pl.isList (by lia) (by rw [Ah]<;>lia) (by lia) (by rw [hj];simpa using ew) ⟨rfl,fin⟩) hs
theorem c3L:IxR X (c6g X.K):=by
 intro value slice pins s σ H x y v u Q I rx ry h hs;obtain⟨p,xs,i,z,rfl,rfl,hq,he,q⟩:=h;cases rx;obtain⟨t,rfl⟩:=ry;obtain⟨its,r,pl,hz⟩:=I.tuple hq;obtain⟨j,h1,h2,h3,h4,h5⟩:=b10 he;obtain⟨w,ew,rw'⟩:=r.get h2;have hl:=r.length;have hn:=a7d;have fin:EP X pins σ Q w s:=⟨z,H,I,rw',q⟩;exact subscriptTail_builtinR (x:=w) pl.typeIs slot_tuple_getitem.lookup
  (getItem_tuple (j:=j) (Q:=λr s'=>r=w/\EP X pins σ Q r s') pl (by lia) (by lia) (by rw [Ah,<-hl];exact h1) (by simpa using ew) ⟨rfl,fin⟩) hs
theorem c3K:IxR X c6f:=by
 intro value slice pins s σ H x y v u Q I rx ry h hs;obtain⟨z,i,c,rfl,rfl,hz,he,q⟩:=h
 ext x
 obtain⟨j,h1,h2,h3,h4,h5⟩:=b10 he;have hl:z.cps.toList.length=z.length:=by simp [Str.length]
 rw [hl] at h1 h4 h5;have hn:=a7d;exact tail_any (typeIs_str s z t) slot_str_getitem.lookup (getItem_str (c:=c) (by
  have e1:decide (i< -(2 ^ 63:Int))=false:=decide_eq_false (by lia)
  have e2:decide (i>=2 ^ 63)=false:=decide_eq_false (by lia)
  rw [e1,e2,Bool.or_false]) (by rw [h1];simpa using h2) ⟨.str ⟨#[c]⟩,H,I.tok _,⟨_,rfl⟩,q⟩) hs
theorem b15:M8 X (.builtin "len") (λxs H Q=>∃p ys,xs=[.ref p]/\(SqL X.K H p ys\/SqT X.K H p ys)/\Q (.int ys.length) H):=by
 intro pins s σ H xs us Q I r h;obtain⟨p,ys,rfl,hq,q⟩:=h;obtain⟨u,rfl,rx⟩:=a1O r;cases rx;have hn:=a7d;rcases hq with hq|hq
 ·obtain⟨its,r',pl,hz⟩:=I.list hq;have hlen:=r'.length;exact Calls.call_len_list pl.isList (by simp only [Ah]<;>lia) ⟨.int ys.length,H,I.tok _,⟨s.toks+1,by rw [Ah,hlen]⟩,q⟩
 ·obtain⟨its,r',pl,hz⟩:=I.tuple hq;have hlen:=r'.length;exact len_tuple pl (by simp only [Ah]<;>lia) ⟨.int ys.length,H,I.tok _,⟨s.toks+1,by rw [Ah,hlen]⟩,q⟩
theorem b16:M8 X (.builtin "len") (λxs H Q=>∃z,xs=[.str z]/\z.length<=AO/\Q (.int z.length) H):=by
 intro pins s σ H xs us Q I r h;obtain⟨z,rfl,hz,q⟩:=h;obtain⟨u,rfl,t,rfl⟩:=a1O r;have hn:=a7d;exact len_str (by lia) ⟨.int z.length,H,I.tok _,⟨_,rfl⟩,q⟩
theorem b0h:M8 X (.type "tuple") (λxs H Q=>∃p ys,xs=[.ref p]/\((SqL X.K H p ys/\∀l,H l=ζ->Q (.ref l) (t8 H l (.tup ys)))\/(SqT X.K H p ys/\Q (.ref p) H))):=by
 intro pins s σ H xs us Q I r h;obtain⟨p,ys,rfl,h⟩:=h;obtain⟨u,rfl,rx⟩:=a1O r;cases rx;rcases h with⟨hq,q⟩|⟨hq,q⟩
 ·obtain⟨its,r',pl,hz⟩:=I.list hq;have hlen:=r'.length;refine call_tuple_list pl.isList (λh' kp=> ?_) (by simp only [Ah]<;>lia)
  have I1:l8 X pins σ H {s with heap:=h'}:=I.kept (t':=s.toks) kp
  have I2:l8 X pins σ (t8 H h'.objs.size (.tup ys)) {s with heap:=h'.push {cls:= .type "tuple",data:= .seq its.toArray}}:=
   I1.laid (t':=s.toks) (λb o e=>AY _ e) (AQ _) (show G3 X.prog X.w _ _ _ (.tup ys) from⟨hz,its,r',IsTup.new _ _⟩)
  exact⟨.ref h'.objs.size,_,I2,rfl,q _ (I1.hok.fresh (AQ _))⟩
 ·obtain⟨its,r',pl,hz⟩:=I.tuple hq;exact call_tuple_same pl ⟨.ref p,H,I,rfl,q⟩
def tyV(K:AE)(T:String)(x:V)(H:Hp):Prop:=match x with
 | .str _=>T="str"
 | .int _=>T="int"
 | .ref p=>(T="list"/\∃xs,SqL K H p xs)\/(T="tuple"/\∃o,K.lookup p=ξ o/\o.cls= .type "tuple"/\o.dict=ζ)\/
  (T="dict"/\((∃kvs,H p=ξ (.dK kvs))\/∃kvs,H p=ξ (.dT kvs)))\/(T="set"/\∃S n,H p=ξ (.set S n))
 |_=>False
theorem c0I{pins:List (AB×Obj)}{σ:St}{H:Hp}{s:AC}{T:String}{x:V}{v:AA}(I:l8 X pins σ H s)(r:u0 x v)(ty:tyV X.K T x H):
 s.TypeIs v T/\∀a,v= .ref a->∃ob,s.heap.get? a=ξ ob/\ob.dict=ζ:=by
 cases x with
 |str z=>
  obtain⟨t,rfl⟩:=r
  cases(show T="str" from ty)
  exact⟨typeIs_str s z t,λ_ e=>nomatch e⟩
 |int i=>
  obtain⟨t,rfl⟩:=r
  cases(show T="int" from ty)
  exact⟨typeIs_int s i t,λ_ e=>nomatch e⟩
 |ref p=>
  cases r
  rcases ty with⟨rfl,xs,hq⟩|⟨rfl,o,hk,hc,hd⟩|⟨rfl,hk⟩|⟨rfl,S,n,hk⟩
  ·obtain⟨its,_,pl,_⟩:=I.list hq
   refine⟨pl.isList.typeIs,λa e=> ?_⟩
   cases e
   obtain⟨o,n,e,c,hd,_⟩:=pl
   exact⟨o,e,hd⟩
  ·refine⟨⟨o,I.kIn p o hk,hc⟩,λa e=> ?_⟩
   cases e
   exact⟨o,I.kIn _ o hk,hd⟩
  ·have z:∃o,s.heap.get? p=ξ o/\o.ExactDict:=by
    rcases hk with⟨kvs,hk⟩|⟨kvs,hk⟩
    ·obtain⟨_,_,_,_,o,_,_,e,ex,_⟩:=I.hok p _ hk;exact⟨o,e,ex⟩
    ·obtain⟨_,_,_,_,o,_,_,e,ex,_⟩:=I.hok p _ hk;exact⟨o,e,ex⟩
   obtain⟨o,e,ex⟩:=z;refine⟨⟨o,e,ex.1⟩,λa e2=> ?_⟩;cases e2;exact⟨o,e,ex.2.1⟩
  ·obtain⟨o,_,_,_,e,ex,_⟩:=I.hok p _ hk
   refine⟨⟨o,e,ex.1⟩,λa e2=> ?_⟩
   cases e2
   exact⟨o,e,ex.2.1⟩
 |_=>exact False.elim ty
def c6m(K:AE)(T:String)(r:V->List V->Hp->VK->Prop)(to:TE):TE:=λσ H Q=>to σ H λx H1=>tyV K T x H1/\r x [] H1 Q
def tBM(K:AE)(T:String)(r:V->List V->Hp->VK->Prop)(to:TE)(t:TA):TE:=λσ H Q=>to σ H λx H1=>tyV K T x H1/\t σ H1 λxs H2=>r x xs H2 Q
variable {o e:AF}{es:List AF}{to:TE}{t:TA}{name:Str}{apos cpos:Pos}{T id:String}{r:V->List V->Hp->VK->Prop}
theorem b5P(pa:PlainAttrs T)(slot:Slot T name id)(hty:typeOf (.builtin id)=pure (.type "method_descriptor"))(hm:MtR X id r)(ho:PE X o to)
 (hbase:attributeBase o name X.env (eval o X.env)=eval o X.env:=by rfl) (hline:(apos.endLine==cpos.line)=true:=by rfl):PE X (.Call (.Attribute o name apos) [] [] cpos) (c6m X.K T r to):=by
 intro pins s σ H Q I h
 refine wpAny_Call_method0_late hbase hline (K6 (ho pins s σ H _ I h) λv s1 h0=>a6h h0 λx H1 I1 r1 ty q1=> ?_)
 obtain⟨h1,h2⟩:=c0I I1 r1 ty
 exact⟨T,id,pa,slot,hty,h1,h2,Calls.callWith_builtin rfl (PySem.evalArgs_none (hm pins s1 σ H1 x [] v [] Q I1 r1 .nil q1))⟩
theorem b9Z(pa:PlainAttrs T)(slot:Slot T name id)(hty:typeOf (.builtin id)=pure (.type "method_descriptor"))(hm:MtR X id r)(ho:PE X o to)(ha:PA X (e::es) t)
 (hbase:attributeBase o name X.env (eval o X.env)=eval o X.env:=by rfl)
 (hfew:((backTo cpos (AL (e::es) X.env)).all (λx=> !x.1)&&(backToKw cpos (keywordEach [] X.env)).all (λx=>x.1.isSome)
  && decide ((e::es).length+([]:List Keyword).length+(if([]:List Keyword).isEmpty then 0 else 1)<30))=true:=by rfl)
 (hline:(apos.endLine==cpos.line)=true:=by rfl) (hs:Ψ e es X.env:=by rfl) (hplain:Φ₁ cpos es X.env:=by rfl):
 PE X (.Call (.Attribute o name apos) (e::es) [] cpos) (tBM X.K T r to t):=by
 intro pins s σ H Q I h
 refine wpAny_Call_method_late hbase hfew hline rfl (K6 (ho pins s σ H _ I h) λv s1 h0=>a6h h0 λx H1 I1 r1 ty q1=> ?_)
 obtain⟨h1,h2⟩:=c0I I1 r1 ty
 refine⟨T,id,pa,slot,hty,h1,h2, ?_⟩
 have hA:=ha cpos pins s1 σ H1 _ I1 q1
 rw [hs] at hA ⊢
 refine Calls.callWith_builtin (by show(false||(backTo cpos (AL es X.env)).any (·.1))=false;rw [hplain]<;>rfl) (Calls.evalArgs_plain ?_)
 exact K6 hA λus s2 h0=>t7 h0 λvs H2 I2 r2 q2=>hm pins s2 σ H2 x vs v us Q I2 r1 r2 q2
end
def MtM(X:Cx)(id:String)(r:V->List V->Hp->VK->Prop):Prop:=
 ∀pins s σ (H:Hp) (x:V) (xs:List V) (v:AA) (us:List AA) (Q:VK),l8 X pins σ H s->u0 x v->v9 xs us->r x xs H Q->
  AH (model X.prog X.w) X.A (call (.builtin id) (v::us)) (EP X pins σ Q) X.xe s
theorem v9.one:∀{x:V} {us:List AA},v9 [x] us->∃u,us=[u]/\u0 x u
 |_,_,.cons r .nil=>⟨_,rfl,r⟩
theorem v9.rep{xs:List V}{us:List AA}(h:v9 xs us):∀k:Nat,v9 (AS k xs).flatten (AS k us).flatten
 |0=> .nil
 |k+1=>by
  rw [At,At,List.flatten_cons,List.flatten_cons];exact v9.append h (v9.rep h k)
theorem a63(its:List AA):∀(k:Nat) (acc:List AA),
 List.foldl (λx1 x2=>x1++x2) acc.toArray (AS k its.toArray)=(acc++(AS k its).flatten).toArray
 |0,acc=>by simp
 |k+1,acc=>by
  have e:acc.toArray++its.toArray=(acc++its).toArray:=by simp
  have e2:(acc++its)++(AS k its).flatten=acc++(AS (k+1) its).flatten:=by
   rw [At,List.flatten_cons,List.append_assoc]
  rw [<-e2,<-a63 its k (acc++its),<-e,At,List.foldl_cons]
section
variable {X:Cx}{pins:List (AB×Obj)}{σ:St}{H:Hp}{s:AC}{l b:AB}{xs ys zs:List V}
theorem l8.lset{its its':List AA}{n:Nat}{f:Array AA->Array AA}{t':Nat}(I:l8 X pins σ H s)(hH:H l=ξ (.lst xs))
 (e:s.heap.get? l=ξ {cls:= .type "list",data:= .seq its.toArray n}) (hf:f its.toArray=its'.toArray) (hv:v9 ys its') (hz:ys.length<=AO):
 l8 X pins σ (t8 H l (.lst ys)) {s with heap:=s.heap.update l (Obj.mapSeq f),toks:=t'}:=by
 have q:=PySem.IsL.update e f
 rw [hf] at q
 refine I.write (x:=l) (e:=l) (by rw [hH];exact trivial) (.inl rfl) (λb' u hb hu=>(Heap.get?_update_other s.heap (Obj.mapSeq f) (Ne.symm hb)).trans hu) ⟨_,q⟩ ?_
 exact⟨hz,its',_,hv,q⟩
theorem l8.lnew{its:List AA}{t':Nat}(I:l8 X pins σ H s)(hv:v9 ys its)(hz:ys.length<=AO):
 l8 X pins σ (t8 H s.heap.objs.size (.lst ys)) {s with heap:=s.heap.push {cls:= .type "list",data:= .seq its.toArray},toks:=t'}:=
 I.laid (λ_ _ q=>AY _ q) (AQ _) ⟨hz,its,0,hv,Ae _ rfl⟩
theorem l8.fresh(I:l8 X pins σ H s):H s.heap.objs.size=ζ:=I.hok.fresh (AQ _)
theorem l8.lstM(I:l8 X pins σ H s)(hH:H l=ξ (.lst xs)):xs.length<=AO/\∃(its:List AA) (n:Nat),v9 xs its/\xs.length=its.length/\s.heap.get? l=ξ {cls:= .type "list",data:= .seq its.toArray n}:=by
 obtain⟨z,its,n,r,e⟩:=I.hok l _ hH;exact⟨z,its,n,r,r.length,e⟩
theorem b9N{n:Nat}(h:n<=AO):Builtin.List.listTooLong n=false:=by
 unfold Builtin.List.listTooLong;exact decide_eq_false (by lia)
end
section
variable {X:Cx}
def c16:V->List V->Hp->VK->Prop:=λx vs H Q=>∃l xs y,x= .ref l/\vs=[y]/\H l=ξ (.lst xs)/\xs.length<AO/\Q .non (t8 H l (.lst (xs++[y])))
theorem b1r:MtM X "list.append" c16:=by
 intro pins s σ H x vs v us Q I rx rv h;obtain⟨l,xs,y,rfl,rfl,hH,hz,q⟩:=h;cases rx;obtain⟨u,rfl,ru⟩:=rv.one;obtain⟨z,its,n,r,hl,e⟩:=I.lstM hH;refine call_meets F.slot_list_append ⟨_,e,rfl⟩ F.entry_list_append (F.args_list_append_2 _ _) (PySem.list_append l its.toArray n u (by rw [Ah];lia)) ⟨e, ?_⟩
 refine⟨.non,_,I.lset (its':=its++[u]) hH e (by simp) (r.append (.cons ru .nil)) ?_,rfl,q⟩
 rw [AW,List.length_singleton]
 lia
def c6d:R2:=λx y H Q=>∃l b xs zs,x= .ref l/\y= .ref b/\H l=ξ (.lst xs)/\H b=ξ (.lst zs)/\xs.length+zs.length<=AO/\∀p,H p=ζ->Q (.ref p) (t8 H p (.lst (xs++zs)))
theorem c39:OpR X (binaryOp .Add) c6d:=by
 ext t
 obtain⟨l,b,xs,zs,rfl,rfl,hH,hB,hz,q⟩:=h;cases rx;cases ry;obtain⟨z,its,n,r,hl,e⟩:=I.lstM hH;obtain⟨z2,its2,n2,r2,hl2,e2⟩:=I.lstM hB;refine PySem.P.add_list e e2 ?_ (by rw [Ah,Ah];lia)
 have ea:its.toArray++its2.toArray=(its++its2).toArray:=by simp
 rw [ea];exact⟨.ref _,_,I.lnew (t':=s.toks) (r.append r2) (by rw [AW];lia),rfl,q _ I.fresh⟩
def c6h:R2:=λx y H Q=>∃l k xs,x= .ref l/\y= .int k/\H l=ξ (.lst xs)/\ -(2 ^ 63)<=k/\k<2 ^ 63/\xs.length*k.toNat<=AO/\
 ∀p,H p=ζ->Q (.ref p) (t8 H p (.lst (AS k.toNat xs).flatten))
theorem b2u{α:Type}(xs:List α)(k:Nat):(AS k xs).flatten.length=k*xs.length:=by
 induction k with
 |zero=>simp
 |succ k ih=>rw [At,List.flatten_cons,AW,ih,Nat.succ_mul,Nat.add_comm]
theorem c4e:OpR X (binaryOp .Mult) c6h:=by
 ext t
 obtain⟨l,k,xs,rfl,rfl,hH,h1,h2,hz,q⟩:=h;cases rx;obtain⟨t,rfl⟩:=ry;obtain⟨z,its,n,r,hl,e⟩:=I.lstM hH;have hlen:its.toArray.size*k.toNat<=AO:=by rw [Ah,<-hl];exact hz
 have hcap:¬its.toArray.size*k.toNat>(2 ^ 63 - 1)/ 8:=by
  have:(AO:Nat)<=(2 ^ 63 - 1)/ 8:=by decide
  lia
 have hfit:¬(!Builtin.List.listFitsIndex k)=true:=by
  rw [fitsIndex_both h1 h2];exact Af
 have hlong:¬Builtin.List.listTooLong (its.toArray.size*k.toNat)=true:=by
  rw [b9N hlen];exact Af
 have hnew:List.foldl (λx1 x2=>x1++x2) #[] (AS (if its.toArray.isEmpty=true then 0 else k.toNat) its.toArray)=(AS k.toNat its).flatten.toArray:=by
  have f0:∀m:Nat,List.foldl (λx1 x2=>x1++x2) #[] (AS m its.toArray)=(AS m its).flatten.toArray:=λm=>by
   have:=a63 its m [];rw [BD] at this;exact this
  rw [f0];cases its with
  |nil=>simp
  |cons a r'=>rw [if_neg (by simp)]
 refine wpAny_binaryOp_repeat_ref (T:="list") (U:="int") (by decide) ⟨_,e,rfl⟩ (λs'=>typeIs_int s' k t) noFill_list_mul F.fills_int_mul F.slot_int_rmul repeat_list F.slot_int_index.lookup
  (call_meets F.slot_int_rmul (typeIs_int s k t) F.entry_int_rmul (F.args_int_rmul_2 _ _) (int___rmul___int_list k t l its.toArray n)
   ⟨e,rfl,⟨_,e,rfl⟩,call_meets F.slot_list_mul ⟨_,e,rfl⟩ F.entry_list_mul (F.args_list_mul_2 _ _) (AutoListH.list___mul___list_int_3 l its.toArray n k t hfit hcap hlong) ⟨e, ?_⟩⟩)
 rw [hnew];exact⟨.ref _,_,I.lnew (t':=s.toks) (r.rep k.toNat) (by rw [b2u,Nat.mul_comm];exact hz),rfl,q _ I.fresh⟩
end
section
variable {prog:AJ}{w:AI}{A:AK}{E:AA->AC->Prop}{s:AC}
end
section
variable {X:Cx}
end
end L2
namespace Att
open PySem PySem.W PySem.Calls PyProof.Rows
theorem a78{P:Params}{h:Heap}:∀(ns:List Int) (vs:List AA),WellAll P h vs (ns.map WData.int)->IntsAre vs ns:=by
 intro ns
 induction ns with
 |nil=>
  intro vs w;rw [Aq] at w;cases w;exact .nil
 |cons n ns ih=>
  intro vs w;rw [AM] at w;cases w with
  |cons a b=>
   cases a;exact .cons _ _ (ih _ b)
theorem b8h{l:OpenLaw}{n:Nat}(hn:l.most=ξ n){P:Params}{h:Heap}{args:List WData}{vals:List AA}
 (hpre:l.row.toRowW.claim.pre args=true) (hwl:WellAll P h vals args):
 ∃a vs ns,vals=[Value.ref a]/\args=[WData.list (ns.map WData.int)]/\h.get? a=ξ {cls:= .type "list",data:= .seq vs.toArray}/\IntsAre vs ns/\ns.length<=n:=by
 have hsh:WShape.hasAll [] args [.list .int]=true:=(pre_splitW hpre).1
 have hc:l.pre.holds [] {args:=args}=true:=(pre_splitW hpre).2
 obtain⟨d,r,rfl,h1,h2⟩:=hasAllW_cons hsh
 obtain rfl:=hasAllW_nil h2
 obtain⟨xs,rfl,h3⟩:=hasW_list h1
 obtain⟨ns,rfl⟩:=items_int h3
 have hlen:ns.length<=n:=by
  unfold OpenLaw.pre at hc;have h4:(WTm.not (.lt (.lit (.int (n:Int))) (.len (.arg 0)))).holds [] {args:=[.list (ns.map .int)]}=true:=by
   have h4:=(holds_andW hc).1;rw [hn] at h4;exact h4
  have h5:=condW_of h4 (w_not (w_lt w_lit (w_len_list (w_arg rfl))));rw [AT] at h5;refine Nat.le_of_not_lt λq=> ?_;have q':(n:Int)<((ns.length:Nat):Int):=by lia
  first
   |(rw [decide_eq_true q'] at h5;exact absurd h5 (by decide))
   |(simp at h5;lia)
 cases hwl with
 |cons w1 w2=>
  cases w2
  cases w1 with
  |list ho hall=>exact⟨_,_,ns,rfl,rfl,ho,a78 ns _ hall,hlen⟩
theorem b8a(l:OpenLaw)(args:List WData):l.row.toRowW.claim.post args (.bool true) args=true:=
 postW_of (r:=l.row.toRowW) (X:=(true==true))
  (show WShape.has [] (.bool true) .bool=true by first|rfl|decide|simp [WShape.has,WShape.arms,WShape.armsAll])
  (show(WTm.eq .res (.lit (.bool true))).value [] {args:=args,res:=ξ (.bool true),after:=args}=ξ (.bool (true==true)) from w_eq_bool (w_res rfl) w_lit) rfl
theorem attach_call{l:OpenLaw}{n:Nat}{q:AJ}{loose:List Str}{XP:(Str->Υ AA)->Heap->Prop}{YP:AI->Heap->Prop}{d:DefRec}
 (hn:l.most=ξ n) (hdf:d.params.defaults=[])
 (call:∀(w:AI) (s₀ s₁:AC) (mg mb:Str->Υ AA) (fa:AB) (o:Obj) (pm cd doc:AA) (a:AB) (vs:List AA) (ns:List Int),
  Ground q loose [] XP w s₀ mg mb s₁.heap->YP w s₁.heap->
  s₁.heap.get? fa=ξ o->o.data= .func (docDef d.name d.params d.body d.scope pm cd doc)->s₁.heap.CodeRec cd d.name->mg d.name=ξ (.ref fa)->
  s₁.heap.get? a=ξ {cls:= .type "list",data:= .seq vs.toArray}->IntsAre vs ns->ns.length<=n->s₁.gens= #[]->
  codeAny (model l.prog w) callerA (.call (.ref fa) ⟨[.ref a],[]⟩) (λr s'=>r= .ok (.ret (.bool true))/\OldK s₁.heap s'.heap/\s'.os=s₁.os/\AllBare s'.gens) s₁):
 WalkO q loose XP YP l.row.toRowW d [] (λf vs=>PySem.call f vs):=by
 intro w s₀ s₁ mg mb G Y fa o pm cd doc dV kV ho hd hcd hD hmg hg args vals as hpre hlay hrd hwl hlo
 obtain rfl:dV= .none:=Dflts.none hD hdf
 obtain rfl:kV= .none:=Dflts.noKw hD
 obtain⟨a,vs,ns,rfl,rfl,hobj,hints,hlen⟩:=b8h hn hpre hwl
 refine enter_call (codeAny_mono (call w s₀ s₁ mg mb fa o pm cd doc a vs ns G Y ho (fd_plain hd) hcd hmg hobj hints hlen hg) λr s' hq=> ?_)
 obtain⟨rfl,h2,h3,h4⟩:=hq
 exact⟨.inl ⟨.bool true,.bool true,[],rfl,λ_=>rfl,.bool true,b8a l _,λ_=>⟨List.Pairwise.nil,λ_ hm=>(nomatch hm)⟩⟩,h2,h3,h4⟩
section
variable {prog:AJ}{w:AI}{A:AK}{E:AA->AC->Prop}{s:AC}{K:Frag}
end
end Att
namespace L2
theorem b1O:∀{vs:List AA} {ns:List Int},IntsAre vs ns->v9 (ns.map V.int) vs
 |_,_,.nil=> .nil
 |_,_,.cons n t h=> .cons ⟨t,rfl⟩ (b1O h)
def c26(H:Hp):Prop:=∀b,H b=ζ\/∃o xs,H b=ξ (.frz o (.lst xs))
theorem b9u{P:AJ}{w:AI}{K:AE}{mg mb:Str->Υ AA}{CX:CXT}{k:Nat}{fa a:AB}{fd:FuncData}{x:Str}{sp:Sp}{s₁:AC}{vs:List AA}{ns:List Int}
 (KX:K.In s₁.heap) (hns:s₁.heap.Ns mainGlobals mg) (hb:s₁.heap.Ns builtinsNs mb) (hbb:∀x:Str,x≠"__name__"->mb x=bootBuiltins x) (hlim:s₁.heap.NoLimit) (hg:s₁.gens= #[])
 (ha:s₁.heap.get? a=ξ {cls:= .type "list",data:= .seq vs.toArray}) (hi:IntsAre vs ns) (hl:ns.length<=AO) (hr:M5 k callerA)
 (F:∀base:Heap,K.In base->base.Ns mainGlobals mg->S9 P w K mg base CX k fa fd [x] sp) (hbind:∀(s:AC) (u:AA),BindsTo s fd ⟨[u],[]⟩ [(x,u)])
 (hsp:∀H:Hp,c26 H->SqL K H a (ns.map V.int)->sp [.ref a] H (λv _=>v= .bl true) λ_ _ _=>False)
 (hCX:∀H e s',CX [] H s₁ (λ_ _ _=>False) e s'->False):
 codeAny (model P w) callerA (.call (.ref fa) ⟨[.ref a],[]⟩) (λr s'=>r= .ok (.ret (.bool true))/\OldK s₁.heap s'.heap/\s'.os=s₁.os/\AllBare s'.gens) s₁:=by
 have rv:=b1O hi
 have lenV:=hi.length
 have core:∀H:Hp,c26 H->SqL K H a (ns.map V.int)->HOk P w H s₁.heap->(∀b,H b≠ζ->b=a)->(H a≠ζ->K.lookup a=ζ)->
  codeAny (model P w) callerA (.call (.ref fa) ⟨[.ref a],[]⟩) (λr s'=>r= .ok (.ret (.bool true))/\OldK s₁.heap s'.heap/\s'.os=s₁.os/\AllBare s'.gens) s₁:=by
  intro H hO hS hok hA hK
  have base_of:∀{b:AB} {o:Obj},s₁.heap.get? b=ξ o->H b=ζ->(b2n s₁.heap H).get? b=ξ o:=λe n=>b9k e n
  have noA:∀{b:AB} {o:Obj} {es:Array DictEntry} {ep:Nat},s₁.heap.get? b=ξ o->o.data= .dict es ep->H b=ζ:=λ {b o es ep} e d=>by
   cases q:H b with
   |none=>rfl
   |some u=>
    have e':b=a:=hA b (by rw [q];simp)
    subst e';rw [ha] at e;cases e;have d':Data.seq vs.toArray _=Data.dict es ep:=d;cases d'
  have nsK:∀{b:AB} {m:Str->Υ AA},s₁.heap.Ns b m->(b2n s₁.heap H).Ns b m:=λ {b m} ⟨o,es,ep,e,d,r⟩=>⟨o,es,ep,base_of e (noA e d),d,r⟩
  have hKb:K.In (b2n s₁.heap H):=λb o e=>base_of (KX b o e) (by
   cases q:H b with
   |none=>rfl
   |some u=>
    have e':b=a:=hA b (by rw [q];simp)
    subst e';rw [hK (by rw [q];simp)] at e;cases e)
  have hM:Mod K mg (b2n s₁.heap H):=⟨hKb,nsK hns,⟨mb,nsK hb,hbb⟩,let ⟨mc,h1,h2⟩:=hlim;⟨mc,nsK h1,h2⟩⟩
  have e0:b43 P w K mg (b2n s₁.heap H) callerA [] s₁ H:=⟨rfl,hM,λb o e=>c1G e,Nat.le_of_eq (b7K _ _),trivial,λb hb=>absurd (show b∈([]:List AB) from hb) (by simp),hok,.of_eq hg⟩
  refine codeAny_mono ((F _ hKb (nsK hns)).run callerA [] s₁ H ⟨[.ref a],[]⟩ [.ref a] [.ref a] _ _ hr e0 (hbind s₁ (.ref a)) (.cons rfl .nil) (hsp H hO hS)) λr s' h=> ?_
  cases r with
  |error e=>exact(hCX H e s' h).elim
  |ok fl=>
   cases fl with
   |next=>exact False.elim h
   |brk=>exact False.elim h
   |cont=>exact False.elim h
   |ret u=>
    obtain⟨v,H',os,bare,un,hok',r',q⟩:=h
    have q':v= .bl true:=q
    subst q'
    obtain rfl:u=Value.bool true:=r'
    refine⟨rfl,OldK.of_keep λb o e=> ?_,os,bare⟩
    cases q:H b with
    |none=>exact un.keep b o e q (by intro z;exact absurd (show b∈([]:List AB) from z) (by simp)) (by simp)
    |some u=>
     rcases hO b with z|⟨ob,xs,z⟩
     ·rw [q] at z;cases z
     ·have z2:=un.frzs b ob _ z
      obtain⟨e1,_⟩:=hok b _ z
      obtain⟨e2,_⟩:=hok' b _ z2
      rw [e] at e1;cases e1
      exact e2
 cases hk:K.lookup a with
 |some o=>
  have e:=KX a o hk
  rw [ha] at e
  cases e
  refine core (λ_=>ζ) (λ_=> .inl rfl) (.inr ⟨_,vs.toArray,_,hk,rfl,rfl,rfl,by rw [Ah,lenV];exact hl,by simpa using rv⟩) (λb u z=>by have z':(ζ:Υ HO)=ξ u:=z;cases z') (λb z=>absurd rfl z) λz=>absurd rfl z
 |none=>
  refine core (λb=>if b=a then ξ (.frz {cls:= .type "list",data:= .seq vs.toArray} (.lst (ns.map V.int))) else ζ) (λb=> ?_) (.inl (.inr ⟨{cls:= .type "list",data:= .seq vs.toArray},if_pos rfl⟩)) (λb u z=> ?_) (λb z=> ?_) λ_=>hk
  ·by_cases hb:b=a
   ·exact .inr ⟨_,_,if_pos hb⟩
   ·exact .inl (if_neg hb)
  ·by_cases hb:b=a
   ·have z':=(if_pos hb).symm.trans z
    cases z'
    subst hb
    exact⟨ha,by rw [AT];exact hl,vs,_,rv,ha⟩
   ·have z':=(if_neg hb).symm.trans z
    cases z'
  ·by_cases hb:b=a
   ·exact hb
   ·exact absurd (if_neg hb) z
theorem c2z{l:PySem.W.OpenLaw}{n k:Nat}{q:AJ}{loose:List Str}{XP:(Str->Υ AA)->Heap->Prop}{YP:AI->Heap->Prop}{d:DefRec}{K:Params->AE}{CX:AI->CXT}{sp:AI->Sp}{x:Str}
 (hn:l.most=ξ n) (hn2:n<=AO) (hdf:d.params.defaults=[]) (hr:M5 k callerA)
 (hY:∀(w:AI) (h:Heap),YP w h->(K w.params).In h)
 (F:∀(w:AI) (mg:Str->Υ AA) (fa:AB) (h:Heap),(K w.params).In h->h.Ns mainGlobals mg->mg d.name=ξ (.ref fa)->
  ∃fd:FuncData,(∀(s:AC) (u:AA),BindsTo s fd ⟨[u],[]⟩ [(x,u)])/\
   ∀base:Heap,(K w.params).In base->base.Ns mainGlobals mg->S9 l.prog w (K w.params) mg base (CX w) k fa fd [x] (sp w))
 (hsp:∀(w:AI) (H:Hp) (a:AB) (ns:List Int),ns.length<=n->c26 H->SqL (K w.params) H a (ns.map V.int)->sp w [.ref a] H (λv _=>v= .bl true) λ_ _ _=>False)
 (hCX:∀(w:AI) (H:Hp) (s:AC) (e:AA) (s':AC),CX w [] H s (λ_ _ _=>False) e s'->False):
 PySem.W.WalkO q loose XP YP l.row.toRowW d [] (λf vs=>PySem.call f vs):=by
 refine Att.attach_call hn hdf λw s₀ s₁ mg mb fa o pm cd doc a vs ns G Y ho hd hcd hmg hobj hints hlen hg=> ?_
 have KX:=hY w _ Y
 obtain⟨fd,hb,hF⟩:=F w mg fa _ KX G.T.g hmg
 exact b9u KX G.T.g G.T.b G.T.builtins G.T.nolimit hg hobj hints (Nat.le_trans hlen hn2) hr hF hb (λH hO hS=>hsp w H a ns hlen hO hS) λH e s'=>hCX w H s₁ e s'
def L9(s:Stmt):Arguments:=match s with
 | .FunctionDef _ a _ _ _ _ _ _ _ _=>a
 |_=>{posonlyargs:=[],args:=[],vararg:=ζ,kwonlyargs:=[],kw_defaults:=[],kwarg:=ζ,defaults:=[]}
def C4(s:Stmt):List Stmt:=match s with
 | .FunctionDef _ _ b _ _ _ _ _ _ _=>b
 |_=>[]
def c6(s:Stmt):Scope:=match s with
 | .FunctionDef _ _ _ _ _ _ sc _ _ _=>sc
 |_=>{kind:= .function,names:=[],isGenerator:=false,isCoroutine:=false}
abbrev CX0:CXT:=λ_ _ _ _ _ _=>False
abbrev E0:XK:=λ_ _ _=>False
theorem b1t{X:Cx}:a6U CX0 X E0:=λ_ _ _ _ _ _ _ h=>h.elim
structure Fun(K:AE)(x qual:Str)(st:Stmt)(f:AB)(fd:FuncData):Prop where
 ex:∃(oc:AA) (od:Υ AB) (kV doc pm:AA) (an:Υ AB) (cdv ct:AA) (osl:Array (Υ AA)),
  fd=PySem.W.fnOf x qual (L9 st) (C4 st) (c6 st) .none kV doc pm an cdv ct/\K.lookup f=ξ ⟨oc,od,.func fd,osl⟩/\PySem.W.codeIn K cdv qual=true
 kp:PySem.W.keepIn K (.ref f)=true
section
variable {P:AJ}{w:AI}{K:AE}{mg:Str->Υ AA}{base:Heap}
theorem Fun.ok{x qual:Str}{st:Stmt}{f:AB}{fd:FuncData}{N ps:List Str}{k:Nat}{sp:Sp}(F:Fun K x qual st f fd)(S:i8 N ps (c6 st))(len:∀vs H Q E,sp vs H Q E->vs.length=ps.length)
 (hbody:∀(cdv:AA) (A:AK) (outer:List Env) (s:AC) (H:Hp) (vs:List V) (Q:VK) (E:XK),M5 k (A.deeper (envOfC qual (c6 st) s.heap.objs.size f cdv))->sp vs H Q E->
  ∃t,PSs (a8L CX0 P w K mg base N qual (c6 st) f cdv A outer s H E).nox (C4 st) t/\t {nx:=λ_ H'=>Q .non H',rt:=Q} (a4C N vs) H):S9 P w K mg base CX0 (k+1) f fd ps sp:=by
 obtain⟨oc,od,kV,doc,pm,an,cdv,ct,osl,rfl,lk,hcd⟩:=F.ex
 refine c47 lk hcd S len λA outer s H vs Q E hr hsp=> ?_
 obtain⟨t,h,q⟩:=hbody cdv A outer s H vs Q E hr hsp
 exact⟨t,h.nox,q⟩
theorem Fun.binds{x qual:Str}{st:Stmt}{f:AB}{fd:FuncData}{ps:List Str}(F:Fun K x qual st f fd)
 (h:∀(kV doc pm:AA) (an:Υ AB) (cdv ct:AA) (us:List AA),us.length=ps.length->bindArgs (PySem.W.fnOf x qual (L9 st) (C4 st) (c6 st) .none kV doc pm an cdv ct) ⟨us,[]⟩=pure (ps.zip us)):a0L K fd ps []:=by
 obtain⟨oc,od,kV,doc,pm,an,cdv,ct,osl,rfl,lk,hcd⟩:=F.ex
 exact .all (h kV doc pm an cdv ct)
theorem b81{x qual:Str}{st:Stmt}{f:AB}{oc:AA}{od an:Υ AB}{osl:Array (Υ AA)}{kV doc pm cdv ct:AA}(l:K.lookup f=ξ ⟨oc,od,.func (PySem.W.fnOf x qual (L9 st) (C4 st) (c6 st) .none kV doc pm an cdv ct),osl⟩)
 (c:PySem.W.codeIn K cdv qual=true) (k:PySem.W.keepIn K (.ref f)=true):Fun K x qual st f (PySem.W.fnOf x qual (L9 st) (C4 st) (c6 st) .none kV doc pm an cdv ct):=⟨⟨oc,od,kV,doc,pm,an,cdv,ct,osl,rfl,l,c⟩,k⟩
end
theorem b8k{n:Nat}(h:n<=1000):n<AO:=Nat.lt_of_le_of_lt h (by decide)
section
variable {X:Cx}
theorem pv(i:Nat){x:Str}{pos:Pos}(hN:X.N[i]?=ξ x:=by rfl)(hv:Vis X.env.scope x:=by first|exact Or.inl rfl|exact Or.inr (Or.inl rfl)|exact Or.inr (Or.inr rfl))(hd:Δ x:=by decide)
 (hcd:(x==("__classdict__":Str))=false:=by decide):PE X (.Name x pos) (a0o i):=c4s hN hv hd hcd
end
theorem b7N{A B:Prop}(h:B):if false=true then A else B:=by
 rw [if_neg Af];exact h
theorem b7O{A B:Prop}(h:A):if true=true then A else B:=by
 rw [if_pos rfl];exact h
def n0(H H':Hp):Prop:=∀b o,H b=ξ o->H' b=ξ o
theorem n0.trans{H H1 H2:Hp}(a:n0 H H1)(b:n0 H1 H2):n0 H H2:=λc o h=>b c o (a c o h)
theorem n0.free{H H':Hp}(e:n0 H H'){l:AB}(h:H' l=Option.none):H l=Option.none:=by
 cases q:H l with
 |none=>rfl
 |some o=>
  rw [e l o q] at h;cases h
section
variable (P:AJ)(w:AI)
end
section
variable {P:AJ}{w:AI}{H H':Hp}{h h':Heap}{a:AB}{o:HO}
end
section
variable {P:AJ}{w:AI}{H:Hp}{h h':Heap}{x e:AB}{o':HO}
end
section
variable {fs fs' ex ex':List AB}{H H1 H2:Hp}{h h1 h2 h':Heap}{a x e:AB}{o:HO}
end
section
variable {X:Cx}{pins:List (AB×Obj)}{σ:List (Υ V)}{H H':Hp}{s:AC}{h':Heap}
end
section
variable {X:Cx}
variable {a b:AF}{ta tb:TE}{pos:Pos}
variable {tA tB':TT}{rest:List AF}
end
section
variable {X:Cx}{pins:List (AB×Obj)}{σ:St}{H:Hp}{s:AC}{a:AB}{xs ys:List V}
end
section
variable {X:Cx}{pins:List (AB×Obj)}{σ:St}{H:Hp}{s:AC}{E:AA->AC->Prop}
end
section
variable {X:Cx}{st:Stmt}{rest:List Stmt}{t u:TS}{e:AF}{te:TE}{pos:Pos}
end
section
variable {X:Cx}{pos:Pos}
end
section
variable {X:Cx}{tg:AF}
end
section
variable {X:Cx}{a b c:AF}{ta tb tc:TE}{pos:Pos}
end
section
variable {prog:AJ}{w:AI}{A:AK}{E:AA->AC->Prop}{s:AC}{K:AE}{x dx C f:AB}{mA:Str->Υ AA}{name:Str}{v:AA}
end
section
variable {P:AJ}{w:AI}{H H':Hp}{h h':Heap}{a C dx:AB}{fs fs':List (Str×V)}
end
section
variable {X:Cx}{pins:List (AB×Obj)}{σ:St}{H:Hp}{s:AC}{a C dx:AB}{fs:List (Str×V)}{f:Str}{v:V}{A:AK}{E:AA->AC->Prop}
end
section
variable {X:Cx}{o e value:AF}{f:Str}{pos pos' tpos:Pos}{ta tv:TE}
end
section
variable {X:Cx}{pins:List (AB×Obj)}{σ:St}{H:Hp}{s:AC}{A:AK}{E:AA->AC->Prop}{Q:AA->AC->Prop}{c:AA}{b:Bool}
end
section
variable {X:Cx}{e:AF}{es:List AF}{te:TE}{t:TA}{pos:Pos}
end
section
variable {X:Cx}{pins:List (AB×Obj)}{σ:St}{H:Hp}{s s':AC}
end
section
variable {X:Cx}{CX:CXT}{k:Nat}{f C:AB}{fd:FuncData}{ps:List Str}{sp:Sp}{dvs:List V}{ds:List AA}{E:XK}{x m:Str}{p pos apos:Pos}{e o:AF}{es:List AF}{ta:TE}{t:TA}
end
section
variable {X:Cx}{CX:CXT}{k:Nat}{f C:AB}{fd:FuncData}{ps ks:List Str}{sp:Sp}{E:XK}{x m:Str}{p pos apos kpos:Pos}{e o:AF}{es:List AF}{kws:List Keyword}{te ta:TE}{t tk:TA}{nm:Υ Str}
variable {g:List AA->List AA->List AA}{gV:List V->List V->List V}
end
section
variable {X:Cx}{x:Str}{p pos:Pos}{e:AF}{es:List AF}{t:TA}{id T:String}{r:List V->Hp->VK->Prop}
end
section
variable {κ:Type}[DecidableEq κ]
def a1r(kvs:List (κ×V))(k:κ):Υ V:=(kvs.find? λkv=>decide (kv.1=k)).map (·.2)
def a4U(kvs:List (κ×V))(k:κ)(v:V):List (κ×V):=
 if(kvs.any λkv=>decide (kv.1=k))=true then kvs.map (λkv=>if kv.1=k then(kv.1,v) else kv) else kvs++[(k,v)]
theorem a2p{p:κ×V}{r:List (κ×V)}{k:κ}(e:p.1=k):a1r (p::r) k=ξ p.2:=by simp [a1r,List.find?_cons,e]
theorem a2o{p:κ×V}{r:List (κ×V)}{k:κ}(e:¬p.1=k):a1r (p::r) k=a1r r k:=by simp [a1r,List.find?_cons,e]
theorem b4V(k:κ):∀kvs:List (κ×V),(kvs.any λkv=>decide (kv.1=k))=(a1r kvs k).isSome
 |[]=>rfl
 |p::r=>by
  rw [List.any_cons]
  by_cases e:p.1=k
  ·simp only [a2p e,decide_eq_true e,Bool.true_or,Option.isSome_some]
  ·rw [a2o e,decide_eq_false e,Bool.false_or];exact b4V k r
theorem a7P(kvs:List (κ×V))(k:κ)(v:V):(a4U kvs k v).length<=kvs.length+1:=by
 unfold a4U;split
 ·rw [AT];lia
 ·rw [AW,AV,Al];lia
theorem a17.isSome_eq{o:Υ V}{u:Υ AA}(r:a17 o u):o.isSome=u.isSome:=by
 cases o with
 |none=>cases u with
  |none=>rfl
  |some _=>exact(show False from r).elim
 |some _=>cases u with
  |none=>exact(show False from r).elim
  |some _=>rfl
theorem a17.getD{o:Υ V}{u:Υ AA}{d:V}{d':AA}(r:a17 o u)(rd:u0 d d'):u0 (o.getD d) (u.getD d'):=by
 cases o with
 |none=>cases u with
  |none=>exact rd
  |some _=>exact(show False from r).elim
 |some _=>cases u with
  |none=>exact(show False from r).elim
  |some _=>exact r
theorem KV.val{kvs:List (κ×V)}{vs:List (κ×AA)}(r:KV kvs vs)(k:κ):a17 (a1r kvs k) (valueAt vs k):=by
 unfold KV at r
 induction r with
 |nil=>exact True.intro
 | @cons p q ps qs h t ih=>
   obtain⟨h1,h2⟩:=h
   by_cases e:p.1=k
   ·have e':q.1=k:=h1.symm.trans e;have b:valueAt (q::qs) k=ξ q.2:=by simp [valueAt,List.find?_cons,e']
    rw [a2p e,b];exact h2
   ·have e':¬q.1=k:=λz=>e (h1.trans z);have b:valueAt (q::qs) k=valueAt qs k:=by simp [valueAt,List.find?_cons,e']
    rw [a2o e,b];exact ih
theorem KV.any{kvs:List (κ×V)}{vs:List (κ×AA)}(r:KV kvs vs)(k:κ):(kvs.any λkv=>decide (kv.1=k))=vs.any λkv=>decide (kv.1=k):=by
 unfold KV at r
 induction r with
 |nil=>rfl
 |cons h t ih=>rw [List.any_cons,List.any_cons,ih,h.1]
theorem KV.repl{kvs:List (κ×V)}{vs:List (κ×AA)}(r:KV kvs vs)(k:κ){y:V}{u:AA}(ry:u0 y u):
 KV (kvs.map λkv=>if kv.1=k then(kv.1,y) else kv) (vs.map λkv=>if kv.1=k then(kv.1,u) else kv):=by
 unfold KV at r ⊢
 induction r with
 |nil=>exact .nil
 | @cons p q ps qs h t ih=>
   rw [AM,AM]
   refine .cons ?_ ih
   obtain⟨h1,h2⟩:=h
   by_cases e:p.1=k
   ·rw [if_pos e,if_pos (h1.symm.trans e)];exact⟨h1,ry⟩
   ·rw [if_neg e,if_neg (λz=>e (h1.trans z))];exact⟨h1,h2⟩
theorem KV.put{kvs:List (κ×V)}{vs:List (κ×AA)}(r:KV kvs vs)(k:κ){y:V}{u:AA}(ry:u0 y u):KV (a4U kvs k y) (stored vs k u):=by
 unfold a4U stored;rw [r.any k]
 by_cases e:(vs.any λkv=>decide (kv.1=k))=true
 ·rw [if_pos e,if_pos e];exact r.repl k ry
 ·rw [if_neg e,if_neg e];exact Paired.snoc r ⟨rfl,ry⟩
theorem KV.length{kvs:List (κ×V)}{vs:List (κ×AA)}(r:KV kvs vs):kvs.length=vs.length:=Paired.length r
end
theorem b1i{P:AJ}{w:AI}{k:n4}{u:AA}(r:u0 (kV k) u):(r8 P w).is k u=true:=by
 cases k with
 |inl i=>obtain⟨t,e⟩:=(show ∃t,u=Value.int i t from r);subst e;exact b4c P w i t
 |inr x=>obtain⟨t,e⟩:=(show ∃t,u=Value.str x t from r);subst e;exact a1F P w x t
theorem b1h{P:AJ}{w:AI}:∀{ks:List n4} {us:List AA},v9 (ks.map kV) us->ItemsAre (r8 P w) ks us
 |[],_,r=>by rw [Aq] at r;cases r;exact .nil
 |k::ks,_,r=>by
  rw [AM] at r;cases r with
  |cons h t=>exact .cons (b1i h) (b1h t)
abbrev KT(H:Hp):List (List n4×V)->List (List n4×AB×AA)->Prop:=Paired λp q=>p.1=q.1/\H q.2.1=ξ (.tup (p.1.map kV))/\u0 p.2 q.2.2
theorem KT.val{H:Hp}{kvs:List (List n4×V)}{xs:List (List n4×AB×AA)}(r:KT H kvs xs)(k:List n4):a17 (a1r kvs k) ((atKey xs k).map (·.2)):=by
 induction r with
 |nil=>exact True.intro
 | @cons p q ps qs h t ih=>
   obtain⟨h1,_,h2⟩:=h
   by_cases e:p.1=k
   ·have e':q.1=k:=h1.symm.trans e;have b:atKey (q::qs) k=ξ q.2:=by simp [atKey,List.find?_cons,e']
    rw [a2p e,b];exact h2
   ·have e':¬q.1=k:=λz=>e (h1.trans z);have b:atKey (q::qs) k=atKey qs k:=by simp [atKey,List.find?_cons,e']
    rw [a2o e,b];exact ih
theorem KT.repl{H:Hp}{kvs:List (List n4×V)}{xs:List (List n4×AB×AA)}(r:KT H kvs xs)(k:List n4){y:V}{u:AA}(ry:u0 y u):
 KT H (kvs.map λkv=>if kv.1=k then(kv.1,y) else kv) (xs.map (putAt k u)):=by
 induction r with
 |nil=>exact .nil
 | @cons p q ps qs h t ih=>
   rw [AM,AM]
   refine .cons ?_ ih
   obtain⟨h1,h2,h3⟩:=h
   unfold putAt
   by_cases e:p.1=k
   ·rw [if_pos e,if_pos (h1.symm.trans e)];exact⟨h1,h2,ry⟩
   ·rw [if_neg e,if_neg (λz=>e (h1.trans z))];exact⟨h1,h2,h3⟩
theorem KT.put{H:Hp}{kvs:List (List n4×V)}{xs:List (List n4×AB×AA)}(r:KT H kvs xs)(k:List n4){b:AB}{y:V}{u:AA}(hb:H b=ξ (.tup (k.map kV)))(ry:u0 y u):
 KT H (a4U kvs k y) (storedH xs k b u):=by
 have e:(kvs.any λkv=>decide (kv.1=k))=(atKey xs k).isSome:=by
  rw [b4V,(r.val k).isSome_eq,Option.isSome_map]
 unfold a4U storedH
 rw [e]
 by_cases q:(atKey xs k).isSome=true
 ·rw [if_pos q,if_pos q];exact r.repl k ry
 ·rw [if_neg q,if_neg q];exact Paired.snoc r ⟨rfl,hb,ry⟩
theorem KT.keeps{H H':Hp}{kvs:List (List n4×V)}{xs:List (List n4×AB×AA)}(r:KT H kvs xs)(ht:∀b ys,H b=ξ (.tup ys)->H' b=ξ (.tup ys)):KT H' kvs xs:=
 Paired.mapP r λ_ _ z=>⟨z.1,ht _ _ z.2.1,z.2.2⟩
section
variable {P:AJ}{w:AI}{H:Hp}{h:Heap}{a:AB}
theorem c2Y{u:HO}(ok:HOk P w H h)(e:Rd H a u):G3 P w H h a u:=e.ok ok
theorem a8O{kvs:List (n4×V)}(ok:HOk P w H h)(e:Rd H a (.dK kvs)):kvs.length<=AO/\(a==sysModules)=false/\∃vs,KV kvs vs/\h.DictOf (r8 P w) a vs:=
 show G3 P w H h a (.dK kvs) from c2Y ok e
theorem a6c{kvs:List (n4×V)}(ok:HOk P w H h)(e:H a=ξ (.dK kvs)):kvs.length<=AO/\(a==sysModules)=false/\∃vs,KV kvs vs/\h.DictOf (r8 P w) a vs:=a8O ok (.inl e)
theorem a69{ks:List n4}(ok:HOk P w H h)(e:H a=ξ (.tup (ks.map kV))):(tupleKind (r8 P w)).is h ks a:=by
 obtain⟨_,its,r,o,h1,h2,n,h3⟩:=(show G3 P w H h a (.tup (ks.map kV)) from ok a _ e);exact⟨o,its.toArray,n,h1,h2,h3,by simpa using b1h r⟩
theorem a8R{kvs:List (List n4×V)}(ok:HOk P w H h)(e:Rd H a (.dT kvs)):kvs.length<=AO/\(a==sysModules)=false/\
 ∃xs,KT H kvs xs/\h.DictOfH (tupleKind (r8 P w)) a xs:=by
 obtain⟨z,y,xs,r,o,es,ep,h1,h2,h3,h4,h5⟩:=(show G3 P w H h a (.dT kvs) from c2Y ok e)
 refine⟨z,y,xs,r,o,es,ep,h1,h2,h3,h4,λx hx=> ?_,h5⟩
 have all:∀{l:List (List n4×V)} {m:List (List n4×AB×AA)},KT H l m->∀x∈m,(tupleKind (r8 P w)).is h x.1 x.2.1:=by
  intro l m q
  induction q with
  |nil=>intro x hx;exact nomatch hx
  | @cons p q ps qs hq t ih=>
    intro x hx;rcases AX.mp hx with e|hx
    ·subst e;exact a69 ok (by rw [<-hq.1];exact hq.2.1)
    ·exact ih x hx
 exact all r x hx
theorem c45{kvs:List (List n4×V)}(ok:HOk P w H h)(e:H a=ξ (.dT kvs)):kvs.length<=AO/\(a==sysModules)=false/\
 ∃xs,KT H kvs xs/\h.DictOfH (tupleKind (r8 P w)) a xs:=a8R ok (.inl e)
end
def a2q(H:Hp)(a:AB)(y:V)(r:Υ V):Prop:=
 (∃kvs k,Rd H a (.dK kvs)/\y=kV k/\r=a1r kvs k)\/∃kvs k b,Rd H a (.dT kvs)/\y= .ref b/\H b=ξ (.tup (k.map kV))/\r=a1r kvs k
def b8o(H:Hp)(a:AB)(y v:V)(H':Hp):Prop:=
 (∃kvs k,H a=ξ (.dK kvs)/\y=kV k/\kvs.length<AO/\H'=t8 H a (.dK (a4U kvs k v)))\/
 ∃kvs k b,H a=ξ (.dT kvs)/\y= .ref b/\H b=ξ (.tup (k.map kV))/\kvs.length<AO/\H'=t8 H a (.dT (a4U kvs k v))
theorem a2q.k{H:Hp}{a:AB}{kvs:List (n4×V)}{k:n4}(e:H a=ξ (.dK kvs)):a2q H a (kV k) (a1r kvs k):= .inl ⟨kvs,k,.inl e,rfl,rfl⟩
theorem b8o.k{H:Hp}{a:AB}{kvs:List (n4×V)}{k:n4}{v:V}(e:H a=ξ (.dK kvs))(hl:kvs.length<AO):b8o H a (kV k) v (t8 H a (.dK (a4U kvs k v))):= .inl ⟨kvs,k,e,rfl,hl,rfl⟩
section
variable {X:Cx}{pins:List (AB×Obj)}{σ:St}{H:Hp}{s:AC}{a:AB}{y v:V}{u r:AA}{o:Υ V}{A:AK}{E:AA->AC->Prop}
theorem l8.big(I:l8 X pins σ H s):sysModules<s.heap.objs.size:=by
 have h:mainGlobals<s.heap.objs.size:=(I.mod.glob.keeps I.bk).lt;exact Nat.lt_trans (by decide) h
theorem b7v{Q:AA->AC->Prop}(hu:A.units+1<cLine)(I:l8 X pins σ H s)(g:a2q H a y (ξ v))(ry:u0 y u)(h:∀w' s',l8 X pins σ H s'->u0 v w'->Q w' s'):
 AH (model X.prog X.w) A (getItem (.ref a) u) Q E s:=by
 rcases g with⟨kvs,k,e,ey,l⟩|⟨kvs,k,b,e,ey,eb,l⟩
 ·subst ey
  obtain⟨z,hd,vs,rel,dd⟩:=a8O I.hok e
  obtain⟨w',hw,rw'⟩:=a17.some_of (v:=v) (o:=valueAt vs k) (by rw [l];exact rel.val k)
  exact wpAny_getItem_of (b1i ry) dd.mapOf hw (h w' _ (I.tok _) rw')
 ·subst ey
  cases(show u=Value.ref b from ry)
  obtain⟨z,hd,xs,rel,dd⟩:=a8R I.hok e
  obtain⟨w',hw,rw'⟩:=a17.some_of (v:=v) (o:=(atKey xs k).map (·.2)) (by rw [l];exact rel.val k)
  obtain⟨p,hp,hp2⟩:=Option.map_eq_some_iff.mp hw
  refine wpAny_getItem_heap (tupleKind_room_in1 hu) (a69 I.hok eb) dd hp ?_
  rw [hp2]
  exact h w' _ (I.tok _) rw'
theorem c54{Q:AA->AC->Prop}(hu:A.units+1<cLine)(I:l8 X pins σ H s)(g:a2q H a y o)(ry:u0 y u)(h:∀s',l8 X pins σ H s'->Q (.bool o.isSome) s'):
 AH (model X.prog X.w) A (compareOp .In u (.ref a)) Q E s:=by
 rcases g with⟨kvs,k,e,ey,l⟩|⟨kvs,k,b,e,ey,eb,l⟩
 ·subst ey
  obtain⟨z,hd,vs,rel,dd⟩:=a8O I.hok e
  refine wpAny_in_of (b1i ry) hd dd.mapOf ?_
  rw [<-(rel.val k).isSome_eq,<-l]
  exact h _ (I.tok _)
 ·subst ey
  cases(show u=Value.ref b from ry)
  obtain⟨z,hd,xs,rel,dd⟩:=a8R I.hok e
  refine wpAny_in_heap (tupleKind_room_in1 hu) (a69 I.hok eb) hd dd ?_
  have q:=(rel.val k).isSome_eq
  rw [Option.isSome_map] at q
  rw [<-q,<-l]
  exact h _ (I.tok _)
theorem c0Z{Q:AA->AC->Prop}(hu:A.units+1<cLine)(I:l8 X pins σ H s)(g:a2q H a y o)(ry:u0 y u)(h:∀s',l8 X pins σ H s'->Q (.bool (!o.isSome)) s'):
 AH (model X.prog X.w) A (compareOp .NotIn u (.ref a)) Q E s:=by
 rcases g with⟨kvs,k,e,ey,l⟩|⟨kvs,k,b,e,ey,eb,l⟩
 ·subst ey
  obtain⟨z,hd,vs,rel,dd⟩:=a8O I.hok e
  refine wpAny_notIn_of (b1i ry) hd dd.mapOf ?_
  rw [<-(rel.val k).isSome_eq,<-l]
  exact h _ (I.tok _)
 ·subst ey
  cases(show u=Value.ref b from ry)
  obtain⟨z,hd,xs,rel,dd⟩:=a8R I.hok e
  refine wpAny_notIn_heap (tupleKind_room_in1 hu) (a69 I.hok eb) hd dd ?_
  have q:=(rel.val k).isSome_eq
  rw [Option.isSome_map] at q
  rw [<-q,<-l]
  exact h _ (I.tok _)
theorem b2a{h':Heap}{t':Nat}{ob:HO}(I:l8 X pins σ H s)(mu:Mut (H a))(hs:Heap.SameBut a s.heap h')(he:∃q,h'.get? a=ξ q)(new:G3 X.prog X.w (t8 H a ob) h' a ob):
 l8 X pins σ (t8 H a ob) {s with heap:=h',toks:=t'}:=
 I.write (x:=a) (e:=a) mu (.inl rfl) (λb q hb z=>(hs.2 b hb).trans z) he new
theorem b8H{P:AJ}{w:AI}{H':Hp}{h':Heap}{kvs:List (n4×V)}{vs:List (n4×AA)}(z:kvs.length<=AO)(hd:(a==sysModules)=false)(rel:KV kvs vs)(dd:h'.DictOf (r8 P w) a vs):
 G3 P w H' h' a (.dK kvs):=⟨z,hd,vs,rel,dd⟩
theorem b7w{H':Hp}{Q:Unit->AC->Prop}(hu:A.units+1<cLine)(I:l8 X pins σ H s)(g:b8o H a y v H')(ry:u0 y u)(rv:u0 v r)(h:∀s',l8 X pins σ H' s'->Q () s'):
 AH (model X.prog X.w) A (setItem (.ref a) u r) Q E s:=by
 rcases g with⟨kvs,k,e,ey,l,eH⟩|⟨kvs,k,b,e,ey,eb,l,eH⟩
 ·subst ey eH
  obtain⟨z,hd,vs,rel,dd⟩:=a6c I.hok e
  have hz:vs.length<=AO:=by rw [<-rel.length];exact z
  have hl:(a4U kvs k v).length<=AO:=by have:=a7P kvs k v;lia
  refine wpAny_setItem_pairs (hsz:=hz) (b1i ry) dd λh' dd' hs=>h _ ?_
  have he:∃q,h'.get? a=ξ q:=by obtain⟨q,_,_,hq,_⟩:=dd';exact⟨q,hq⟩
  exact b2a I (by rw [e];exact True.intro) hs he (b8H hl hd (rel.put k rv) dd')
 ·subst ey eH
  cases(show u=Value.ref b from ry)
  obtain⟨z,hd,xs,rel,dd⟩:=c45 I.hok e
  have hz:xs.length<=AO:=by rw [<-Paired.length rel];exact z
  have hl:(a4U kvs k v).length<=AO:=by have:=a7P kvs k v;lia
  refine wpAny_setItem_heap (hsz:=hz) (tupleKind_room_in1 hu) (a69 I.hok eb) dd λh' dd' hs=>h _ ?_
  obtain⟨q,es,ep,hq,h2,h3,h4,_,h5⟩:=dd'
  refine b2a I (by rw [e];exact True.intro) hs ⟨q,hq⟩ ⟨hl,hd,_,(rel.put k eb rv).keeps λc ys ec=> ?_,q,es,ep,hq,h2,h3,h4,h5⟩
  rw [i6 (a2k ec e (λz=>nomatch z))]
  exact ec
end
section
variable {X:Cx}{pins:List (AB×Obj)}{σ:St}{H:Hp}{s:AC}{a:AB}{kvs:List (n4×V)}{k:n4}{u:AA}{A:AK}{E:AA->AC->Prop}
theorem c0Y{Q:AA->AC->Prop}(I:l8 X pins σ H s)(e:H a=ξ (.dK kvs))(h:∀s',l8 X pins σ (t8 H a (.dK [])) s'->Q .none s'):AH (model X.prog X.w) A (call (.builtin "dict.clear") [.ref a]) Q E s:=by
 obtain⟨z,hd,vs,rel,dd⟩:=a6c I.hok e;refine call_meetsIn PySem.F.slot_dict_clear dd.typeIs PySem.F.entry_dict_clear (PySem.F.args_dict_clear_1 _) (meets_dict_clear (r8 X.prog X.w) a) ⟨vs,dd,by rw [<-rel.length];exact z,λh' dd' hs=>h _ ?_⟩
 have he:∃q,h'.get? a=ξ q:=by obtain⟨q,_,_,hq,_⟩:=dd';exact⟨q,hq⟩
 exact b2a (t':=s.toks) I (by rw [e];exact True.intro) hs he (b8H (Nat.zero_le _) hd .nil dd')
end
def c25(i:AF):Prop:=∀ov iv,subscripted i false ov iv=operate [ov,iv] (getItem ov iv)
theorem c2p{prog:AJ}{w:AI}{A:AK}{E:AA->AC->Prop}{s:AC}{env:Env}{value slice:AF}{pos:Pos}{T id:String}{Q:AA->AC->Prop}
 (hl:typeLookup (.type T) "__getitem__"=pure (ξ (.builtin id))) (hs:c25 slice)
 (h:AH (model prog w) A (eval value env) (λo s₁=>AH (model prog w) A (eval slice env) (λi s₂=>s₂.TypeIs o T/\AH (model prog w) A (getItem o i) Q E s₂) E s₁) E s):
 AH (model prog w) A (eval (.Subscript value slice pos) env) Q E s:=by
 refine Subscript_ (wpAny_mono h (λo s₁ h₁=>wpAny_mono h₁ (λi s₂ h₂=> ?_) λ_ _ x=>x) λ_ _ x=>x)
 obtain⟨hT,h₂⟩:=h₂
 unfold subscriptTail
 refine AG ?_
 rw [getitemInPython_of_ne hT.not_modules]
 refine AG (wpAny_specialOf hT hl ?_)
 have fin:AH (model prog w) A (subscripted slice false o i) (λr s₃=>AH (model prog w) A (letTemporaryGo value o r>>=λ_=>pure r) Q E s₃) E s₂:=by
  rw [hs o i];exact wpAny_operating (wpAny_mono h₂ (λr s₃ h₃=>AG (wpAny_letTemporaryGo (AN h₃))) λ_ _ x=>x)
 first
  |exact AN (AG fin)
  |exact AG (AN (AG fin))
  |exact AG fin
theorem b3K{X:Cx}{pins:List (AB×Obj)}{σ:St}{H:Hp}{s:AC}{a:AB}{y:V}{o:Υ V}(I:l8 X pins σ H s)(g:a2q H a y o):s.TypeIs (.ref a) "dict":=by
 rcases g with⟨kvs,k,e,_,_⟩|⟨kvs,k,b,e,_,_,_⟩
 ·obtain⟨_,_,vs,_,dd⟩:=a8O I.hok e;exact dd.typeIs
 ·obtain⟨_,_,xs,_,dd⟩:=a8R I.hok e;exact dd.typeIs
def c5J(td ty:TE):TE:=λσ H Q=>td σ H λx H1=>ty σ H1 λy H2=>∃a v,x= .ref a/\a2q H2 a y (ξ v)/\Q v H2
def c6n(ty td:TE):TE:=λσ H Q=>ty σ H λy H1=>td σ H1 λx H2=>∃a o,x= .ref a/\a2q H2 a y o/\Q (.bl o.isSome) H2
def c2q(ty td:TE):TE:=λσ H Q=>ty σ H λy H1=>td σ H1 λx H2=>∃a o,x= .ref a/\a2q H2 a y o/\Q (.bl (!o.isSome)) H2
def c5E(td ty tv:TE):TS:=λD σ H=>tv σ H λv H1=>td σ H1 λx H2=>ty σ H2 λy H3=>∃a H4,x= .ref a/\b8o H3 a y v H4/\D.nx σ H4
section
variable {X:Cx}{o i e value:AF}{pos pos' tpos:Pos}{td ty tv:TE}
theorem b23(hu:X.A.units+1<cLine)(ho:PE X o td)(hi:PE X i ty)(hs:c25 i):PE X (.Subscript o i pos) (c5J td ty):=by
 ext q
 refine c2p PySem.F.slot_dict_getitem.lookup hs (K6 (ho pins s σ H _ I h) λu s1 h0=>t7 h0 λx H1 I1 rx q1=>K6 (hi pins s1 σ H1 _ I1 q1) λiv s2 ⟨y,H2,I2,ry,a,v,ex,g,q2⟩=> ?_);subst ex;obtain rfl:u=Value.ref a:=rx;exact⟨b3K I2 g,b7v hu I2 g ry λw' s3 I3 rw'=>⟨v,H2,I3,rw',q2⟩⟩
theorem c4i(hu:X.A.units+1<cLine)(hi:PE X i ty)(ho:PE X o td):PC X .In i o (c6n ty td):=by
 ext q
 ext ac
 exact c54 hu I2 g ry λs3 I3=>⟨.bl ov.isSome,H2,I3,rfl,q2⟩
theorem b1u(hu:X.A.units+1<cLine)(hi:PE X i ty)(ho:PE X o td):PC X .NotIn i o (c2q ty td):=by
 ext q
 ext ac
 exact c0Z hu I2 g ry λs3 I3=>⟨.bl (!ov.isSome),H2,I3,rfl,q2⟩
theorem c11(hu:X.A.units+1<cLine)(ho:PE X o td)(hi:PE X i ty)(hv:PE X value tv)(hs:swapsWith value (ξ (.Subscript o i pos')) pos.line X.env=pure false):
 PS X (.Assign [.Subscript o i pos'] value pos) (c5E td ty tv):=by
 intro pins s σ H D I h
 refine wpAny_Assign_Subscript (K6 (hv pins s σ H _ I h) λr s1 h0=>t7 h0 λv H1 I1 rv q1=>K6 (ho pins s1 σ H1 _ I1 q1) λu s2 h0=>t7 h0 λx H2 I2 rx q2=>K6 (hi pins s2 σ H2 _ I2 q2) λiv s3 ⟨y,H3,I3,ry,a,H4,ex,g,q3⟩=> ?_) hs
 subst ex
 obtain rfl:u=Value.ref a:=rx
 exact b7w hu I3 g ry rv λs4 I4=>⟨σ,H4,I4,q3⟩
end
theorem b3L{P:AJ}{w:AI}{H:Hp}(h:Heap)(hb:sysModules<h.objs.size):G3 P w H (h.push {cls:= .type "dict",data:= .dict #[]}) h.objs.size (.dK []):=
 ⟨Nat.zero_le _,beq_eq_false_iff_ne.mpr (Ne.symm (Ac hb)),[],.nil,Heap.DictOf.new h⟩
def c4O:TE:=λ_ H Q=>∀p,H p=ζ->Q (.ref p) (t8 H p (.dK []))
section
variable {X:Cx}{pos:Pos}
theorem b91:PE X (.Dict [] [] pos) c4O:=λpins s σ H Q I h=>
 wpAny_Dict_empty ⟨.ref s.heap.objs.size,_,I.laid (a:=s.heap.objs.size) (o:= .dK []) (t':=s.toks) (λ_ _ q=>AY _ q) (AQ _) (b3L s.heap I.big),rfl,h _ (I.hok.fresh (AQ _))⟩
end
structure M2(X:Cx)(o:AF)(m:Str)(apos:Pos)(e f:AF)(cpos:Pos):Prop where
 base:attributeBase o m X.env (eval o X.env)=eval o X.env
 few:((backTo cpos (AL [e,f] X.env)).all (λx=> !x.1)&&(backToKw cpos (keywordEach [] X.env)).all (λx=>x.1.isSome)
  && decide (([e,f]:List AF).length+([]:List Keyword).length+(if([]:List Keyword).isEmpty then 0 else 1)<30))=true
 line:(apos.endLine==cpos.line)=true
 trees:backTo cpos (AL [e,f] X.env)=[(false,eval e X.env),(false,eval f X.env)]
def IsD(H:Hp)(a:AB):Prop:=(∃kvs,Rd H a (.dK kvs))\/∃kvs,Rd H a (.dT kvs)
theorem c3I{X:Cx}{pins:List (AB×Obj)}{σ:St}{H:Hp}{s:AC}{a:AB}(I:l8 X pins σ H s)(d:IsD H a):
 s.TypeIs (.ref a) "dict"/\(∀b,Value.ref a= .ref b->∃ob,s.heap.get? b=ξ ob/\ob.dict=ζ)/\(a==sysModules)=false:=by
 rcases d with⟨kvs,e⟩|⟨kvs,e⟩
 ·obtain⟨_,hd,vs,_,dd⟩:=a8O I.hok e
  refine⟨dd.typeIs,λb q=> ?_,hd⟩
  cases q
  obtain⟨ob,_,_,h1,h2,_⟩:=dd
  exact⟨ob,h1,h2.2.1⟩
 ·obtain⟨_,hd,xs,_,dd⟩:=a8R I.hok e
  refine⟨dd.typeIs,λb q=> ?_,hd⟩
  cases q
  obtain⟨ob,_,_,h1,h2,_⟩:=dd
  exact⟨ob,h1,h2.2.1⟩
section
variable {X:Cx}{pins:List (AB×Obj)}{σ:St}{H:Hp}{s:AC}{a:AB}{y d:V}{u r:AA}{o:Υ V}{A:AK}{E:AA->AC->Prop}
theorem c3i{Q:AA->AC->Prop}(hu:A.units+1<cLine)(I:l8 X pins σ H s)(g:a2q H a y o)(ry:u0 y u)(rd:u0 d r)(h:∀w' s',l8 X pins σ H s'->u0 (o.getD d) w'->Q w' s'):
 AH (model X.prog X.w) A (call (.builtin "dict.get") [.ref a,u,r]) Q E s:=by
 rcases g with⟨kvs,k,e,ey,l⟩|⟨kvs,k,b,e,ey,eb,l⟩
 ·subst ey
  obtain⟨z,hd,vs,rel,dd⟩:=a8O I.hok e
  refine call_meetsIn PySem.F.slot_dict_get dd.typeIs PySem.F.entry_dict_get (PySem.F.args_dict_get_3 _ _ _) (meets_dict_get_default (r8 X.prog X.w) a (b1i ry) hd r) ⟨_,dd.mapOf,h _ _ (I.tok _) ?_⟩
  rw [l]
  exact(rel.val k).getD rd
 ·subst ey
  cases(show u=Value.ref b from ry)
  obtain⟨z,hd,xs,rel,dd⟩:=a8R I.hok e
  refine call_meetsIn PySem.F.slot_dict_get dd.typeIs PySem.F.entry_dict_get (PySem.F.args_dict_get_3 _ _ _) (meetsH_dict_get_default (tupleKind (r8 X.prog X.w)) a b hd r) ⟨tupleKind_room_in1 hu,k,xs,a69 I.hok eb,dd,h _ _ (I.tok _) ?_⟩
  rw [l]
  exact(rel.val k).getD rd
end
def c4N(td ty tx:TE):TE:=λσ H Q=>td σ H λx H1=>∃a,x= .ref a/\IsD H1 a/\ty σ H1 λy H2=>tx σ H2 λz H3=>∃o,a2q H3 a y o/\Q (o.getD z) H3
section
variable {X:Cx}{o e f:AF}{apos cpos:Pos}{td ty tx:TE}
theorem b4v(hu:X.A.units+1<cLine)(ho:PE X o td)(he:PE X e ty)(hf:PE X f tx)(m:M2 X o "get" apos e f cpos):PE X (.Call (.Attribute o "get" apos) [e,f] [] cpos) (c4N td ty tx):=by
 ext q
 refine wpAny_Call_method m.base m.few m.line PySem.F.plainAttrs_dict PySem.F.slot_dict_get PySem.F.type_dict_get (K6 (ho pins s σ H _ I h) λu s1 ⟨x,H1,I1,rx,a,ex,d,q1⟩=> ?_);subst ex;obtain rfl:u=Value.ref a:=rx;obtain⟨t1,t2,_⟩:=c3I I1 d;refine⟨t1,t2, ?_⟩;rw [m.trees];refine Calls.callWith_builtin rfl (Calls.evalArgs_plain (Calls.spliced_cons (K6 (he pins s1 σ H1 _ I1 q1) λiv s2 h0=>t7 h0 λy H2 I2 ry q2=>
  Calls.spliced_cons (K6 (hf pins s2 σ H2 _ I2 q2) λfv s3 ⟨z,H3,I3,rz,ov,g,q3⟩=>Calls.spliced_nil ?_))))
 exact c3i hu I3 g ry rz λw' s4 I4 rw'=>⟨_,H3,I4,rw',q3⟩
end
section
variable {X:Cx}{pins:List (AB×Obj)}{σ:St}{H:Hp}{s:AC}{a:AB}{kvs:List (n4×V)}{A:AK}{E:AA->AC->Prop}
end
section
variable {X:Cx}{pins:List (AB×Obj)}{σ:St}{H:Hp}{s:AC}{a:AB}{y:V}{u:AA}{A:AK}{E:AA->AC->Prop}
end
end L2
namespace Att
open PySem PySem.W PySem.Calls PyProof.Rows
section
variable {prog:AJ}{w:AI}{A:AK}{E:AA->AC->Prop}{s:AC}{K:Frag}
end
end Att
namespace L2
section
variable {P:AJ}{w:AI}{K:AE}{mg:Str->Υ AA}{base:Heap}
end
section
variable {X:Cx}
end
section
variable {κ:Type}[DecidableEq κ]
end
end L2
set_option maxHeartbeats 4000000
namespace PU
open L2
abbrev PV:=PyData
def TqT(K:AE)(H:Hp)(a:AB)(xs:List V):Prop:=
 H a=ξ (.tup xs)\/∃(o:Obj) (its:Array AA) (n:Nat),K.lookup a=ξ o/\o.cls= .type "tuple"/\o.data= .seq its n/\its.size<=AO/\v9 xs its.toList
theorem TqT.of{K:AE}{H:Hp}{a:AB}{xs:List V}(h:H a=ξ (.tup xs)):TqT K H a xs:= .inl h
theorem TqT.sq{K:AE}{H:Hp}{a:AB}{xs:List V}(h:TqT K H a xs):SqT K H a xs:=h.elim (λh=> .inl (.inl h)) .inr
theorem c2g{K:AE}{H H':Hp}{a:AB}{xs:List V}(s:n0 H H')(h:TqT K H a xs):TqT K H' a xs:=h.elim (λh=> .inl (s _ _ h)) .inr
def b6b(K:AE)(x:Str)(v:V):Prop:=∃(a:AB) (oc:AA) (od:Υ AB) (fd:FuncData) (osl:Array (Υ AA)),v= .ref a/\K.lookup a=ξ ⟨oc,od,.func fd,osl⟩/\fd.name=x
def a1u(K:AE)(x:Str)(C:AB):Prop:=PySem.W.nsIn K mainGlobals x=ξ (ξ (.ref C))/\∃(oc:AA) (od:Υ AB) (cd:ClassData) (osl:Array (Υ AA)),K.lookup C=ξ ⟨oc,od,.cls cd,osl⟩/\cd.name=x
theorem a1u.inj{K:AE}{x y:Str}{C:AB}(h:a1u K x C)(h':a1u K y C):x=y:=by
 obtain⟨_,_,_,_,_,k,n⟩:=h;obtain⟨_,_,_,_,_,k',n'⟩:=h';rw [k] at k';cases k';rw [<-n,n']
theorem a1u.uniq{K:AE}{x:Str}{C D:AB}(h:a1u K x C)(h':a1u K x D):C=D:=by
 have:=h.1.symm.trans h'.1;cases this;rfl
def c51(K:AE)(H:Hp)(x:Str)(v:V):Prop:=∃(a C:AB) (φ:Heap->Prop),v= .ref a/\H a=ξ (.ext φ)/\
 (∀h:Heap,φ h->∃oe vs,h.get? a=ξ oe/\oe.cls= .ref C/\oe.data= .fields vs/\oe.dict=ζ)/\a1u K x C
def b3u(K:AE)(H:Hp)(x:Str)(t:PV)(v:V):Prop:=(t= .none/\b6b K x v)\/(t= .bool true/\c51 K H x v)
theorem b3u.ref{K:AE}{H:Hp}{x:Str}{t:PV}{v:V}(h:b3u K H x t v):∃a,v= .ref a:=by
 rcases h with⟨_,a,_,_,_,_,e,_⟩|⟨_,a,_,_,e,_⟩<;>exact⟨a,e⟩
theorem b3u.mono{K:AE}{H H':Hp}{x:Str}{t:PV}{v:V}(s:n0 H H')(h:b3u K H x t v):b3u K H' x t v:=by
 rcases h with h|⟨z,a,C,φ,e,q,r⟩
 ·exact .inl h
 ·exact .inr ⟨z,a,C,φ,e,s _ _ q,r⟩
def b1V(K:AE)(H:Hp)(x:Str)(m:V)(fs:List (Str×V))(v:V):Prop:=
 (m= .bl false/\∃a C dx,v= .ref a/\H a=ξ (.ins C dx fs)/\a1u K x C)\/
 (m= .int 0/\∃(a C dx:AB) (φ:Heap->Prop),v= .ref a/\H a=ξ (.ext φ)/\(∀h:Heap,φ h->∃oe vs,h.get? a=ξ oe/\oe.cls= .ref C/\oe.data= .fields vs/\oe.dict=ξ dx)/\H dx=ξ (.xd fs)/\a1u K x C)
theorem b1V.ref{K:AE}{H:Hp}{x:Str}{m:V}{fs:List (Str×V)}{v:V}(h:b1V K H x m fs v):∃a,v= .ref a:=by
 rcases h with⟨_,a,_,_,e,_⟩|⟨_,a,_,_,_,e,_⟩<;>exact⟨a,e⟩
theorem b1V.mono{K:AE}{H H':Hp}{x:Str}{m:V}{fs:List (Str×V)}{v:V}(s:n0 H H')(h:b1V K H x m fs v):b1V K H' x m fs v:=by
 rcases h with⟨z,a,C,dx,e,q,n⟩|⟨z,a,C,dx,φ,e,q,r,d,n⟩
 ·exact .inl ⟨z,a,C,dx,e,s _ _ q,n⟩
 ·exact .inr ⟨z,a,C,dx,φ,e,s _ _ q,r,s _ _ d,n⟩
def kP:n4->PV
 | .inl i=> .int i
 | .inr x=> .str x
def s1{α:Type}(kv:n4×α):List n4×α:=([kv.1],kv.2)
mutual
def E7(K:AE)(H:Hp):PV->V->Prop
 | .none,v=>v= .non
 | .bool b,v=>v= .bl b
 | .int i,v=>v= .int i
 | .str x,v=>v= .str x
 | .tuple ps,v=>∃a xs,v= .ref a/\TqT K H a xs/\n6 K H ps xs
 | .list ps,v=>∃a xs,v= .ref a/\SqL K H a xs/\n6 K H ps xs
 | .dict kvs,v=>(∃a ys,v= .ref a/\H a=ξ (.dK ys)/\a2v K H kvs (ys.map s1))\/(∃a xs,v= .ref a/\H a=ξ (.dT xs)/\a2v K H kvs (([],.non)::xs))\/(∃x t,kvs=[(.str x,t)]/\b3u K H x t v)\/(∃x m fs,b1V K H x m fs v/\a4P K H kvs ((x,m)::fs))
def n6(K:AE)(H:Hp):List PV->List V->Prop
 |[],vs=>vs=[]
 |p::ps,vs=>∃v r,vs=v::r/\E7 K H p v/\n6 K H ps r
def a2v(K:AE)(H:Hp):List (PV×PV)->List (List n4×V)->Prop
 |[],ys=>ys=[]
 |(k,p)::r,ys=>∃kk v t,ys=(kk,v)::t/\k= .tuple (kk.map kP)/\E7 K H p v/\a2v K H r t
def a4P(K:AE)(H:Hp):List (PV×PV)->List (Str×V)->Prop
 |[],ys=>ys=[]
 |(k,p)::r,ys=>∃f v t,ys=(f,v)::t/\k= .str f/\E7 K H p v/\a4P K H r t
end
theorem B3{K:AE}{H H':Hp}{a:AB}{xs:List V}(s:n0 H H')(h:SqT K H a xs):SqT K H' a xs:=by
 rcases h with(h|⟨o,h⟩)|h
 ·exact .inl (.inl (s _ _ h))
 ·exact .inl (.inr ⟨o,s _ _ h⟩)
 ·exact .inr h
theorem J2{K:AE}{H H':Hp}{a:AB}{xs:List V}(s:n0 H H')(h:SqL K H a xs):SqL K H' a xs:=by
 rcases h with(h|⟨o,h⟩)|h
 ·exact .inl (.inl (s _ _ h))
 ·exact .inl (.inr ⟨o,s _ _ h⟩)
 ·exact .inr h
mutual
theorem E7.mono{K:AE}{H H':Hp}(s:n0 H H'):∀(p:PV) {v:V},E7 K H p v->E7 K H' p v
 | .none,_,h=>h
 | .bool _,_,h=>h
 | .int _,_,h=>h
 | .str _,_,h=>h
 | .dict kvs,_,.inl ⟨a,ys,q,h,r⟩=> .inl ⟨a,ys,q,s _ _ h,a2v.mono s kvs r⟩
 | .dict kvs,_,.inr (.inl ⟨a,xs,q,h,r⟩)=> .inr (.inl ⟨a,xs,q,s _ _ h,a2v.mono s kvs r⟩)
 | .dict _,_,.inr (.inr (.inl ⟨x,t,e,h⟩))=> .inr (.inr (.inl ⟨x,t,e,h.mono s⟩))
 | .dict kvs,_,.inr (.inr (.inr ⟨x,m,fs,h,r⟩))=> .inr (.inr (.inr ⟨x,m,fs,h.mono s,a4P.mono s kvs r⟩))
 | .tuple ps,_,⟨a,xs,e,q,r⟩=>⟨a,xs,e,c2g s q,n6.mono s ps r⟩
 | .list ps,_,⟨a,xs,e,q,r⟩=>⟨a,xs,e,J2 s q,n6.mono s ps r⟩
theorem n6.mono{K:AE}{H H':Hp}(s:n0 H H'):∀(ps:List PV) {vs:List V},n6 K H ps vs->n6 K H' ps vs
 |[],_,h=>h
 |p::ps,_,⟨v,r,e,q,t⟩=>⟨v,r,e,E7.mono s p q,n6.mono s ps t⟩
theorem a2v.mono{K:AE}{H H':Hp}(s:n0 H H'):∀(es:List (PV×PV)) {ys:List (List n4×V)},a2v K H es ys->a2v K H' es ys
 |[],_,h=>h
 |(k,p)::es,_,⟨kk,v,r,e,z,q,t⟩=>⟨kk,v,r,e,z,E7.mono s p q,a2v.mono s es t⟩
theorem a4P.mono{K:AE}{H H':Hp}(s:n0 H H'):∀(es:List (PV×PV)) {ys:List (Str×V)},a4P K H es ys->a4P K H' es ys
 |[],_,h=>h
 |(k,p)::es,_,⟨kk,v,r,e,z,q,t⟩=>⟨kk,v,r,e,z,E7.mono s p q,a4P.mono s es t⟩
end
theorem n6.length{K:AE}{H:Hp}:∀{ps:List PV} {vs:List V},n6 K H ps vs->vs.length=ps.length
 |[],_,h=>by cases h;rfl
 |_::ps,_,⟨v,r,e,_,t⟩=>by subst e;rw [AV,AV,n6.length t]
theorem n6.get{K:AE}{H:Hp}:∀{ps:List PV} {vs:List V} {i:Nat} {p:PV},n6 K H ps vs->ps[i]?=ξ p->∃v,vs[i]?=ξ v/\E7 K H p v
 |[],_,_,_,_,h=>by simp at h
 |q::ps,_,0,p,⟨v,r,e,a,t⟩,h=>by subst e;simp at h;subst h;exact⟨v,rfl,a⟩
 |q::ps,_,i+1,p,⟨v,r,e,a,t⟩,h=>by subst e;exact n6.get (i:=i) t (by simpa using h)
theorem n6.getV{K:AE}{H:Hp}:∀{ps:List PV} {vs:List V} {i:Nat} {v:V},n6 K H ps vs->vs[i]?=ξ v->∃p,ps[i]?=ξ p/\E7 K H p v
 |[],_,_,_,h,e=>by cases h;simp at e
 |q::ps,_,0,v,⟨w,r,e,a,t⟩,h=>by subst e;simp at h;subst h;exact⟨q,rfl,a⟩
 |q::ps,_,i+1,v,⟨w,r,e,a,t⟩,h=>by subst e;exact n6.getV (i:=i) t (by simpa using h)
theorem n6.append{K:AE}{H:Hp}:∀{ps qs:List PV} {vs ws:List V},n6 K H ps vs->n6 K H qs ws->n6 K H (ps++qs) (vs++ws)
 |[],_,_,_,h,t=>by cases h;exact t
 |_::ps,_,_,_,⟨v,r,e,a,t⟩,s=>by subst e;exact⟨v,_,rfl,a,n6.append t s⟩
theorem n6.drop{K:AE}{H:Hp}:∀{ps:List PV} {vs:List V} (n:Nat),n6 K H ps vs->n6 K H (ps.drop n) (vs.drop n)
 |_,_,0,h=>h
 |[],_,n+1,h=>by cases h;rfl
 |_::ps,_,n+1,⟨v,r,e,a,t⟩=>by subst e;exact n6.drop n t
theorem n6.take{K:AE}{H:Hp}:∀{ps:List PV} {vs:List V} (n:Nat),n6 K H ps vs->n6 K H (ps.take n) (vs.take n)
 |_,_,0,h=>rfl
 |[],_,n+1,h=>by cases h;rfl
 |_::ps,_,n+1,⟨v,r,e,a,t⟩=>by subst e;exact⟨v,_,rfl,a,n6.take n t⟩
abbrev Γ:=List (List n4×PV)
def B1(K:AE)(H:Hp):Γ->List (List n4×V)->Prop
 |[],ys=>ys=[]
 |(k,p)::r,ys=>∃v t,ys=(k,v)::t/\E7 K H p v/\B1 K H r t
theorem B1.mono{K:AE}{H H':Hp}(s:n0 H H'):∀(kvs:Γ) {ys:List (List n4×V)},B1 K H kvs ys->B1 K H' kvs ys
 |[],_,h=>h
 |(k,p)::r,_,⟨v,t,e,q,h⟩=>⟨v,t,e,E7.mono s p q,B1.mono s r h⟩
inductive a0e where
 |lst (ps:List PV)|dct (kvs:Γ)|txt (kvs:Γ)
inductive d5 where
 |v (p:PV)|ow (c:a0e)|bo (c:a0e)
abbrev d5.own(ps:List PV):d5:= .ow (.lst ps)
abbrev d5.bor(ps:List PV):d5:= .bo (.lst ps)
def W0(K:AE)(F H:Hp)(v:V):a0e->Prop
 | .lst ps=>∃a xs,v= .ref a/\F a=ζ/\H a=ξ (.lst xs)/\n6 K F ps xs
 | .dct kvs=>∃a xs,v= .ref a/\F a=ζ/\H a=ξ (.dT xs)/\B1 K F kvs xs
 | .txt kvs=>∃a xs,v= .ref a/\F a=ζ/\H a=ξ (.dK xs)/\B1 K F kvs (xs.map s1)
def R6(K:AE)(F H:Hp)(v:V):d5->Prop
 | .v p=>E7 K F p v
 | .ow c=>W0 K F H v c
 | .bo c=>W0 K F H v c
theorem W0.at_{K:AE}{F H:Hp}{v:V}:∀{c:a0e},W0 K F H v c->∃a o,v= .ref a/\F a=ζ/\H a=ξ o
 | .lst _,⟨a,_,e,n,q,_⟩=>⟨a,_,e,n,q⟩
 | .dct _,⟨a,_,e,n,q,_⟩=>⟨a,_,e,n,q⟩
 | .txt _,⟨a,_,e,n,q,_⟩=>⟨a,_,e,n,q⟩
def NT(o:HO):Prop:=∀xs,o≠.tup xs
structure Ext(F H F' H':Hp):Prop where
 f:n0 F F'
 h:n0 H H'
 fh:n0 F' H'
 nw:∀b o,F b=ζ->H b=ξ o->NT o->F' b=ζ
 nf:∀b o u,F' b=ξ (.frz o u)->F b=ξ (.frz o u)
theorem n0.refl(H:Hp):n0 H H:=λ_ _ e=>e
theorem Ext.refl{F H:Hp}(s:n0 F H):Ext F H F H:=⟨n0.refl F,n0.refl H,s,λ_ _ e _ _=>e,λ_ _ _ e=>e⟩
theorem Ext.trans{F H F1 H1 F2 H2:Hp}(a:Ext F H F1 H1)(b:Ext F1 H1 F2 H2):Ext F H F2 H2:=
 ⟨a.f.trans b.f,a.h.trans b.h,b.fh,λc o e q t=>b.nw c o (a.nw c o e q t) (a.h c o q) t,λc o u e=>a.nf c o u (b.nf c o u e)⟩
theorem b9K{F0 F:Hp}{a:AB}{xs:List V}(h:∀b o u,F b=ξ (.frz o u)->F0 b=ξ (.frz o u)):∀b o u,t8 F a (.lst xs) b=ξ (.frz o u)->F0 b=ξ (.frz o u):=λb o u z=>by
 by_cases hb:b=a
 ·subst hb;rw [j1] at z;cases z
 ·rw [i6 hb] at z;exact h _ _ _ z
theorem W0.ext{K:AE}{F H F' H':Hp}{v:V}(x:Ext F H F' H'):∀{c:a0e},W0 K F H v c->W0 K F' H' v c
 | .lst _,⟨a,xs,e,n,q,r⟩=>⟨a,xs,e,x.nw _ _ n q (λ_ h=>nomatch h),x.h _ _ q,n6.mono x.f _ r⟩
 | .dct _,⟨a,xs,e,n,q,r⟩=>⟨a,xs,e,x.nw _ _ n q (λ_ h=>nomatch h),x.h _ _ q,B1.mono x.f _ r⟩
 | .txt _,⟨a,xs,e,n,q,r⟩=>⟨a,xs,e,x.nw _ _ n q (λ_ h=>nomatch h),x.h _ _ q,B1.mono x.f _ r⟩
theorem R6.ext{K:AE}{F H F' H':Hp}{v:V}(x:Ext F H F' H'):∀{r:d5},R6 K F H v r->R6 K F' H' v r
 | .v p,h=>E7.mono x.f p h
 | .ow _,h=>W0.ext x h
 | .bo _,h=>W0.ext x h
def a0e.rd:a0e->PV
 | .lst ps=> .list ps
 | .dct kvs=> .dict ((.tuple [],.none)::kvs.map λkv=>(.tuple (kv.1.map kP),kv.2))
 | .txt kvs=> .dict (kvs.map λkv=>(.tuple (kv.1.map kP),kv.2))
def d5.rd:d5->PV
 | .v p=>p
 | .ow c=>c.rd
 | .bo c=>c.rd
def d5.toVal:d5->Υ PV
 | .v p=>ξ p
 | .ow (.lst ps)=>ξ (.list ps)
 | .ow (.dct _)=>ζ
 | .ow (.txt _)=>ζ
 | .bo _=>ζ
theorem a2v.of{K:AE}{F H:Hp}(s:n0 F H):∀{kvs:Γ} {xs:List (List n4×V)},B1 K F kvs xs->a2v K H (kvs.map λkv=>(PyData.tuple (kv.1.map kP),kv.2)) xs
 |[],_,h=>h
 |(k,p)::r,_,⟨v,t,e,q,h⟩=>⟨k,v,t,e,rfl,E7.mono s p q,a2v.of s h⟩
theorem W0.rd{K:AE}{F H:Hp}{v:V}(s:n0 F H):∀{c:a0e},W0 K F H v c->E7 K H c.rd v
 | .lst ps,⟨a,xs,e,n,q,r⟩=>⟨a,xs,e,SqL.of q,n6.mono s _ r⟩
 | .dct kvs,⟨a,xs,e,n,q,r⟩=> .inr (.inl ⟨a,xs,e,q,[],.non,xs,rfl,rfl,rfl,a2v.of s r⟩)
 | .txt kvs,⟨a,xs,e,n,q,r⟩=> .inl ⟨a,xs,e,q,a2v.of s r⟩
theorem R6.rd{K:AE}{F H:Hp}{v:V}(s:n0 F H):∀{r:d5},R6 K F H v r->E7 K H r.rd v
 | .v p,h=>E7.mono s p h
 | .ow _,h=>W0.rd s h
 | .bo _,h=>W0.rd s h
structure A7(K:AE)(F H F' H':Hp)(v:V)(r:d5):Prop where
 x:Ext F H F' H'
 rep:R6 K F' H' v r
 fr:∀c a,r= .ow c->v= .ref a->H a=ζ
theorem A7.val{K:AE}{F H F' H':Hp}{v:V}{p:PV}(x:Ext F H F' H')(r:E7 K F' p v):A7 K F H F' H' v (.v p):=⟨x,r,λ_ _ e=>nomatch e⟩
theorem A7.here{K:AE}{F H:Hp}{v:V}{p:PV}(s:n0 F H)(r:E7 K F p v):A7 K F H F H v (.v p):=A7.val (Ext.refl s) r
theorem A7.trans{K:AE}{F H F1 H1 F2 H2:Hp}{v:V}{r:d5}(a:Ext F H F1 H1)(b:A7 K F1 H1 F2 H2 v r):A7 K F H F2 H2 v r:=
 ⟨a.trans b.x,b.rep,λps c e q=>a.h.free (b.fr ps c e q)⟩
theorem A7.toVal{K:AE}{F H F' H':Hp}{v:V}{p:PV}:∀{r:d5},A7 K F H F' H' v r->r.toVal=ξ p->∃F2,A7 K F H F2 H' v (.v p)
 | .v q,o,e=>by cases e;exact⟨F',o⟩
 | .bo _,_,e=>nomatch e
 | .ow (.dct _),_,e=>nomatch e
 | .ow (.txt _),_,e=>nomatch e
 | .ow (.lst ps),o,e=>by
   cases e;obtain⟨a,xs,rfl,n,q,r⟩:=o.rep;have fr:=o.fr _ a rfl rfl;have up:n0 F' (t8 F' a (.lst xs)):=λb u z=>by rw [i6 (m6 z n)];exact z
   refine⟨t8 F' a (.lst xs),A7.val ⟨o.x.f.trans up,o.x.h,λb u z=> ?_,λb u z y t=> ?_,b9K o.x.nf⟩ ⟨a,xs,rfl,SqL.of j1,n6.mono up _ r⟩⟩
   ·by_cases hb:b=a
    ·subst hb;rw [j1] at z;cases z;exact q
    ·rw [i6 hb] at z;exact o.x.fh _ _ z
   ·rw [i6 (m6 y fr)];exact o.x.nw b u z y t
theorem O1{H:Hp}{a:AB}{o:HO}(n:H a=ζ):n0 H (t8 H a o):=λb u z=>by rw [i6 (m6 z n)];exact z
theorem Ext.lay{F H:Hp}{a:AB}{o:HO}(s:n0 F H)(n:H a=ζ)(hf:∀x u,o≠.frz x u:=by intro _ _ h;cases h):Ext F H (t8 F a o) (t8 H a o):=
 ⟨O1 (s.free n),O1 n,λb u z=>by
  by_cases hb:b=a
  ·subst hb;rw [j1] at z ⊢;exact z
  ·rw [i6 hb] at z ⊢;exact s _ _ z,λb u z y _=>by rw [i6 (m6 y n)];exact z,λb w u z=>by
  by_cases hb:b=a
  ·subst hb;rw [j1] at z;exact absurd (Option.some.inj z) (hf w u)
  ·rw [i6 hb] at z;exact z⟩
theorem Ext.layH{F H:Hp}{a:AB}{o:HO}(s:n0 F H)(n:H a=ζ):Ext F H F (t8 H a o):=
 ⟨n0.refl F,O1 n,λb u z=>by rw [i6 (m6 (s _ _ z) n)];exact s _ _ z,λb u z y _=>z,λ_ _ _ z=>z⟩
theorem A7.tup{K:AE}{F H:Hp}{a:AB}{xs:List V}{ps:List PV}(s:n0 F H)(n:H a=ζ)(r:n6 K F ps xs):A7 K F H (t8 F a (.tup xs)) (t8 H a (.tup xs)) (.ref a) (.v (.tuple ps)):=
 A7.val (Ext.lay s n) ⟨a,xs,rfl,TqT.of j1,n6.mono (O1 (s.free n)) _ r⟩
theorem A7.lst{K:AE}{F H:Hp}{a:AB}{xs:List V}{ps:List PV}(s:n0 F H)(n:H a=ζ)(r:n6 K F ps xs):A7 K F H F (t8 H a (.lst xs)) (.ref a) (.own ps):=
 ⟨Ext.layH s n,⟨a,xs,rfl,s.free n,j1,r⟩,λ_ _ _ e=>by cases e;exact n⟩
abbrev b7:=List (Υ d5)
structure M9(K:AE)(F H:Hp)(σ:L2.St)(ρ:b7):Prop where
 fh:n0 F H
 len:σ.length=ρ.length
 at_:∀(i:Nat) (r:d5),ρ[i]?=ξ (ξ r)->∃v,σ[i]?=ξ (ξ v)/\R6 K F H v r
 nb:∀(i:Nat) (c:a0e),ρ[i]?≠ξ (ξ (.bo c))
 ap:∀(i j:Nat) (c d:a0e) (a:AB),i≠j->ρ[i]?=ξ (ξ (.ow c))->ρ[j]?=ξ (ξ (.ow d))->σ[i]?=ξ (ξ (.ref a))->σ[j]?≠ξ (ξ (.ref a))
theorem M9.ext{K:AE}{F H F' H':Hp}{σ:L2.St}{ρ:b7}(e:M9 K F H σ ρ)(x:Ext F H F' H'):M9 K F' H' σ ρ:=
 ⟨x.fh,e.len,λi r q=>let ⟨v,a,b⟩:=e.at_ i r q;⟨v,a,b.ext x⟩,e.nb,e.ap⟩
abbrev M:=b7->Υ d5
def tM(K:AE)(m:M):TE:=λσ H Q=>∃F ρ r,M9 K F H σ ρ/\m ρ=ξ r/\∀v F' H',A7 K F H F' H' v r->Q v H'
abbrev EE(X:Cx)(e:AF)(m:M):Prop:=PE X e (tM X.K m)
theorem A2{X:Cx}{e:AF}{t t':TE}(h:PE X e t)(i:∀σ H Q,t' σ H Q->t σ H Q):PE X e t':=λpins s σ H Q I q=>h pins s σ H Q I (i σ H Q q)
theorem a7n{X:Cx}{e:AF}{t t':TT}(h:PT X e t)(i:∀σ H Q,t' σ H Q->t σ H Q):PT X e t':=λpins s σ H Q I q=>h pins s σ H Q I (i σ H Q q)
theorem c0i{X:Cx}{e:AF}{t t':TT}(h:PW X e t)(i:∀σ H Q,t' σ H Q->t σ H Q):PW X e t':=λwh pins s σ H Q I q=>h wh pins s σ H Q I (i σ H Q q)
theorem b9X{X:Cx}{e:List AF}{t t':TA}(h:PA X e t)(i:∀σ H Q,t' σ H Q->t σ H Q):PA X e t':=λpos pins s σ H Q I q=>h pos pins s σ H Q I (i σ H Q q)
theorem L6{X:Cx}{e:Stmt}{t t':TS}(h:PS X e t)(i:∀D σ H,t' D σ H->t D σ H):PS X e t':=λpins s σ H D I q=>h pins s σ H D I (i D σ H q)
theorem b6U{X:Cx}{e:List Stmt}{t t':TS}(h:PSs X e t)(i:∀D σ H,t' D σ H->t D σ H):PSs X e t':=λpins s σ H D I q=>h pins s σ H D I (i D σ H q)
def mC(p:PV):M:=λ_=>ξ (.v p)
def a6(i:Nat):M:=λρ=>match ρ[i]? with
 |some (ξ (.ow c))=>ξ (.bo c)
 |some (ξ r)=>ξ r
 |_=>ζ
section
variable {X:Cx}{a b c:AF}{ma mb mc:M}{pos:Pos}
theorem a2a{e:AF}{v:V}{p:PV}(h:PE X e (tC v))(r:∀H,E7 X.K H p v):EE X e (mC p):=
 A2 h λσ H Q h0=>y6 h0 λF ρ q he hm k=>by
  cases hm;exact k v F H (A7.here he.fh (r F))
theorem a8{i j pos}:EE X (.Constant (.int i) j pos) (mC (.int i)):=a2a c4l λ_=>rfl
theorem c2F{b j pos}:EE X (.Constant (.bool b) j pos) (mC (.bool b)):=a2a c5u λ_=>rfl
theorem b5j{j pos}:EE X (.Constant .none j pos) (mC .none):=a2a c4n λ_=>rfl
theorem d9{x j pos}:EE X (.Constant (.str x) j pos) (mC (.str x)):=a2a c4q λ_=>rfl
theorem c3p(i:Nat){x:Str}{pos:Pos}(h:PE X (.Name x pos) (a0o i)):EE X (.Name x pos) (a6 i):=
 A2 h λσ H Q h0=>y6 h0 λF ρ r he hm k=>by
  unfold a6 at hm;split at hm
  ·rename_i ps e;cases hm;obtain⟨v,e1,rr⟩:=he.at_ i _ e;exact⟨v,e1,k v F H ⟨Ext.refl he.fh,rr,λ_ _ z=>nomatch z⟩⟩
  ·rename_i r' nn e;cases hm;obtain⟨v,e1,rr⟩:=he.at_ i _ e;exact⟨v,e1,k v F H ⟨Ext.refl he.fh,rr,λps _ z=>absurd z (nn ps)⟩⟩
  ·cases hm
def rM2(K:AE)(g:d5->d5->Υ d5):R2:=λx y H Q=>∃F rx ry rz,n0 F H/\R6 K F H x rx/\R6 K F H y ry/\g rx ry=ξ rz/\∀v F' H',A7 K F H F' H' v rz->Q v H'
abbrev OpM(X:Cx)(f:AA->AA->Sem AA)(g:d5->d5->Υ d5):Prop:=OpR X f (rM2 X.K g)
def m2(g:d5->d5->Υ d5)(ma mb:M):M:=λρ=>(ma ρ).bind λx=>(mb ρ).bind λy=>g x y
theorem bind_some{α β:Type}{o:Υ α}{f:α->Υ β}{b:β}(h:o.bind f=ξ b):∃a,o=ξ a/\f a=ξ b:=by
 cases o with
 |none=>cases h
 |some a=>exact⟨a,rfl,h⟩
theorem b3l{K:AE}{g:d5->d5->Υ d5}{σ:L2.St}{H:Hp}{Q:VK}(h:tM K (m2 g ma mb) σ H Q):tOp (rM2 K g) (tM K ma) (tM K mb) σ H Q:=by
 obtain⟨F,ρ,r,he,hm,k⟩:=h;obtain⟨rx,e1,hm⟩:=bind_some hm;obtain⟨ry,e2,hm⟩:=bind_some hm;exact⟨F,ρ,rx,he,e1,λv F1 H1 o1=>⟨F1,ρ,ry,he.ext o1.x,e2,λu F2 H2 o2=>⟨F2,rx,ry,r,o2.x.fh,o1.rep.ext o2.x,o2.rep,hm,λz F3 H3 o3=>k z F3 H3 (A7.trans (o1.x.trans o2.x) o3)⟩⟩⟩
theorem e9{op:Operator}{g:d5->d5->Υ d5}(ho:OpM X (binaryOp op) g)(ha:EE X a ma)(hb:EE X b mb):EE X (.BinOp a op b pos) (m2 g ma mb):=
 A2 (c5w ho ha hb) λ_ _ _ h=>b3l h
theorem c3m{op:CmpOp}{g:d5->d5->Υ d5}(ho:OpM X (compareOp op) g)(ha:EE X a ma)(hb:EE X b mb)(hm:behindInMarks op b=false):EE X (.Compare a [op] [b] pos) (m2 g ma mb):=
 A2 (c1V ho ha hb hm) λ_ _ _ h=>b3l h
theorem a7m{f:AA->AA->Sem AA}{r:R2}{g:d5->d5->Υ d5}(h:OpR X f r)
 (i:∀F H x y rx ry rz,n0 F H->R6 X.K F H x rx->R6 X.K F H y ry->g rx ry=ξ rz->∀Q:VK,(∀v F' H',A7 X.K F H F' H' v rz->Q v H')->r x y H Q):OpM X f g:=
 λpins s σ H x y v u Q I rx ry ⟨F,ra,rb,rz,s0,h1,h2,h3,k⟩=>h pins s σ H x y v u Q I rx ry (i F H x y ra rb rz s0 h1 h2 h3 Q k)
end
def gI(f:Int->Int->PV):d5->d5->Υ d5
 | .v (.int i),.v (.int j)=>ξ (.v (f i j))
 |_,_=>ζ
theorem b9P:∃f:(Int->Int->Prop)->Int->Int->Bool,∀C i j,f C i j=true↔C i j:=⟨λC i j=> @decide (C i j) (Classical.propDecidable _),λC i j=> @decide_eq_true_iff (C i j) (Classical.propDecidable _)⟩
def okC:(Int->Int->Prop)->Int->Int->Bool:=b9P.choose
theorem a1G{C:Int->Int->Prop}{i j:Int}:okC C i j=true↔C i j:=b9P.choose_spec C i j
def F9(C:Int->Int->Prop)[∀i j,Decidable (C i j)](f:Int->Int->PV):d5->d5->Υ d5
 | .v (.int i),.v (.int j)=>if okC C i j=true then ξ (.v (f i j)) else ζ
 |_,_=>ζ
abbrev Θ:=F9 (λ_ j=>0<j) λi j=> .int (i % j)
theorem b6y{f:Int->Int->PV}{rx ry rz:d5}(h:gI f rx ry=ξ rz):∃i j,rx= .v (.int i)/\ry= .v (.int j)/\rz= .v (f i j):=by
 unfold gI at h;split at h
 ·cases h;exact⟨_,_,rfl,rfl,rfl⟩
 ·cases h
theorem b86{C:Int->Int->Prop}[∀i j,Decidable (C i j)]{f:Int->Int->PV}{rx ry rz:d5}(h:F9 C f rx ry=ξ rz):∃i j,rx= .v (.int i)/\ry= .v (.int j)/\C i j/\rz= .v (f i j):=by
 unfold F9 at h;split at h
 ·split at h
  ·rename_i c;cases h;exact⟨_,_,rfl,rfl,a1G.mp c,rfl⟩
  ·cases h
 ·cases h
section
variable {X:Cx}
theorem c2U{f:AA->AA->Sem AA}{g:Int->Int->V}{g':Int->Int->PV}(h:OpR X f (rI0 g))(e:∀i j H,E7 X.K H (g' i j) (g i j)):OpM X f (gI g'):=
 a7m h λF H x y rx ry rz s h1 h2 h3 Q k=>by
  obtain⟨i,j,rfl,rfl,rfl⟩:=b6y h3;exact⟨i,j,h1,h2,k _ F H (A7.here s (e i j F))⟩
theorem b2Z{f:AA->AA->Sem AA}{C:Int->Int->Prop}[∀i j,Decidable (C i j)]{g:Int->Int->V}{g':Int->Int->PV}(h:OpR X f (rI C g))(e:∀i j H,E7 X.K H (g' i j) (g i j)):OpM X f (F9 C g'):=
 a7m h λF H x y rx ry rz s h1 h2 h3 Q k=>by
  obtain⟨i,j,rfl,rfl,c,rfl⟩:=b86 h3;exact⟨i,j,h1,h2,c,k _ F H (A7.here s (e i j F))⟩
end
mutual
def y8:PV->Nat->Bool
 | .list xs,n+1=>G4 xs n
 | .tuple xs,n+1=>G4 xs n
 | .list _,0=>false
 | .tuple _,0=>false
 | .dict _,_=>false
 | .none,_=>true
 | .bool _,_=>true
 | .int _,_=>true
 | .str _,_=>true
def G4:List PV->Nat->Bool
 |[],_=>true
 |x::xs,n=>y8 x n && G4 xs n
end
section
variable {X:Cx}{pins:List (AB×Obj)}{σ:L2.St}{H:Hp}{s:AC}
theorem a7S(I:l8 X pins σ H s){a:AB}{xs ys:List V}(h:SqL X.K H a xs)(h':SqT X.K H a ys):False:=by
 obtain⟨its,r,p,_⟩:=I.list h;obtain⟨its',r',p',_⟩:=I.tuple h';exact SeqAt.ne_of_list_tuple p.isList (show s.heap.IsTuple a its'.toArray from p') rfl
theorem c1F{K:AE}{F:Hp}{k p:PV}{r:List (PV×PV)}{y:Str}{m v:V}{fs:List (Str×V)}(h:b1V K F y m fs v)(hr:a4P K F ((k,p)::r) ((y,m)::fs)):k= .str y/\(p= .bool false\/p= .int 0)/\a4P K F r fs:=by
 obtain⟨f,w,t,e,z,q,hr⟩:=hr;cases e;refine⟨z, ?_,hr⟩;rcases h with⟨rfl,_⟩|⟨rfl,_⟩
 ·cases p with
  |bool b=>cases q;exact .inl rfl
  |tuple _=>obtain⟨_,_,e,_⟩:=q;cases e
  |list _=>obtain⟨_,_,e,_⟩:=q;cases e
  |dict _=>
   rcases q with⟨_,_,e,_⟩|⟨_,_,e,_⟩|⟨_,_,_,q⟩|⟨_,_,_,q,_⟩
   ·cases e
   ·cases e
   ·obtain⟨_,e⟩:=q.ref;cases e
   ·obtain⟨_,e⟩:=q.ref;cases e
  |_=>cases q
 ·cases p with
  |int b=>cases q;exact .inr rfl
  |tuple _=>obtain⟨_,_,e,_⟩:=q;cases e
  |list _=>obtain⟨_,_,e,_⟩:=q;cases e
  |dict _=>
   rcases q with⟨_,_,e,_⟩|⟨_,_,e,_⟩|⟨_,_,_,q⟩|⟨_,_,_,q,_⟩
   ·cases e
   ·cases e
   ·obtain⟨_,e⟩:=q.ref;cases e
   ·obtain⟨_,e⟩:=q.ref;cases e
  |_=>cases q
mutual
theorem E7.inj(I:l8 X pins σ H s):∀(p q:PV) {v:V} {n m:Nat},y8 p n=true->y8 q m=true->E7 X.K H p v->E7 X.K H q v->p=q
 | .tuple ps,q,v,n,m,hp,hq,⟨a,xs,e,h,r⟩,h'=>by
   subst e;cases q with
   |tuple qs=>
    obtain⟨a',xs',e',h',r'⟩:=h';cases e';cases I.tuple_inj h.sq h'.sq;cases n<;>cases m<;>simp only [y8,Ax] at hp hq
    rw [n6.inj I ps qs hp hq r r']
   |list qs=>obtain⟨a',xs',e',h',r'⟩:=h';cases e';exact(a7S I h' h.sq).elim
   |dict qs=>simp [y8] at hq
   |_=>cases h'
 | .list ps,q,v,n,m,hp,hq,⟨a,xs,e,h,r⟩,h'=>by
   subst e;cases q with
   |list qs=>
    obtain⟨a',xs',e',h',r'⟩:=h';cases e';cases I.list_inj h h';cases n<;>cases m<;>simp only [y8,Ax] at hp hq
    rw [n6.inj I ps qs hp hq r r']
   |tuple qs=>obtain⟨a',xs',e',h',r'⟩:=h';cases e';exact(a7S I h h'.sq).elim
   |dict qs=>simp [y8] at hq
   |_=>cases h'
 | .dict _,_,_,_,_,hp,_,_,_=>by simp [y8] at hp
 | .none,q,v,n,m,hp,hq,h,h'| .bool _,q,v,n,m,hp,hq,h,h'| .int _,q,v,n,m,hp,hq,h,h'| .str _,q,v,n,m,hp,hq,h,h'=>by
   cases h;cases q with
   |tuple _=>obtain⟨_,_,e,_⟩:=h';cases e
   |list _=>obtain⟨_,_,e,_⟩:=h';cases e
   |dict _=>simp [y8] at hq
   |_=>cases h'<;>rfl
theorem n6.inj(I:l8 X pins σ H s):∀(ps qs:List PV) {vs:List V} {n m:Nat},G4 ps n=true->G4 qs m=true->n6 X.K H ps vs->n6 X.K H qs vs->ps=qs
 |[],qs,vs,n,m,_,_,h,h'=>by
  cases h;cases qs with
  |nil=>rfl
  |cons q qs=>obtain⟨_,_,e,_⟩:=h';cases e
 |p::ps,qs,vs,n,m,hp,hq,⟨v,r,e,h,t⟩,h'=>by
  subst e;cases qs with
  |nil=>cases h'
  |cons q qs=>
   obtain⟨v',r',e',h',t'⟩:=h';cases e';simp only [G4,χ] at hp hq;rw [E7.inj I p q hp.1 hq.1 h h',n6.inj I ps qs hp.2 hq.2 t t']
end
end
mutual
theorem b8R:∀(p:PV) (n:Nat),y8 p n=true->η p p=true
 | .none,_,_=>by simp [η]
 | .bool _,_,_=>by simp [η]
 | .int _,_,_=>by simp [η]
 | .str _,_,_=>by simp [η]
 | .list xs,n+1,h=>by simp only [η];exact a2c xs n (by simpa [y8] using h)
 | .tuple xs,n+1,h=>by simp only [η];exact a2c xs n (by simpa [y8] using h)
 | .list xs,0,h=>by simp [y8] at h
 | .tuple xs,0,h=>by simp [y8] at h
 | .dict _,_,h=>by simp [y8] at h
theorem a2c:∀(ps:List PV) (n:Nat),G4 ps n=true->θ ps ps=true
 |[],_,_=>by simp [θ]
 |x::xs,n,h=>by
  have h':y8 x n=true/\G4 xs n=true:=by simpa [G4] using h
  simp only [θ,b8R x n h'.1,a2c xs n h'.2,Bool.and_self]
end
def eAt(ps qs:List PV)(j:Nat):Bool:=match ps[j]?,qs[j]? with
 |some p,ξ q=>η p q
 |_,_=>false
theorem a0D:∀(ps qs:List PV),θ ps qs=((AZ (min ps.length qs.length)).all (eAt ps qs)&& ps.length==qs.length)
 |[],[]=>by simp [θ]
 |[],_::_=>by simp [θ]
 |_::_,[]=>by simp [θ]
 |p::ps,q::qs=>by
  have e:min (p::ps).length (q::qs).length=min ps.length qs.length+1:=by simp only [AV];lia
  rw [e,List.range_succ_eq_map,List.all_cons,List.all_map];have h0:eAt (p::ps) (q::qs) 0=η p q:=rfl;have h1:(eAt (p::ps) (q::qs)∘Nat.succ)=eAt ps qs:=by funext j;simp [eAt,Function.comp]
  rw [h0,h1];simp only [θ,a0D ps qs,AV,Bool.and_assoc];have e2:(ps.length+1==qs.length+1)=(ps.length==qs.length):=by
   rw [Bool.eq_iff_iff];simp
  rw [e2]
section
variable {X:Cx}{pins:List (AB×Obj)}{σ:L2.St}{H:Hp}{s:AC}
structure b8p(A:AK)(s:AC)(u w:AA)(b:Bool):Prop where
 rc:SeqAt.RcAt A s u w b
 ne:SeqAt.RcNeAt A s u w (!b)
 eq:SeqAt.EqAt A s u w b
theorem b1g(A:AK):A.in1.units=A.units+1:=rfl
theorem b7h{xs:List V}{its:List AA}{j:Nat}(r:v9 xs its)(h:j<its.length):∃x,xs[j]?=ξ x/\u0 x its[j]:=by
 have hx:j<xs.length:=by rw [r.length];exact h
 obtain⟨u,h1,h2⟩:=r.get (i:=j) (x:=xs[j]) (by simp [hx])
 rw [Ap h] at h1;cases h1;exact⟨xs[j],by simp [hx],h2⟩
theorem b4S{A:AK}{ps qs:List PV}{xs ys:List V}{its its2:List AA}(r:n6 X.K H ps xs)(r':n6 X.K H qs ys)(rv:v9 xs its)(rv':v9 ys its2)
 (ih:∀p q x y u w,p∈ps->q∈qs->E7 X.K H p x->E7 X.K H q y->u0 x u->u0 y w->b8p A s u w (η p q)):
 ∀j (h1:j<its.toArray.size) (h2:j<its2.toArray.size),SeqAt.EqAt A s its.toArray[j] its2.toArray[j] (eAt ps qs j):=by
 intro j h1 h2
 have h1':j<its.length:=by simpa using h1
 have h2':j<its2.length:=by simpa using h2
 obtain⟨x,ex,rx⟩:=b7h rv h1'
 obtain⟨y,ey,ry⟩:=b7h rv' h2'
 obtain⟨p,ep,hp⟩:=r.getV ex
 obtain⟨q,eq,hq⟩:=r'.getV ey
 have:eAt ps qs j=η p q:=by simp [eAt,ep,eq]
 rw [this]
 have z:=(ih p q x y _ _ (BA ep) (BA eq) hp hq rx ry).eq
 simpa using z
theorem W7:∀{ps:List PV} {n:Nat} {p:PV},G4 ps n=true->p∈ps->y8 p n=true
 |[],_,_,_,h=>by cases h
 |x::xs,n,p,h,hp=>by
  have h':y8 x n=true/\G4 xs n=true:=by simpa [G4] using h
  rcases AX.mp hp with rfl|hp
  ·exact h'.1
  ·exact W7 h'.2 hp
theorem b5m(I:l8 X pins σ H s):∀(n:Nat) (A:AK) (p q:PV) (x y:V) (u w:AA),A.units+n<cLine->y8 p n=true->y8 q n=true->E7 X.K H p x->E7 X.K H q y->u0 x u->u0 y w->b8p A s u w (η p q):=by
 intro n
 induction n with
 |zero=>
  intro A p q x y u w hu hp hq rp rq rx ry;cases p with
  |none=>
   cases rp;cases rx;cases q with
   |none=>cases rq;cases ry;simp only [η];exact⟨.none_none,.none_none,.same _⟩
   |bool j=>cases rq;cases ry;simp only [η];exact⟨.none_bool _,.none_bool _,.none_bool _⟩
   |int j=>cases rq;obtain⟨ty,rfl⟩:=ry;simp only [η];exact⟨.none_int _ _,.none_int _ _,.none_int _ _⟩
   |str j=>cases rq;obtain⟨ty,rfl⟩:=ry;simp only [η];exact⟨.none_str _ _,.none_str _ _,.none_str _ _⟩
   |dict _=>simp [y8] at hq
   |list _=>simp [y8] at hq
   |tuple _=>simp [y8] at hq
  |bool i=>
   cases rp;cases rx;cases q with
   |none=>cases rq;cases ry;simp only [η];exact⟨.bool_none _,.bool_none _,.bool_none _⟩
   |bool j=>cases rq;cases ry;simp only [η];exact⟨.bool_bool _ _,.bool_bool _ _,.bool_bool _ _⟩
   |int j=>cases rq;obtain⟨ty,rfl⟩:=ry;simp only [η];exact⟨.bool_int _ _ _,.bool_int _ _ _,.bool_int _ _ _⟩
   |str j=>cases rq;obtain⟨ty,rfl⟩:=ry;simp only [η];exact⟨.bool_str _ _ _,.bool_str _ _ _,.bool_str _ _ _⟩
   |dict _=>simp [y8] at hq
   |list _=>simp [y8] at hq
   |tuple _=>simp [y8] at hq
  |int i=>
   cases rp;obtain⟨tx,rfl⟩:=rx;cases q with
   |none=>cases rq;cases ry;simp only [η];exact⟨.int_none _ _,.int_none _ _,.int_none _ _⟩
   |bool j=>cases rq;cases ry;simp only [η];exact⟨.int_bool _ _ _,.int_bool _ _ _,.int_bool _ _ _⟩
   |int j=>cases rq;obtain⟨ty,rfl⟩:=ry;simp only [η];exact⟨.int_int _ _ _ _,.int_int _ _ _ _,.int_int _ _ _ _⟩
   |str j=>cases rq;obtain⟨ty,rfl⟩:=ry;simp only [η];exact⟨.int_str _ _ _ _,.int_str _ _ _ _,.int_str _ _ _ _⟩
   |dict _=>simp [y8] at hq
   |list _=>simp [y8] at hq
   |tuple _=>simp [y8] at hq
  |str i=>
   cases rp;obtain⟨tx,rfl⟩:=rx;cases q with
   |none=>cases rq;cases ry;simp only [η];exact⟨.str_none _ _,.str_none _ _,.str_none _ _⟩
   |bool j=>cases rq;cases ry;simp only [η];exact⟨.str_bool _ _ _,.str_bool _ _ _,.str_bool _ _ _⟩
   |int j=>cases rq;obtain⟨ty,rfl⟩:=ry;simp only [η];exact⟨.str_int _ _ _ _,.str_int _ _ _ _,.str_int _ _ _ _⟩
   |str j=>cases rq;obtain⟨ty,rfl⟩:=ry;simp only [η];exact⟨.str_str _ _ _ _,.str_str _ _ _ _,.str_str _ _ _ _⟩
   |dict _=>simp [y8] at hq
   |list _=>simp [y8] at hq
   |tuple _=>simp [y8] at hq
  |dict _=>simp [y8] at hp
  |list _=>simp [y8] at hp
  |tuple _=>simp [y8] at hp
 |succ n ih=>
  intro A p q x y u w hu hp hq rp rq rx ry;have hu0:A.units<cLine:=by lia
  have hu1:A.in1.units+n<cLine:=by rw [b1g];lia
  cases p with
  |dict _=>simp [y8] at hp
  |list ps=>
   obtain⟨a,xs,rfl,hs,r⟩:=rp;cases rx;obtain⟨its,rv,pl,hz⟩:=I.list hs;have okp:G4 ps n=true:=by simpa [y8] using hp
   cases q with
   |dict _=>simp [y8] at hq
   |list qs=>
    obtain⟨b,ys,rfl,hs',r'⟩:=rq;cases ry;obtain⟨its2,rv',pl',hz'⟩:=I.list hs';have okq:G4 qs n=true:=by simpa [y8] using hq
    have hle:its.toArray.size=ps.length:=by rw [<-r.length,rv.length];simp
    have hle':its2.toArray.size=qs.length:=by rw [<-r'.length,rv'.length];simp
    ext ae
    have main:SeqAt.RcAt A s (.ref a) (.ref b) (θ ps qs)/\SeqAt.RcNeAt A s (.ref a) (.ref b) (!θ ps qs):=by
     by_cases e:its.toArray.size=its2.toArray.size
     ·have el:ps.length=qs.length:=by rw [<-hle,<-hle',e]
      have e3:θ ps qs=(AZ its.toArray.size).all (eAt ps qs):=by
       rw [a0D,el,Nat.min_self,hle,el];simp
      rw [e3];exact⟨.lists pl.isList pl'.isList e hu0 he,.lists pl.isList pl'.isList e hu0 he⟩
     ·have e3:θ ps qs=false:=by
       rw [a0D];have:(ps.length==qs.length)=false:=by
        rw [beq_eq_false_iff_ne];intro z;exact e (by rw [hle,hle',z])
       rw [this,Bool.and_false]
      have e4:(its.toArray.size !=its2.toArray.size)=true:=by simpa using e
      rw [e3];exact⟨.lists_lengths pl.isList pl'.isList e4 hu0,.lists_lengths pl.isList pl'.isList e4 hu0⟩
    refine⟨main.1,main.2, ?_⟩
    by_cases hab:a=b
    ·subst hab;cases I.list_inj hs hs';cases n6.inj I ps qs okp okq r r';rw [a2c ps n okp];exact .same _
    ·exact .of_refs hab main.1
   |tuple qs=>
    obtain⟨b,ys,rfl,hs',r'⟩:=rq;cases ry;obtain⟨its2,rv',pl',hz'⟩:=I.tuple hs'.sq;simp only [η];exact⟨.list_tuple pl.isList pl' hu0,.list_tuple pl.isList pl' hu0,.list_tuple pl.isList pl' hu0⟩
   |none=>cases rq;cases ry;simp only [η];exact⟨.list_none pl.isList hu0,.list_none pl.isList hu0,.list_none pl.isList hu0⟩
   |bool k=>cases rq;cases ry;simp only [η];exact⟨.list_bool _ pl.isList hu0,.list_bool _ pl.isList hu0,.list_bool _ pl.isList hu0⟩
   |int k=>cases rq;obtain⟨t,rfl⟩:=ry;simp only [η];exact⟨.list_int _ _ pl.isList hu0,.list_int _ _ pl.isList hu0,.list_int _ _ pl.isList hu0⟩
   |str k=>cases rq;obtain⟨t,rfl⟩:=ry;simp only [η];exact⟨.list_str _ _ pl.isList hu0,.list_str _ _ pl.isList hu0,.list_str _ _ pl.isList hu0⟩
  |tuple ps=>
   obtain⟨a,xs,rfl,hs,r⟩:=rp;cases rx;obtain⟨its,rv,pl,hz⟩:=I.tuple hs.sq;have okp:G4 ps n=true:=by simpa [y8] using hp
   cases q with
   |dict _=>simp [y8] at hq
   |tuple qs=>
    obtain⟨b,ys,rfl,hs',r'⟩:=rq;cases ry;obtain⟨its2,rv',pl',hz'⟩:=I.tuple hs'.sq;have okq:G4 qs n=true:=by simpa [y8] using hq
    have hle:its.toArray.size=ps.length:=by rw [<-r.length,rv.length];simp
    have hle':its2.toArray.size=qs.length:=by rw [<-r'.length,rv'.length];simp
    ext ae
    have e3:θ ps qs=((AZ (min its.toArray.size its2.toArray.size)).all (eAt ps qs)&& its.toArray.size==its2.toArray.size):=by
     rw [a0D,hle,hle']
    have main:SeqAt.RcAt A s (.ref a) (.ref b) (θ ps qs)/\SeqAt.RcNeAt A s (.ref a) (.ref b) (!θ ps qs):=by
     rw [e3];exact⟨.tuples pl pl' hu0 he,.tuples pl pl' hu0 he⟩
    refine⟨main.1,main.2, ?_⟩
    by_cases hab:a=b
    ·subst hab;cases I.tuple_inj hs.sq hs'.sq;cases n6.inj I ps qs okp okq r r';rw [a2c ps n okp];exact .same _
    ·exact .of_refs hab main.1
   |list qs=>
    obtain⟨b,ys,rfl,hs',r'⟩:=rq;cases ry;obtain⟨its2,rv',pl',hz'⟩:=I.list hs';simp only [η];exact⟨.tuple_list pl pl'.isList hu0,.tuple_list pl pl'.isList hu0,.tuple_list pl pl'.isList hu0⟩
   |none=>cases rq;cases ry;simp only [η];exact⟨.tuple_none pl hu0,.tuple_none pl hu0,.tuple_none pl hu0⟩
   |bool k=>cases rq;cases ry;simp only [η];exact⟨.tuple_bool _ pl hu0,.tuple_bool _ pl hu0,.tuple_bool _ pl hu0⟩
   |int k=>cases rq;obtain⟨t,rfl⟩:=ry;simp only [η];exact⟨.tuple_int _ _ pl hu0,.tuple_int _ _ pl hu0,.tuple_int _ _ pl hu0⟩
   |str k=>cases rq;obtain⟨t,rfl⟩:=ry;simp only [η];exact⟨.tuple_str _ _ pl hu0,.tuple_str _ _ pl hu0,.tuple_str _ _ pl hu0⟩
  |none=>
   cases q with
   |list qs=>
    obtain⟨b,ys,rfl,hs',r'⟩:=rq;cases ry;obtain⟨its2,rv',pl',hz'⟩:=I.list hs';cases rp;cases rx;simp only [η];exact⟨.none_list pl'.isList hu0,.none_list pl'.isList hu0,.none_list pl'.isList hu0⟩
   |tuple qs=>
    obtain⟨b,ys,rfl,hs',r'⟩:=rq;cases ry;obtain⟨its2,rv',pl',hz'⟩:=I.tuple hs'.sq;cases rp;cases rx;simp only [η];exact⟨.none_tuple pl' hu0,.none_tuple pl' hu0,.none_tuple pl' hu0⟩
   |dict _=>simp [y8] at hq
   |_=>exact ih A _ _ x y u w (by lia) (by simp [y8]) (by simp [y8]) rp rq rx ry
  |bool k=>
   cases q with
   |list qs=>
    obtain⟨b,ys,rfl,hs',r'⟩:=rq;cases ry;obtain⟨its2,rv',pl',hz'⟩:=I.list hs';cases rp;cases rx;simp only [η];exact⟨.bool_list _ pl'.isList hu0,.bool_list _ pl'.isList hu0,.bool_list _ pl'.isList hu0⟩
   |tuple qs=>
    obtain⟨b,ys,rfl,hs',r'⟩:=rq;cases ry;obtain⟨its2,rv',pl',hz'⟩:=I.tuple hs'.sq;cases rp;cases rx;simp only [η];exact⟨.bool_tuple _ pl' hu0,.bool_tuple _ pl' hu0,.bool_tuple _ pl' hu0⟩
   |dict _=>simp [y8] at hq
   |_=>exact ih A _ _ x y u w (by lia) (by simp [y8]) (by simp [y8]) rp rq rx ry
  |int k=>
   cases q with
   |list qs=>
    obtain⟨b,ys,rfl,hs',r'⟩:=rq;cases ry;obtain⟨its2,rv',pl',hz'⟩:=I.list hs';cases rp;obtain⟨t,rfl⟩:=rx;simp only [η];exact⟨.int_list _ _ pl'.isList hu0,.int_list _ _ pl'.isList hu0,.int_list _ _ pl'.isList hu0⟩
   |tuple qs=>
    obtain⟨b,ys,rfl,hs',r'⟩:=rq;cases ry;obtain⟨its2,rv',pl',hz'⟩:=I.tuple hs'.sq;cases rp;obtain⟨t,rfl⟩:=rx;simp only [η];exact⟨.int_tuple _ _ pl' hu0,.int_tuple _ _ pl' hu0,.int_tuple _ _ pl' hu0⟩
   |dict _=>simp [y8] at hq
   |_=>exact ih A _ _ x y u w (by lia) (by simp [y8]) (by simp [y8]) rp rq rx ry
  |str k=>
   cases q with
   |list qs=>
    obtain⟨b,ys,rfl,hs',r'⟩:=rq;cases ry;obtain⟨its2,rv',pl',hz'⟩:=I.list hs';cases rp;obtain⟨t,rfl⟩:=rx;simp only [η];exact⟨.str_list _ _ pl'.isList hu0,.str_list _ _ pl'.isList hu0,.str_list _ _ pl'.isList hu0⟩
   |tuple qs=>
    obtain⟨b,ys,rfl,hs',r'⟩:=rq;cases ry;obtain⟨its2,rv',pl',hz'⟩:=I.tuple hs'.sq;cases rp;obtain⟨t,rfl⟩:=rx;simp only [η];exact⟨.str_tuple _ _ pl' hu0,.str_tuple _ _ pl' hu0,.str_tuple _ _ pl' hu0⟩
   |dict _=>simp [y8] at hq
   |_=>exact ih A _ _ x y u w (by lia) (by simp [y8]) (by simp [y8]) rp rq rx ry
end
set_option maxHeartbeats 1000000
instance (i j:Int):Decidable (b4W i j):=by unfold b4W;infer_instance
instance (i j:Int):Decidable (a93 i j):=by unfold a93;infer_instance
abbrev Ω:=F9 a93 λi j=> .int (i / j)
instance (i j:Int):Decidable (b7i i j):=by unfold b7i;infer_instance
def d5.mine:d5->Υ (List PV)
 | .ow (.lst ps)=>ξ ps
 | .bo (.lst ps)=>ξ ps
 |_=>ζ
theorem b4b{K:AE}{F H:Hp}{v:V}{r:d5}{ps:List PV}(h:R6 K F H v r)(e:r.mine=ξ ps):∃a xs,v= .ref a/\F a=ζ/\H a=ξ (.lst xs)/\n6 K F ps xs:=by
 cases r with
 |v _=>cases e
 |ow c=>cases c<;>cases e;exact h
 |bo c=>cases c<;>cases e;exact h
def y9(x y:d5):Υ d5:=match x,y with
 | .v (.int i),.v (.int j)=>ξ (.v (.int (i+j)))
 | .v (.str i),.v (.str j)=>if i.length+j.length<=AO then ξ (.v (.str (i++j))) else ζ
 | .v (.tuple ps),.v (.tuple qs)=>if(ps.length≠0/\qs.length≠0)/\ps.length+qs.length<=AO then ξ (.v (.tuple (ps++qs))) else ζ
 |x,y=>match x.mine,y.mine with
  |some ps,ξ qs=>if ps.length+qs.length<=AO then ξ (.own (ps++qs)) else ζ
  |_,_=>ζ
section
variable {X:Cx}
theorem m9:OpM X (binaryOp .Add) y9:=by
 ext d
 unfold y9 at h3;split at h3
 ·ext ah
  exact c38 pins s σ H _ _ v u Q I rx ry ⟨_,_,rfl,rfl,k _ F H (A7.here s0 rfl)⟩
 ·rename_i i j;split at h3
  ·rename_i c
   ext ah
   exact b5O pins s σ H _ _ v u Q I rx ry ⟨i,j,rfl,rfl,c,k _ F H (A7.here s0 rfl)⟩
  ·cases h3
 ·rename_i ps qs;split at h3
  ·rename_i c;cases h3;obtain⟨a,xs,rfl,hq,r⟩:=h1;obtain⟨b,ys,rfl,hq',r'⟩:=h2;refine c1J pins s σ H _ _ v u Q I rx ry ⟨a,b,xs,ys,rfl,rfl,B3 s0 hq.sq,B3 s0 hq'.sq, ?_,by rw [r.length,r'.length];exact c.2, ?_⟩
   ·intro z;subst z;exact c.1.1 r.length.symm
   ·refine⟨λz=> ?_,λ_ p hp=>k _ _ _ (A7.tup s0 hp (r.append r'))⟩;subst z;exact absurd r'.length.symm c.1.2
  ·cases h3
 ·split at h3
  ·rename_i ps qs e1 e2;split at h3
   ·rename_i c;cases h3;obtain⟨a,xs,rfl,_,hq,r⟩:=b4b h1 e1;obtain⟨b,ys,rfl,_,hq',r'⟩:=b4b h2 e2;refine c39 pins s σ H _ _ v u Q I rx ry ⟨a,b,xs,ys,rfl,rfl,hq,hq',by rw [r.length,r'.length];exact c,λp hp=> ?_⟩
    exact k _ _ _ (A7.lst s0 hp (r.append r'))
   ·cases h3
  ·cases h3
theorem R1:OpM X (binaryOp .Sub) (gI λi j=> .int (i - j)):=c2U c4f λ_ _ _=>rfl
theorem c1Q:OpM X (binaryOp .Mult) (F9 b4W λi j=> .int (i*j)):=b2Z c4c λ_ _ _=>rfl
theorem t6:OpM X (binaryOp .Mod) Θ:=b2Z c4b λ_ _ _=>rfl
theorem b4u:OpM X (binaryOp .FloorDiv) Ω:=b2Z c1K λ_ _ _=>rfl
theorem c1R:OpM X (binaryOp .Pow) (F9 b7i λi j=> .int (i ^ j.toNat)):=b2Z c4d λ_ _ _=>rfl
theorem a7l:OpM X (compareOp .Gt) (gI λi j=> .bool (decide (j<i))):=c2U c5p λ_ _ _=>rfl
def D4(x y:d5):Υ d5:=if y8 x.rd 50=true/\y8 y.rd 50=true then ξ (.v (.bool (η x.rd y.rd))) else ζ
def gNe(x y:d5):Υ d5:=if y8 x.rd 50=true/\y8 y.rd 50=true then ξ (.v (.bool (!η x.rd y.rd))) else ζ
theorem k9(hu:X.A.units+64<cLine):OpM X (compareOp .Eq) D4:=by
 ext d
 unfold D4 at h3;split at h3
 ·rename_i c;cases h3;have z:=b5m I 50 X.A _ _ x y v u (by lia) c.1 c.2 (h1.rd s0) (h2.rd s0) rx ry
  exact z.rc _ _ _ _ ⟨.bl _,H,I,rfl,k _ F H (A7.here s0 rfl)⟩
 ·cases h3
theorem a4a(hu:X.A.units+64<cLine):OpM X (compareOp .NotEq) gNe:=by
 ext d
 unfold gNe at h3;split at h3
 ·rename_i c;cases h3;have z:=b5m I 50 X.A _ _ x y v u (by lia) c.1 c.2 (h1.rd s0) (h2.rd s0) rx ry
  exact z.ne _ _ _ _ ⟨.bl _,H,I,rfl,k _ F H (A7.here s0 rfl)⟩
 ·cases h3
open Classical in
def b0l(K:AE)(H:Hp)(q:PV)(u:AA):Bool:=if h:∃p v,u0 v u/\E7 K H p v/\y8 p 50=true then η h.choose q else false
theorem b6m{pins:List (AB×Obj)}{σ:L2.St}{H:Hp}{s:AC}(I:l8 X pins σ H s){p q:PV}{v:V}{u:AA}(r:u0 v u)(h:E7 X.K H p v)(ok:y8 p 50=true):b0l X.K H q u=η p q:=by
 have hx:∃p v,u0 v u/\E7 X.K H p v/\y8 p 50=true:=⟨p,v,r,h,ok⟩;unfold b0l;rw [dif_pos hx];obtain⟨v',r',h',o'⟩:=hx.choose_spec;cases r.inj r';rw [E7.inj I _ _ o' ok h' h]
theorem a8A{pins:List (AB×Obj)}{σ:L2.St}{H:Hp}{s:AC}(I:l8 X pins σ H s){q:PV}:∀{ps:List PV} {xs:List V} {us:List AA},n6 X.K H ps xs->v9 xs us->G4 ps 50=true->us.any (b0l X.K H q)=ps.any λp=>η p q
 |[],_,_,r,v,_=>by cases r;cases v;rfl
 |p::ps,_,_,⟨x,r,e,h,t⟩,v,ok=>by
  simp only [G4,χ] at ok;subst e;cases v with
  |cons a b=>rw [List.any_cons,List.any_cons,b6m I a h ok.1,a8A I t b ok.2]
theorem b6N{H:Hp}:∀{ps:List PV} {xs:List V} {us:List AA} {u:AA},n6 X.K H ps xs->v9 xs us->u∈us->∃p x,p∈ps/\u0 x u/\E7 X.K H p x
 |[],_,_,_,r,v,h=>by cases r;cases v;cases h
 |p::ps,_,_,u,⟨x,r,e,hp,t⟩,v,h=>by
  subst e;cases v with
  |cons a b=>
   rcases AX.mp h with rfl|h
   ·exact⟨p,x,AU,a,hp⟩
   ·obtain⟨p',x',h1,h2,h3⟩:=b6N t b h;exact⟨p',x',Ab _ h1,h2,h3⟩
def PyData.items?:PV->Υ (List PV)
 | .list ps=>ξ ps
 | .tuple ps=>ξ ps
 |_=>ζ
def gIn(neg:Bool)(x y:d5):Υ d5:=match PyData.items? y.rd with
 |some ps=>if y8 x.rd 50=true/\G4 ps 50=true then ξ (.v (.bool (if neg then !(ps.any λp=>η p x.rd) else ps.any λp=>η p x.rd))) else ζ
 |none=>ζ
theorem b30{pins:List (AB×Obj)}{σ:L2.St}{H:Hp}{s:AC}(I:l8 X pins σ H s)(hu:X.A.units+64<cLine){q:PV}{ps:List PV}{x:V}{xs:List V}{v:AA}{us:List AA}(hq:y8 q 50=true)(hp:G4 ps 50=true)
 (rq:E7 X.K H q x) (rx:u0 x v) (r:n6 X.K H ps xs) (rv:v9 xs us):∀y,y∈us.toArray->SeqAt.EqAt X.A.in1 s y v (b0l X.K H q y):=by
 intro y hy
 have hy':y∈us:=by simpa using hy
 obtain⟨p,z,h1,h2,h3⟩:=b6N r rv hy'
 rw [b6m I h2 h3 (W7 hp h1)]
 exact(b5m I 50 X.A.in1 p q z x y v (by rw [b1g];lia) (W7 hp h1) hq h3 rq h2 rx).eq
theorem a0J{F H:Hp}{v:V}{r:d5}{ps:List PV}(s0:n0 F H)(h:R6 X.K F H v r)(e:PyData.items? r.rd=ξ ps):∃a xs,v= .ref a/\(SqL X.K H a xs\/SqT X.K H a xs)/\n6 X.K F ps xs:=by
 cases r with
 |v p=>
  cases p with
  |list qs=>cases e;obtain⟨a,xs,rfl,hq,r⟩:=h;exact⟨a,xs,rfl,.inl (J2 s0 hq),r⟩
  |tuple qs=>cases e;obtain⟨a,xs,rfl,hq,r⟩:=h;exact⟨a,xs,rfl,.inr (B3 s0 hq.sq),r⟩
  |_=>cases e
 |ow c=>cases c<;>cases e;obtain⟨a,xs,rfl,_,hq,r⟩:=h;exact⟨a,xs,rfl,.inl (SqL.of hq),r⟩
 |bo c=>cases c<;>cases e;obtain⟨a,xs,rfl,_,hq,r⟩:=h;exact⟨a,xs,rfl,.inl (SqL.of hq),r⟩
theorem c4g(hu:X.A.units+64<cLine):OpM X (compareOp .In) (gIn false):=by
 ext d
 unfold gIn at h3;split at h3
 ·rename_i ps e;split at h3
  ·rename_i c;cases h3;obtain⟨a,xs,rfl,hq,r⟩:=a0J s0 h2 e;cases ry;have rH:=n6.mono s0 _ r;rcases hq with hq|hq
   ·obtain⟨its,rv,pl,hz⟩:=I.list hq;refine SeqAt.in_listAt (b0l X.K H ra.rd) pl.isList (b30 I hu c.1 c.2 (h1.rd s0) rx rH rv) ⟨.bl _,H,I,rfl, ?_⟩;rw [show its.toArray.any (b0l X.K H ra.rd)=its.any (b0l X.K H ra.rd) by simp,a8A I rH rv c.2]
    exact k _ F H (A7.here s0 rfl)
   ·obtain⟨its,rv,pl,hz⟩:=I.tuple hq;refine SeqAt.in_tupleAt (b0l X.K H ra.rd) pl (b30 I hu c.1 c.2 (h1.rd s0) rx rH rv) ⟨.bl _,H,I,rfl, ?_⟩;rw [show its.toArray.any (b0l X.K H ra.rd)=its.any (b0l X.K H ra.rd) by simp,a8A I rH rv c.2]
    exact k _ F H (A7.here s0 rfl)
  ·cases h3
 ·cases h3
def c3A(neg:Bool)(x y:d5):Υ d5:=match y with
 | .v .none=>(match x.rd with
   | .none=>ξ (.v (.bool (!neg)))
   |_=>ξ (.v (.bool neg)))
 |_=>ζ
def PyData.isNone:PV->Bool
 | .none=>true
 |_=>false
theorem c19{K:AE}{H:Hp}{p:PV}{v:V}(h:E7 K H p v):decide (v=V.non)=PyData.isNone p:=by
 cases p with
 |none=>cases h;rfl
 |bool _=>cases h;rfl
 |int _=>cases h;rfl
 |str _=>cases h;rfl
 |list _=>obtain⟨_,_,rfl,_⟩:=h;rfl
 |tuple _=>obtain⟨_,_,rfl,_⟩:=h;rfl
 |dict _=>
  rcases h with⟨_,_,rfl,_⟩|⟨_,_,rfl,_⟩|⟨_,_,_,h⟩|⟨_,_,_,h,_⟩
  ·rfl
  ·rfl
  ·obtain⟨_,rfl⟩:=h.ref;rfl
  ·obtain⟨_,rfl⟩:=h.ref;rfl
theorem c1O:OpM X (compareOp .Is) (c3A false):=
 a7m c4a λF H x y rx ry rz s0 h1 h2 h3 Q k=>by
  unfold c3A at h3;split at h3
  ·cases h2;have e:=c19 (h1.rd s0);refine⟨rfl, ?_⟩;rw [e];cases hp:rx.rd<;>rw [hp] at h3<;>cases h3<;>exact k _ F H (A7.here s0 rfl)
  ·cases h3
def R8(m:M):M:=λρ=>(m ρ).bind λr=>match r with
 | .v (.int i)=>ξ (.v (.int (-i)))
 |_=>ζ
theorem a00{a:AF}{ma:M}{pos:Pos}(ha:EE X a ma):EE X (.UnaryOp .USub a pos) (R8 ma):=
 A2 (c5x c4S ha) λσ H Q h0=>y6 h0 λF ρ r he hm k=>by
  obtain⟨rx,e1,hm⟩:=bind_some hm;refine⟨F,ρ,rx,he,e1,λv F1 H1 o1=> ?_⟩;split at hm
  ·cases hm;exact⟨_,o1.rep,k _ F1 H1 (A7.trans o1.x (A7.here o1.x.fh rfl))⟩
  ·cases hm
def j7(x y:d5):Υ d5:=match y with
 | .v (.int i)=>(match x.rd with
   | .str z=>if z.length<=AO then(atI z.cps.toList i).map λc=> .v (.str ⟨#[c]⟩) else ζ
   |p=>match PyData.items? p with
    |some ps=>(atI ps i).map .v
    |none=>ζ)
 |_=>ζ
theorem n6.atI{K:AE}{H:Hp}{ps:List PV}{xs:List V}{i:Int}{p:PV}(r:n6 K H ps xs)(e:L2.atI ps i=ξ p):∃v,L2.atI xs i=ξ v/\E7 K H p v:=by
 unfold L2.atI at e ⊢;rw [r.length];obtain⟨j,e1,e2⟩:=bind_some e;rw [e1];exact r.get e2
theorem ixm:IxR X (rM2 X.K j7):=by
 intro value slice pins s σ H x y v u Q I rx ry h hs;obtain⟨F,ra,rb,rz,s0,h1,h2,h3,k⟩:=h;unfold j7 at h3;split at h3
 ·rename_i i;cases h2;split at h3
  ·rename_i z ez;split at h3
   ·rename_i c;have rr:=h1.rd s0;rw [ez] at rr;cases rr;cases ea:L2.atI z.cps.toList i with
    |none=>rw [ea] at h3;cases h3
    |some ch=>
     rw [ea] at h3;cases h3;exact c3K value slice pins s σ H _ _ v u Q I rx ry ⟨z,i,ch,rfl,rfl,c,ea,k _ F H (A7.here s0 rfl)⟩ hs
   ·cases h3
  ·split at h3
   ·rename_i ps e;cases ea:L2.atI ps i with
    |none=>rw [ea] at h3;cases h3
    |some p=>
     rw [ea] at h3;cases h3;obtain⟨a,xs,rfl,hq,r⟩:=a0J s0 h1 e;obtain⟨z,ez,rp⟩:=r.atI ea;rcases hq with hq|hq
     ·exact c1p value slice pins s σ H _ _ v u Q I rx ry ⟨a,xs,i,z,rfl,rfl,hq,ez,k _ F H (A7.here s0 rp)⟩ hs
     ·exact c3L value slice pins s σ H _ _ v u Q I rx ry ⟨a,xs,i,z,rfl,rfl,hq,ez,k _ F H (A7.here s0 rp)⟩ hs
   ·cases h3
 ·cases h3
theorem d8{a b:AF}{ma mb:M}{pos:Pos}(ha:EE X a ma)(hb:EE X b mb)(hs:b6d b:=by intro _ _;rfl):EE X (.Subscript a b pos) (m2 j7 ma mb):=
 A2 (c5v ixm ha hb hs) λ_ _ _ h=>b3l h
abbrev MA:=b7->Υ (List PV)
def tMA(K:AE)(m:MA):TA:=λσ H Q=>∃F ρ ps,M9 K F H σ ρ/\m ρ=ξ ps/\∀vs F' H',Ext F H F' H'->n6 K F' ps vs->Q vs H'
abbrev EA(X:Cx)(es:List AF)(m:MA):Prop:=PA X es (tMA X.K m)
def b5:MA:=λ_=>ξ []
def a4(m:M)(r:MA):MA:=λρ=>((m ρ).bind d5.toVal).bind λp=>(r ρ).bind λps=>ξ (p::ps)
theorem b8:EA X [] b5:=b9X X5 λσ H Q h0=>y6 h0 λF ρ ps he hm k=>by
 cases hm;exact k [] F H (Ext.refl he.fh) rfl
theorem a5{e:AF}{es:List AF}{m:M}{r:MA}(ha:EE X e m)(hr:EA X es r)(hs:Ψ e es X.env:=by rfl):EA X (e::es) (a4 m r):=
 b9X (D8 ha hr hs) λσ H Q h0=>y6 h0 λF ρ ps he hm k=>by
  obtain⟨p,e1,hm⟩:=bind_some hm;obtain⟨r1,e1,e2⟩:=bind_some e1;obtain⟨qs,e3,hm⟩:=bind_some hm;cases hm;refine⟨F,ρ,r1,he,e1,λv F1 H1 o1=> ?_⟩;obtain⟨F2,o2⟩:=o1.toVal e2;exact⟨F2,ρ,qs,he.ext o2.x,e3,λvs F3 H3 x3 rl=>k _ F3 H3 (o2.x.trans x3) ⟨v,vs,rfl,E7.mono x3.f _ o2.rep,rl⟩⟩
def r9(m:MA):M:=λρ=>(m ρ).bind λps=>if ps.length<=AO then ξ (.v (.tuple ps)) else ζ
def L5(m:MA):M:=λρ=>(m ρ).bind λps=>if ps.length<=AO then ξ (.own ps) else ζ
theorem n8{es:List AF}{m:MA}{x1:Nat}{pos:Pos}(h:EA X es m):EE X (.Tuple es x1 pos) (r9 m):=
 A2 (c4r h) λσ H Q h0=>y6 h0 λF ρ r he hm k=>by
  obtain⟨ps,e1,hm⟩:=bind_some hm;split at hm
  ·rename_i c;cases hm;exact⟨F,ρ,ps,he,e1,λvs F1 H1 x rl=>⟨by rw [rl.length];exact c,λp hp=>k _ _ _ (A7.trans x (A7.tup x.fh hp rl))⟩⟩
  ·cases hm
theorem F8{es:List AF}{m:MA}{pos:Pos}(h:EA X es m):EE X (.List es pos) (L5 m):=
 A2 (c4m h) λσ H Q h0=>y6 h0 λF ρ r he hm k=>by
  obtain⟨ps,e1,hm⟩:=bind_some hm;split at hm
  ·rename_i c;cases hm;exact⟨F,ρ,ps,he,e1,λvs F1 H1 x rl=>⟨by rw [rl.length];exact c,λp hp=>k _ _ _ (A7.trans x (A7.lst x.fh hp rl))⟩⟩
  ·cases hm
abbrev Λ:=List PV->Υ d5
def spP(K:AE)(n:Nat)(g:Λ):Sp:=λvs H Q _=>∃F ps r,n0 F H/\n6 K F ps vs/\ps.length=n/\g ps=ξ r/\∀v F' H',A7 K F H F' H' v r->Q v H'
def j2(g:Λ)(m:MA):M:=λρ=>(m ρ).bind g
theorem c01{k n:Nat}{f:AB}{fd:FuncData}{ps:List Str}{g:Λ}{x:Str}{p pos:Pos}{e:AF}{es:List AF}{m:MA}
 (G:S9 X.prog X.w X.K X.mg X.base CX0 k f fd ps (spP X.K n g)) (hr:M5 k X.A) (hg:Gl X x) (hm:X.mg x=ξ (.ref f)) (hk:PySem.W.keepIn X.K (.ref f)=true) (hb:a0L X.K fd ps []) (hn:∀ρ ps,m ρ=ξ ps->ps.length=n) (ha:EA X (e::es) m)
 (hdb:Δ x:=by decide) (he:Ψ e es X.env:=by rfl) (hpl:Φ₁ pos es X.env:=by rfl):
 EE X (.Call (.Name x p) (e::es) [] pos) (j2 g m):=
 A2 (b6Q G hr hg hm hk hb .nil b1t ha hdb he hpl) λσ H Q h0=>y6 h0 λF ρ r he hm k=>by
  obtain⟨qs,e1,hm⟩:=bind_some hm;refine⟨F,ρ,qs,he,e1,λvs F1 H1 x rl=> ?_⟩;show spP X.K n g (vs++[]) H1 Q E0;rw [Am];exact⟨F1,qs,r,x.fh,rl,hn _ _ e1,hm,λv F2 H2 o=>k v F2 H2 (A7.trans x o)⟩
theorem b8J{k:Nat}{f:AB}{fd:FuncData}{ps:List Str}{g:Λ}{x:Str}{p pos:Pos}
 (G:S9 X.prog X.w X.K X.mg X.base CX0 k f fd ps (spP X.K 0 g)) (hr:M5 k X.A) (hg:Gl X x) (hm:X.mg x=ξ (.ref f)) (hk:PySem.W.keepIn X.K (.ref f)=true) (hb:a0L X.K fd ps [])
 (hdb:Δ x:=by decide):
 EE X (.Call (.Name x p) [] [] pos) (λ_=>g []):=
 A2 (b90 G hr hg hm hk hb .nil b1t hdb) λσ H Q h0=>y6 h0 λF ρ r he hm k=>by
  exact⟨F,[],r,he.fh,rfl,rfl,hm,k⟩
theorem g6:∀ρ ps,b5 ρ=ξ ps->ps.length=0:=λ_ _ h=>by cases h;rfl
theorem a7{m:M}{r:MA}{n:Nat}(h:∀ρ ps,r ρ=ξ ps->ps.length=n):∀ρ ps,a4 m r ρ=ξ ps->ps.length=n+1:=λρ ps e=>by
 obtain⟨p,e1,e⟩:=bind_some e;obtain⟨qs,e3,e⟩:=bind_some e;cases e;rw [AV,h ρ qs e3]
end
mutual
def a5s(K:AE):Nat->AA->Υ PV
 |0,_=>ζ
 |_+1,.none=>ξ .none
 |_+1,.bool b=>ξ (.bool b)
 |_+1,.int i _=>ξ (.int i)
 |_+1,.str x _=>ξ (.str x)
 |n+1,.ref a=>match K.lookup a with
  |some ⟨.type "tuple",_,.seq its _,_⟩=>if its.size<=1000 then(a53 K n its.toList).map .tuple else ζ
  |some ⟨.type "list",ζ,.seq its _,_⟩=>if its.size<=1000 then(a53 K n its.toList).map .list else ζ
  |_=>ζ
 |_+1,_=>ζ
def a53(K:AE):Nat->List AA->Υ (List PV)
 |0,_=>ζ
 |_+1,[]=>ξ []
 |n+1,u::us=>(a5s K n u).bind λp=>(a53 K n us).bind λps=>ξ (p::ps)
end
theorem a9S{n:Nat}(h:n<=1000):n<=AO:=Ay (b8k h)
theorem b8s(K:AE):∀(n:Nat),(∀(u:AA) (p:PV),a5s K n u=ξ p->∃v,u0 v u/\∀H,E7 K H p v)/\(∀(us:List AA) (ps:List PV),a53 K n us=ξ ps->∃vs,v9 vs us/\∀H,n6 K H ps vs):=by
 intro n
 induction n with
 |zero=>exact⟨λu p h=>by simp [a5s] at h,λu p h=>by simp [a53] at h⟩
 |succ n ih=>
  constructor
  ·intro u p h;cases u with
   |none=>simp only [a5s] at h;cases h;exact⟨.non,rfl,λ_=>rfl⟩
   |bool b=>simp only [a5s] at h;cases h;exact⟨.bl b,rfl,λ_=>rfl⟩
   |int i t=>simp only [a5s] at h;cases h;exact⟨.int i,⟨t,rfl⟩,λ_=>rfl⟩
   |str x t=>simp only [a5s] at h;cases h;exact⟨.str x,⟨t,rfl⟩,λ_=>rfl⟩
   |ref a=>
    simp only [a5s] at h;split at h
    ·rename_i d its m sl e;split at h
     ·rename_i c;cases q:a53 K n its.toList with
      |none=>rw [q] at h;cases h
      |some ps=>
       rw [q] at h;cases h;obtain⟨vs,h1,h2⟩:=ih.2 _ _ q;exact⟨.ref a,rfl,λH=>⟨a,vs,rfl,.inr ⟨_,its,m,e,rfl,rfl,a9S c,h1⟩,h2 H⟩⟩
     ·cases h
    ·rename_i its m sl e;split at h
     ·rename_i c;cases q:a53 K n its.toList with
      |none=>rw [q] at h;cases h
      |some ps=>
       rw [q] at h;cases h;obtain⟨vs,h1,h2⟩:=ih.2 _ _ q;exact⟨.ref a,rfl,λH=>⟨a,vs,rfl,.inr ⟨_,its,m,e,rfl,rfl,rfl,a9S c,h1⟩,h2 H⟩⟩
     ·cases h
    ·cases h
   |_=>simp [a5s] at h
  ·intro us ps h;cases us with
   |nil=>simp only [a53] at h;cases h;exact⟨[],.nil,λ_=>rfl⟩
   |cons u us=>
    simp only [a53] at h;obtain⟨p,e1,h⟩:=bind_some h;obtain⟨qs,e2,h⟩:=bind_some h;cases h;obtain⟨v,r1,r2⟩:=ih.1 _ _ e1;obtain⟨vs,r3,r4⟩:=ih.2 _ _ e2;exact⟨v::vs,.cons r1 r3,λH=>⟨v,vs,rfl,r2 H,r4 H⟩⟩
section
variable {X:Cx}
theorem b2c{x:Str}{u:AA}{p:PV}{pos:Pos}{n:Nat}(hg:Gl X x)(hm:X.mg x=ξ u)(ha:a5s X.K n u=ξ p)(hd:Δ x:=by decide):EE X (.Name x pos) (mC p):=by
 obtain⟨v,r,h⟩:=(b8s X.K n).1 u p ha;exact a2a (b6R hg hm r hd) h
def c5h:PV->Υ n4
 | .int i=>ξ (.inl i)
 | .str x=>ξ (.inr x)
 |_=>ζ
def keysOf:List PV->Υ (List n4)
 |[]=>ξ []
 |p::ps=>(c5h p).bind λk=>(keysOf ps).bind λks=>ξ (k::ks)
abbrev MT:=b7->Υ Bool
def tMT(K:AE)(c:MT):TT:=λσ H Q=>∃F ρ b,M9 K F H σ ρ/\c ρ=ξ b/\∀F' H',Ext F H F' H'->Q b H'
abbrev ET(X:Cx)(e:AF)(c:MT):Prop:=PT X e (tMT X.K c)
abbrev EW(X:Cx)(e:AF)(c:MT):Prop:=PW X e (tMT X.K c)
def b5U:d5->Υ Bool
 | .v (.bool b)=>ξ b
 |_=>ζ
def tru(r:d5):Υ Bool:=match r.rd with
 | .none=>ξ false
 | .bool b=>ξ b
 | .int i=>ξ (i !=0)
 | .str z=>if z.length<=AO then ξ ((z.length:Int) !=0) else ζ
 | .list ps=>ξ (!ps.isEmpty)
 | .tuple ps=>ξ (!ps.isEmpty)
 | .dict _=>ζ
def mtV(m:M):MT:=λρ=>(m ρ).bind tru
def u5(m:M):MT:=λρ=>(m ρ).bind b5U
theorem n6.empty{K:AE}{H:Hp}{ps:List PV}{vs:List V}(r:n6 K H ps vs):vs.isEmpty=ps.isEmpty:=by
 cases ps with
 |nil=>cases r;rfl
 |cons p ps=>obtain⟨_,_,e,_⟩:=r;subst e;rfl
theorem c2t{H:Hp}{r:d5}{v:V}{b:Bool}(h:E7 X.K H r.rd v)(e:tru r=ξ b):c27 X.K v H b:=by
 unfold tru at e;cases hp:r.rd with
 |none=>rw [hp] at h e;cases h;cases e;exact rfl
 |bool k=>rw [hp] at h e;cases h;cases e;exact rfl
 |int i=>rw [hp] at h e;cases h;cases e;exact rfl
 |str z=>
  rw [hp] at h e;cases h;dsimp only at e;split at e
  ·rename_i c;cases e;exact⟨c,rfl⟩
  ·cases e
 |list ps=>rw [hp] at h e;obtain⟨a,xs,rfl,hq,rl⟩:=h;cases e;exact .inl ⟨xs,hq,by rw [rl.empty]⟩
 |tuple ps=>rw [hp] at h e;obtain⟨a,xs,rfl,hq,rl⟩:=h;cases e;exact .inr (.inl ⟨xs,hq.sq,by rw [rl.empty]⟩)
 |dict _=>rw [hp] at e;cases e
theorem a60{e:AF}{m:M}(h:EE X e m)(he:∀whole,isTrue e X.env whole=(do let v<-whole;standAt e.pos;holding [v] (truthy v)):=by intro _;rfl):ET X e (mtV m):=
 a7n (c0f h he) λσ H Q h0=>y6 h0 λF ρ b h1 h2 k=>by
  obtain⟨r,e1,e2⟩:=bind_some h2;exact⟨F,ρ,r,h1,e1,λv F1 H1 o=>⟨b,c2t (o.rep.rd o.x.fh) e2,k F1 H1 o.x⟩⟩
theorem a6B{K:AE}{F H:Hp}{r:d5}{v:V}{b:Bool}(h:R6 K F H v r)(e:b5U r=ξ b):v= .bl b:=by
 unfold b5U at e;split at e
 ·cases e;exact h
 ·cases e
theorem c3r{a b:AF}{ma mb:M}{pos:Pos}{op:CmpOp}{g:d5->d5->Υ d5}(ho:OpM X (compareOp op) g)(ha:EE X a ma)(hb:EE X b mb)(hm:behindInMarks op b=false):ET X (.Compare a [op] [b] pos) (u5 (m2 g ma mb)):=
 a7n (c13 ho ha hb hm) λσ H Q h0=>y6 h0 λF ρ k h1 h2 q=>by
  obtain⟨r,e1,e2⟩:=bind_some h2;exact b3l ⟨F,ρ,r,h1,e1,λv F1 H1 o=>⟨k,a6B o.rep e2,q F1 H1 o.x⟩⟩
def b4d(c:MT):MT:=λρ=>(c ρ).map not
theorem c3s{a:AF}{c:MT}{pos:Pos}(ha:ET X a c):ET X (.UnaryOp .Not a pos) (b4d c):=
 a7n (c0e ha) λσ H Q h0=>y6 h0 λF ρ k h1 h2 q=>by
  unfold b4d at h2;cases e:c ρ with
  |none=>rw [e] at h2;cases h2
  |some b=>rw [e] at h2;cases h2;exact⟨F,ρ,b,h1,e,q⟩
def P7(c d:MT):MT:=λρ=>(c ρ).bind λb=>if b=true then d ρ else ξ false
def a0m(c d:MT):MT:=λρ=>(c ρ).bind λb=>if b=true then ξ true else d ρ
theorem a4J{a:AF}{c:MT}{pos:Pos}(ha:ET X a c):EW X (.BoolOp .And [a] pos) c:=c15 ha
theorem a0s{a:AF}{c:MT}{pos:Pos}(ha:ET X a c):EW X (.BoolOp .Or [a] pos) c:=c0j ha
theorem a61{a b:AF}{rest:List AF}{c d:MT}{pos:Pos}(ha:ET X a c)(hb:EW X (.BoolOp .And (b::rest) pos) d):EW X (.BoolOp .And (a::b::rest) pos) (P7 c d):=
 c0i (c4z ha hb) λσ H Q h0=>y6 h0 λF ρ k h1 h2 q=>by
  obtain⟨b,e1,e2⟩:=bind_some h2;refine⟨F,ρ,b,h1,e1,λF1 H1 x=> ?_⟩;cases b with
  |true=>exact b7O ⟨F1,ρ,k,h1.ext x,e2,λF2 H2 y=>q F2 H2 (x.trans y)⟩
  |false=>cases e2;exact b7N (q F1 H1 x)
theorem a3f{a b:AF}{rest:List AF}{c d:MT}{pos:Pos}(ha:ET X a c)(hb:EW X (.BoolOp .Or (b::rest) pos) d):EW X (.BoolOp .Or (a::b::rest) pos) (a0m c d):=
 c0i (c2X ha hb) λσ H Q h0=>y6 h0 λF ρ k h1 h2 q=>by
  obtain⟨b,e1,e2⟩:=bind_some h2;refine⟨F,ρ,b,h1,e1,λF1 H1 x=> ?_⟩;cases b with
  |false=>exact b7N ⟨F1,ρ,k,h1.ext x,e2,λF2 H2 y=>q F2 H2 (x.trans y)⟩
  |true=>cases e2;exact b7O (q F1 H1 x)
def c1x(m n:M):M:=λρ=>(m ρ).bind λr=>(b5U r).bind λb=>if b=true then n ρ else ξ (.v (.bool false))
def b9D(m:M):M:=λρ=>(m ρ).bind λr=>(b5U r).bind λb=>ξ (.v (.bool (!b)))
theorem c3o{op:BoolOp}{a:AF}{m:M}{pos:Pos}(h:EE X a m):EE X (.BoolOp op [a] pos) m:=c4p h
theorem c3l{a b:AF}{rest:List AF}{m n:M}{pos:Pos}(ha:EE X a m)(hb:EE X (.BoolOp .And (b::rest) pos) n):EE X (.BoolOp .And (a::b::rest) pos) (c1x m n):=
 A2 (c4j ha hb) λσ H Q h0=>y6 h0 λF ρ r h1 h2 q=>by
  obtain⟨r1,e1,h2⟩:=bind_some h2;obtain⟨b,e2,h2⟩:=bind_some h2;refine⟨F,ρ,r1,h1,e1,λv F1 H1 o=>⟨b,a6B o.rep e2, ?_⟩⟩;cases b with
  |true=>exact b7O ⟨F1,ρ,r,h1.ext o.x,h2,λw F2 H2 y=>q w F2 H2 (A7.trans o.x y)⟩
  |false=>cases h2;exact b7N (q _ F1 H1 (A7.val o.x rfl))
theorem c3n{a:AF}{m:M}{pos:Pos}(ha:EE X a m):EE X (.UnaryOp .Not a pos) (b9D m):=
 A2 (c4o ha) λσ H Q h0=>y6 h0 λF ρ r h1 h2 q=>by
  obtain⟨r1,e1,h2⟩:=bind_some h2;obtain⟨b,e2,h2⟩:=bind_some h2;cases h2;exact⟨F,ρ,r1,h1,e1,λv F1 H1 o=>⟨b,a6B o.rep e2,q _ F1 H1 (A7.val o.x rfl)⟩⟩
def mIf(c:MT)(m n:M):M:=λρ=>(c ρ).bind λb=>if b=true then m ρ else n ρ
theorem b8O{c a b:AF}{mc:MT}{m n:M}{pos:Pos}(hc:ET X c mc)(ha:EE X a m)(hb:EE X b n):EE X (.IfExp c a b pos) (mIf mc m n):=
 A2 (b92 hc ha hb) λσ H Q h0=>y6 h0 λF ρ r h1 h2 q=>by
  obtain⟨b,e1,h2⟩:=bind_some h2;refine⟨F,ρ,b,h1,e1,λF1 H1 x=> ?_⟩;cases b with
  |true=>exact b7O ⟨F1,ρ,r,h1.ext x,h2,λw F2 H2 y=>q w F2 H2 (A7.trans x y)⟩
  |false=>exact b7N ⟨F1,ρ,r,h1.ext x,h2,λw F2 H2 y=>q w F2 H2 (A7.trans x y)⟩
end
inductive Fl where
 |nx (ρ:b7)|rt (r:d5)|bk (ρ:b7)|ct (ρ:b7)
abbrev MS:=b7->Υ Fl
structure SOk(K:AE)(F0 H0 F H:Hp)(σ:L2.St)(ρ:b7):Prop where
 x:Ext F0 H0 F H
 e:M9 K F H σ ρ
 nw:∀(i:Nat) (c:a0e) (a:AB),ρ[i]?=ξ (ξ (.ow c))->σ[i]?=ξ (ξ (.ref a))->H0 a=ζ
def Fin(K:AE)(F0 H0 F:Hp)(D:a1o):Fl->Prop
 | .nx ρ=>∀σ' F' H',n0 F F'->SOk K F0 H0 F' H' σ' ρ->D.nx σ' H'
 | .rt r=>∀v F' H',A7 K F0 H0 F' H' v r->D.rt v H'
 | .bk ρ=>∀σ' F' H',n0 F F'->SOk K F0 H0 F' H' σ' ρ->D.bk σ' H'
 | .ct ρ=>∀σ' F' H',n0 F F'->SOk K F0 H0 F' H' σ' ρ->D.ct σ' H'
theorem Fin.later{K:AE}{F0 H0 F F1:Hp}{D:a1o}(s:n0 F F1):∀{fl:Fl},Fin K F0 H0 F D fl->Fin K F0 H0 F1 D fl
 | .nx _,h=>λσ' F' H' s' so=>h σ' F' H' (s.trans s') so
 | .rt _,h=>h
 | .bk _,h=>λσ' F' H' s' so=>h σ' F' H' (s.trans s') so
 | .ct _,h=>λσ' F' H' s' so=>h σ' F' H' (s.trans s') so
def tMS(K:AE)(m:MS):TS:=λD σ H=>∃F0 H0 F ρ fl,SOk K F0 H0 F H σ ρ/\m ρ=ξ fl/\Fin K F0 H0 F D fl
theorem J4{K:AE}{m:MS}{D:a1o}{σ:L2.St}{H:Hp}{C:Prop}(h:tMS K m D σ H)(k:∀F0 H0 F ρ fl,SOk K F0 H0 F H σ ρ->m ρ=ξ fl->Fin K F0 H0 F D fl->C):C:=
 h.elim λa h=>h.elim λb h=>y6 h (k a b)
abbrev ES(X:Cx)(st:Stmt)(m:MS):Prop:=PS X st (tMS X.K m)
abbrev ESs(X:Cx)(st:List Stmt)(m:MS):Prop:=PSs X st (tMS X.K m)
theorem SOk.ext{K:AE}{F0 H0 F H F' H':Hp}{σ:L2.St}{ρ:b7}(s:SOk K F0 H0 F H σ ρ)(x:Ext F H F' H'):SOk K F0 H0 F' H' σ ρ:=⟨s.x.trans x,s.e.ext x,s.nw⟩
def d5.nb:d5->Bool
 | .bo _=>false
 |_=>true
theorem SOk.set{K:AE}{F0 H0 F H F' H':Hp}{σ:L2.St}{ρ:b7}{v:V}{r:d5}(s:SOk K F0 H0 F H σ ρ)(o:A7 K F H F' H' v r)(hb:r.nb=true)(i:Nat):SOk K F0 H0 F' H' (σ.set i (ξ v)) (ρ.set i (ξ r)):=by
 have s1:=s.ext o.x;have le:=s.e.len;refine⟨s1.x,⟨s1.e.fh,by simp [le],λj q e=> ?_,λj ps e=> ?_,λj k ps qs a hjk e1 e2 e3 e4=> ?_⟩,λj ps a e1 e2=> ?_⟩
 ·rw [List.getElem?_set] at e ⊢
  by_cases hij:i=j
  ·subst hij;rw [if_pos rfl] at e ⊢;rw [le];split at e
   ·rename_i c;cases e;rw [if_pos c];exact⟨v,rfl,o.rep⟩
   ·cases e
  ·rw [if_neg hij] at e ⊢;exact s1.e.at_ j q e
 ·rw [List.getElem?_set] at e
  by_cases hij:i=j
  ·subst hij;rw [if_pos rfl] at e;split at e
   ·cases e;cases hb
   ·cases e
  ·rw [if_neg hij] at e;exact s1.e.nb j ps e
 ·rw [List.getElem?_set] at e1 e2 e3 e4
  by_cases hij:i=j
  ·subst hij;rw [if_pos rfl] at e1 e3;rw [if_neg hjk] at e2 e4;split at e1
   ·cases e1;split at e3
    ·cases e3;have fr:=o.fr ps a rfl rfl;obtain⟨w,h1,rr⟩:=s.e.at_ k _ e2;obtain⟨a',xs,h2,_,h3⟩:=W0.at_ rr;rw [e4] at h1;cases h1;cases h2;rw [fr] at h3;cases h3
    ·cases e3
   ·cases e1
  ·rw [if_neg hij] at e1 e3
   by_cases hik:i=k
   ·subst hik;rw [if_pos rfl] at e2 e4;split at e2
    ·cases e2;split at e4
     ·cases e4;have fr:=o.fr qs a rfl rfl;obtain⟨w,h1,rr⟩:=s.e.at_ j _ e1;obtain⟨a',xs,h2,_,h3⟩:=W0.at_ rr;rw [e3] at h1;cases h1;cases h2;rw [fr] at h3;cases h3
     ·cases e4
    ·cases e2
   ·rw [if_neg hik] at e2 e4;exact s1.e.ap j k ps qs a hjk e1 e2 e3 e4
 ·rw [List.getElem?_set] at e1 e2
  by_cases hij:i=j
  ·subst hij;rw [if_pos rfl] at e1 e2;split at e1
   ·cases e1;split at e2
    ·cases e2;exact s.x.h.free (o.fr ps a rfl rfl)
    ·cases e2
   ·cases e1
  ·rw [if_neg hij] at e1 e2;exact s.nw j ps a e1 e2
section
variable {X:Cx}
def l0:MS:=λρ=>ξ (.nx ρ)
def i7(m n:MS):MS:=λρ=>(m ρ).bind λfl=>match fl with
 | .nx ρ'=>n ρ'
 |f=>ξ f
theorem j6:ESs X [] l0:=b6U Z8 λD σ H h0=>J4 h0 λF0 H0 F ρ fl so e fin=>by
 cases e;exact fin σ F H (PU.n0.refl F) so
theorem b4{st:Stmt}{rest:List Stmt}{m n:MS}(h1:ES X st m)(h2:ESs X rest n):ESs X (st::rest) (i7 m n):=
 b6U (E6 h1 h2) λD σ H h0=>J4 h0 λF0 H0 F ρ fl so e fin=>by
  obtain⟨f1,e1,e⟩:=bind_some e;cases f1 with
  |nx ρ'=>exact⟨F0,H0,F,ρ,.nx ρ',so,e1,λσ' F' H' s so'=>⟨F0,H0,F',ρ',fl,so',e,fin.later s⟩⟩
  |rt r=>cases e;exact⟨F0,H0,F,ρ,_,so,e1,fin⟩
  |bk r=>cases e;exact⟨F0,H0,F,ρ,_,so,e1,fin⟩
  |ct r=>cases e;exact⟨F0,H0,F,ρ,_,so,e1,fin⟩
theorem c5{st:Stmt}{m:MS}(h1:ES X st m):ESs X [st] m:=b6V h1
def n3(i:Nat)(m:M):MS:=λρ=>(m ρ).bind λr=>if r.nb=true then ξ (.nx (ρ.set i (ξ r))) else ζ
theorem j5{i:Nat}{x:Str}{e:AF}{m:M}{pos pos':Pos}(hN:X.N.Nodup)(he:EE X e m)(hi:X.N[i]?=ξ x:=by rfl)(hx:Loc X.env.scope x:=by exact Or.inl rfl)(hs:swapsWith e (ξ (.Name x pos')) pos.line X.env=pure false:=by rfl)(hf:X.fn x=true\/X.env.scope.names.lookup x=ξ .local:=by first|exact .inl rfl|exact .inr rfl|assumption):
 ES X (.Assign [.Name x pos'] e pos) (n3 i m):=
 L6 (c0b hN hi hx he hs hf) λD σ H h0=>J4 h0 λF0 H0 F ρ fl so e fin=>by
  obtain⟨r,e1,e⟩:=bind_some e;split at e
  ·rename_i c;cases e;exact⟨F,ρ,r,so.e,e1,λv F' H' o=>fin _ F' H' o.x.f (so.set o c i)⟩
  ·cases e
def k7(m:M):MS:=λρ=>(m ρ).bind λr=>if r.nb=true then ξ (.rt r) else ζ
theorem i5{e:AF}{m:M}{pos:Pos}(he:EE X e m):ES X (.Return (ξ e) pos) (k7 m):=
 L6 (c0a he) λD σ H h0=>J4 h0 λF0 H0 F ρ fl so e fin=>by
  obtain⟨r,e1,e⟩:=bind_some e;split at e
  ·rename_i c;cases e;exact⟨F,ρ,r,so.e,e1,λv F' H' o=>fin v F' H' (A7.trans so.x o)⟩
  ·cases e
def J8(i:Nat):MS:=λρ=>match ρ[i]? with
 |some (ξ r)=>ξ (.rt r)
 |_=>ζ
theorem D7(i:Nat){x:Str}{p pos:Pos}(h:PE X (.Name x p) (a0o i)):ES X (.Return (ξ (.Name x p)) pos) (J8 i):=
 L6 (c0a h) λD σ H h0=>J4 h0 λF0 H0 F ρ fl so e fin=>by
  unfold J8 at e;split at e
  ·rename_i r er;cases e;obtain⟨v,e1,rr⟩:=so.e.at_ i _ er;exact⟨v,e1,fin v F H ⟨so.x,rr,λps a z1 z2=>by subst z1;subst z2;exact so.nw i ps a er e1⟩⟩
  ·cases e
def c1y(m:M):MS:=λρ=>(m ρ).bind λ_=>ξ (.nx ρ)
theorem c05{e:AF}{m:M}{pos:Pos}(he:EE X e m)(hs:swapsWith e ζ pos.line X.env=pure false:=by rfl):ES X (.Expr e pos) (c1y m):=
 L6 (b26 he hs) λD σ H h0=>J4 h0 λF0 H0 F ρ fl so e fin=>by
  obtain⟨r,e1,e⟩:=bind_some e;cases e;exact⟨F,ρ,r,so.e,e1,λv F' H' o=>fin σ F' H' o.x.f (so.ext o.x)⟩
def o9(c:MT)(m n:MS):MS:=λρ=>(c ρ).bind λb=>if b=true then m ρ else n ρ
theorem m5{c:AF}{a b:List Stmt}{mc:MT}{m n:MS}{pos:Pos}(hc:ET X c mc)(ha:ESs X a m)(hb:ESs X b n):ES X (.If c a b pos) (o9 mc m n):=
 L6 (c2V hc ha hb) λD σ H h0=>J4 h0 λF0 H0 F ρ fl so e fin=>by
  obtain⟨b,e1,e⟩:=bind_some e;refine⟨F,ρ,b,so.e,e1,λF1 H1 x=> ?_⟩;cases b with
  |true=>exact b7O ⟨F0,H0,F1,ρ,fl,so.ext x,e,fin.later x.f⟩
  |false=>exact b7N ⟨F0,H0,F1,ρ,fl,so.ext x,e,fin.later x.f⟩
def setAll{α:Type}:List (Υ α)->List Nat->List α->List (Υ α)
 |σ,i::is,x::xs=>setAll (σ.set i (ξ x)) is xs
 |σ,_,_=>σ
def b5q:List Nat->TGs
 |[]=>c5a
 |i::is=>c2H (b1b i) (b5q is)
theorem b1c:∀{is:List Nat} {xs:List V} {σ:L2.St} {H:Hp} {Q:L2.St->Hp->Prop},xs.length=is.length->Q (setAll σ is xs) H->b5q is xs σ H Q
 |[],[],_,_,_,_,q=>⟨rfl,q⟩
 |[],_::_,_,_,_,h,_=>by cases h
 |_::_,[],_,_,_,h,_=>by cases h
 |i::is,x::xs,σ,H,Q,h,q=>⟨x,xs,rfl,b1c (is:=is) (xs:=xs) (by simpa using h) q⟩
theorem SOk.setAll{K:AE}{F0 H0 F H:Hp}:∀{is:List Nat} {xs:List V} {ps:List PV} {σ:L2.St} {ρ:b7},SOk K F0 H0 F H σ ρ->n6 K F ps xs->SOk K F0 H0 F H (PU.setAll σ is xs) (PU.setAll ρ is (ps.map .v))
 |[],xs,ps,σ,ρ,s,r=>by
  have e1:PU.setAll σ [] xs=σ:=by cases xs<;>rfl
  have e2:PU.setAll ρ [] (ps.map d5.v)=ρ:=by cases ps<;>rfl
  rw [e1,e2];exact s
 |i::is,xs,[],σ,ρ,s,r=>by cases r;exact s
 |i::is,xs,p::ps,σ,ρ,s,⟨v,t,e,rp,rl⟩=>by
  subst e;exact SOk.setAll (is:=is) (s.set (A7.here s.e.fh rp) rfl i) rl
def y0(body:MS)(tg:PV->b7->Υ b7):List PV->b7->Υ Fl
 |[],ρ=>ξ (.nx ρ)
 |p::ps,ρ=>(tg p ρ).bind λρ1=>(body ρ1).bind λfl=>match fl with
  | .nx ρ'=>y0 body tg ps ρ'
  | .ct ρ'=>y0 body tg ps ρ'
  | .bk ρ'=>ξ (.nx ρ')
  | .rt r=>ξ (.rt r)
def j3(i:Nat):PV->b7->Υ b7:=λp ρ=>ξ (ρ.set i (ξ (.v p)))
def a5n(is:List Nat):PV->b7->Υ b7:=λp ρ=>match p with
 | .tuple ps=>if ps.length=is.length then ξ (setAll ρ is (ps.map .v)) else ζ
 |_=>ζ
def a6V(K:AE)(g:TG)(tg:PV->b7->Υ b7):Prop:=
 ∀F0 H0 F H σ ρ ρ1 p x (Q:L2.St->Hp->Prop),SOk K F0 H0 F H σ ρ->E7 K F p x->tg p ρ=ξ ρ1->(∀σ',SOk K F0 H0 F H σ' ρ1->Q σ' H)->g x σ H Q
theorem A6{K:AE}(i:Nat):a6V K (b1b i) (j3 i):=λF0 H0 F H σ ρ ρ1 p x Q so r e k=>by
 cases e;exact k _ (so.set (A7.here so.e.fh r) rfl i)
theorem a6Q{K:AE}(is:List Nat):a6V K (c5b K is.length (b5q is)) (a5n is):=λF0 H0 F H σ ρ ρ1 p x Q so r e k=>by
 unfold a5n at e;split at e
 ·split at e
  ·rename_i c;cases e;obtain⟨a,xs,rfl,hq,rl⟩:=r;have hl:xs.length=is.length:=by rw [rl.length];exact c
   exact⟨a,xs,rfl,B3 so.e.fh hq.sq,hl,b1c hl (k _ (so.setAll rl))⟩
  ·cases e
 ·cases e
theorem a64{body:MS}{tg:PV->b7->Υ b7}{ps:List PV}{p:PV}{ρ:b7}{fl:Fl}(h:y0 body tg (p::ps) ρ=ξ fl):∃ρ1 f1,tg p ρ=ξ ρ1/\body ρ1=ξ f1/\(match f1 with
 | .nx ρ'=>y0 body tg ps ρ'
 | .ct ρ'=>y0 body tg ps ρ'
 | .bk ρ'=>ξ (.nx ρ')
 | .rt r=>ξ (.rt r))=ξ fl:=by
 unfold y0 at h
 obtain⟨ρ1,e1,h⟩:=bind_some h
 obtain⟨f1,e2,h⟩:=bind_some h
 exact⟨ρ1,f1,e1,e2,h⟩
def PvL(K:AE)(F0 H0 F1:Hp)(body:MS)(tg:PV->b7->Υ b7)(ps:List PV)(fl:Fl)(k:Nat)(σ:L2.St)(H:Hp):Prop:=
 ∃F ρ,n0 F1 F/\SOk K F0 H0 F H σ ρ/\y0 body tg (ps.drop k) ρ=ξ fl
theorem a2j{K:AE}{F0 H0 F1:Hp}{body:MS}{tg:PV->b7->Υ b7}{g:TG}{ps:List PV}{fl:Fl}{D:a1o}{k:Nat}{p:PV}{x:V}{σ:L2.St}{H:Hp}(T:a6V K g tg)(fin:Fin K F0 H0 F1 D fl)(ep:ps[k]?=ξ p)
 (hp:PvL K F0 H0 F1 body tg ps fl k σ H) (rx:∀F,n0 F1 F->E7 K F p x):
 g x σ H λσ2 H2=>tMS K body {D with nx:=PvL K F0 H0 F1 body tg ps fl (k+1),ct:=PvL K F0 H0 F1 body tg ps fl (k+1),bk:=D.nx} σ2 H2:=by
 obtain⟨F,ρ,s,so,e⟩:=hp
 have hk:k<ps.length:=(Ai.mp ep).1
 have hd:ps.drop k=p::ps.drop (k+1):=by
  rw [List.drop_eq_getElem_cons hk]
  congr 1
  exact(Ai.mp ep).2
 rw [hd] at e
 obtain⟨ρ1,f1,e1,e2,e3⟩:=a64 e
 refine T F0 H0 F H σ ρ ρ1 p x _ so (rx F s) e1 λσ' so'=>⟨F0,H0,F,ρ1,f1,so',e2, ?_⟩
 cases f1 with
 |nx ρ'=>exact λσ2 F2 H2 s2 so2=>⟨F2,ρ',s.trans s2,so2,e3⟩
 |ct ρ'=>exact λσ2 F2 H2 s2 so2=>⟨F2,ρ',s.trans s2,so2,e3⟩
 |bk ρ'=>cases e3;exact λσ2 F2 H2 s2 so2=>fin σ2 F2 H2 (s.trans s2) so2
 |rt r=>cases e3;exact fin
theorem a1b{K:AE}{F0 H0 F1:Hp}{body:MS}{tg:PV->b7->Υ b7}{ps:List PV}{fl:Fl}{D:a1o}{σ:L2.St}{H:Hp}(fin:Fin K F0 H0 F1 D fl)
 (hp:PvL K F0 H0 F1 body tg ps fl ps.length σ H):D.nx σ H:=by
 obtain⟨F,ρ,s,so,e⟩:=hp
 rw [List.drop_length] at e
 cases e
 exact fin σ F H s so
abbrev MI:=b7->Υ (List PV)
def X3(m:M):MI:=λρ=>((m ρ).bind d5.toVal).bind PyData.items?
def c56(K:AE)(tl:TE):TI:=λσ H R=>tl σ H λx H1=>∃a,x= .ref a/\(((∃xs,SqL K H1 a xs)/\R (Itl K a) H1)\/((∃xs,SqT K H1 a xs)/\R (Itt K a) H1))
theorem b94{tg l:AF}{tl:TE}(hl:PE X l tl):PI X tg l (c56 X.K tl):=by
 ext n
 obtain⟨a,e,q⟩:=q1;subst e;cases r1;rcases q with⟨⟨xs,hq⟩,q⟩|⟨⟨xs,hq⟩,q⟩
 ·obtain⟨its,rv,p,hz⟩:=I1.list hq;refine wpAny_pyIter_list p.isList ?_;refine⟨s1.heap.objs.size,[s1.heap.objs.size],_,_,H1,rfl,I1.kept (t':=s1.toks) λb o e=>AY _ e,b8n a _,⟨_,Ae _ rfl,rfl,rfl⟩,λb hb=> ?_,q⟩;have e:b=s1.heap.objs.size:=by simpa using hb
  subst e;exact I1.fpOk (AQ _) (I1.hok.fresh (AQ _))
 ·obtain⟨its,rv,p,hz⟩:=I1.tuple hq;refine wpAny_pyIter_tuple (show s1.heap.IsTuple a its.toArray from p) ?_;refine⟨s1.heap.objs.size,[s1.heap.objs.size],_,_,H1,rfl,I1.kept (t':=s1.toks) λb o e=>AY _ e,b58 a _,⟨_,Ae _ rfl,rfl,rfl⟩,λb hb=> ?_,q⟩;have e:b=s1.heap.objs.size:=by simpa using hb
  subst e;exact I1.fpOk (AQ _) (I1.hok.fresh (AQ _))
def M7(it:MI)(tg:PV->b7->Υ b7)(body:MS):MS:=λρ=>(it ρ).bind λps=>y0 body tg ps ρ
theorem a3P{tg iter:AF}{body:List Stmt}{m:M}{g:TG}{t:PV->b7->Υ b7}{b:MS}{pos:Pos}(hp:PassesOwn (model X.prog X.w) X.A X.env X.xe)(hc:X.calm=true)(hi:EE X iter m)(hg:PG X tg g)(T:a6V X.K g t)(hb:ESs X body b)
 (hs:∀x,foldedSetIterable iter X.env x=pure x:=by intro _;rfl):ES X (.For tg iter body [] pos) (M7 (X3 m) t b):=
 L6 (a5K hp hc (b94 hi) hg hb hs) λD σ H h0=>J4 h0 λF0 H0 F ρ fl so e fin=>by
  obtain⟨ps,e1,e⟩:=bind_some e;obtain⟨q,e1,e2⟩:=bind_some e1;obtain⟨r,e1,e3⟩:=bind_some e1;refine⟨F,ρ,r,so.e,e1,λv F' H' o=> ?_⟩;obtain⟨F1,o1⟩:=o.toVal e3;have fin1:=fin.later o1.x.f;have so1:=so.ext o1.x;obtain⟨a,xs,rfl,hq,rl⟩:=a0J (F:=F1) (H:=F1) (PU.n0.refl F1) (show R6 X.K F1 F1 v (.v q) from o1.rep) e2;have hlen:=rl.length;have get:∀k x,xs[k]?=ξ x->∃p,ps[k]?=ξ p/\∀F,n0 F1 F->E7 X.K F p x:=λk x ex=>by
   obtain⟨p,ep,rp⟩:=rl.getV ex;exact⟨p,ep,λF s=>E7.mono s _ rp⟩
  rcases hq with hq|hq
  ·refine⟨a,rfl,.inl ⟨⟨xs,J2 o1.x.fh hq⟩,b8Z (K:=X.K) (a:=a) (xs:=xs) (PvL X.K F0 H0 F1 b t ps fl) ⟨F1,ρ,PU.n0.refl F1,so1,e⟩ (λk σ H _ ⟨F,_,s,so2,_⟩=>J2 (s.trans so2.e.fh) hq) (λk x σ H ex hp=> ?_) (λσ H hp=> ?_)⟩⟩
   ·obtain⟨p,ep,rp⟩:=get k x ex;exact a2j T fin1 ep hp rp
   ·rw [hlen] at hp;exact a1b fin1 hp
  ·refine⟨a,rfl,.inr ⟨⟨xs,B3 o1.x.fh hq⟩,c1b (K:=X.K) (a:=a) (xs:=xs) (PvL X.K F0 H0 F1 b t ps fl) ⟨F1,ρ,PU.n0.refl F1,so1,e⟩ (λk σ H _ ⟨F,_,s,so2,_⟩=>B3 (s.trans so2.e.fh) hq) (λk x σ H ex hp=> ?_) (λσ H hp=> ?_)⟩⟩
   ·obtain⟨p,ep,rp⟩:=get k x ex;exact a2j T fin1 ep hp rp
   ·rw [hlen] at hp;exact a1b fin1 hp
def a1q(lo hi:Int):List PV:=(AZ (hi - lo).toNat).map λk=> .int (lo+(k:Nat))
theorem b9m:∃f:Int->Bool,∀j,f j=decide (-(2 ^ 62)<=j/\j<2 ^ 62):=⟨_,λ_=>rfl⟩
def inR:Int->Bool:=b9m.choose
theorem c3G(j:Int):inR j=decide (-(2 ^ 62)<=j/\j<2 ^ 62):=b9m.choose_spec j
theorem a2Q{j:Int}:inR j=true↔(-(2 ^ 62)<=j/\j<2 ^ 62):=by rw [c3G,decide_eq_true_iff]
def M1(m:MA):MI:=λρ=>(m ρ).bind λps=>match ps with
 |[.int j]=>if inR j=true then ξ (a1q 0 j) else ζ
 |_=>ζ
def b6L(m:MA):MI:=λρ=>(m ρ).bind λps=>match ps with
 |[.int i,.int j]=>if inR i=true/\inR j=true then ξ (a1q i j) else ζ
 |_=>ζ
theorem a6C{lo hi:Int}{k:Nat}(h:k<(hi - lo).toNat):(a1q lo hi)[k]?=ξ (.int (lo+k)):=by
 simp [a1q,h]
theorem a4h(lo hi:Int):(a1q lo hi).length=(hi - lo).toNat:=by simp [a1q]
theorem a01{tg a:AF}{body:List Stmt}{m:MA}{g:TG}{t:PV->b7->Υ b7}{b:MS}{p rp pos:Pos}(hp:PassesOwn (model X.prog X.w) X.A X.env X.xe)(hc:X.calm=true)(hgl:Gl X "range")(hm:X.mg "range"=ζ)(ha:EA X [a] m)(hg:PG X tg g)(T:a6V X.K g t)(hb:ESs X body b)
 (hst:AL [a] X.env=[(false,eval a X.env)]:=by rfl) (hs:∀x,foldedSetIterable (.Call (.Name "range" p) [a] [] rp) X.env x=pure x:=by intro _;rfl):ES X (.For tg (.Call (.Name "range" p) [a] [] rp) body [] pos) (M7 (M1 m) t b):=
 L6 (a5K hp hc (b1w hgl hm ha hst) hg hb hs) λD σ H h0=>J4 h0 λF0 H0 F ρ fl so e fin=>by
  obtain⟨ps,e1,e⟩:=bind_some e;obtain⟨qs,e1,e2⟩:=bind_some e1;refine⟨F,ρ,qs,so.e,e1,λvs F1 H1 x rl=> ?_⟩;split at e2
  ·rename_i j;split at e2
   ·rename_i c;have c:=a2Q.mp c;cases e2;obtain⟨v,r,rfl,rv,rr⟩:=rl;cases rv;cases rr;have fin1:=fin.later x.f;have hz:(j - 0).toNat=j.toNat:=by lia
    refine⟨j,rfl,c.1,c.2,b1a (lo:=0) (n:=j.toNat) (PvL X.K F0 H0 F1 b t (a1q 0 j) fl) ⟨F1,ρ,PU.n0.refl F1,so.ext x,e⟩ (λk σ H hk hp=> ?_) (λσ H hp=> ?_)⟩
    ·exact a2j T fin1 (a6C (by lia)) hp λ_ _=>rfl
    ·have:j.toNat=(a1q 0 j).length:=by rw [a4h,hz]
     rw [this] at hp;exact a1b fin1 hp
   ·cases e2
  ·cases e2
theorem b8S{tg a a2:AF}{body:List Stmt}{m:MA}{g:TG}{t:PV->b7->Υ b7}{b:MS}{p rp pos:Pos}(hp:PassesOwn (model X.prog X.w) X.A X.env X.xe)(hc:X.calm=true)(hgl:Gl X "range")(hm:X.mg "range"=ζ)(ha:EA X [a,a2] m)(hg:PG X tg g)(T:a6V X.K g t)(hb:ESs X body b)
 (hst:AL [a,a2] X.env=[(false,eval a X.env),(false,eval a2 X.env)]:=by rfl) (hst2:AL [a2] X.env=[(false,eval a2 X.env)]:=by rfl) (hs:∀x,foldedSetIterable (.Call (.Name "range" p) [a,a2] [] rp) X.env x=pure x:=by intro _;rfl):
 ES X (.For tg (.Call (.Name "range" p) [a,a2] [] rp) body [] pos) (M7 (b6L m) t b):=
 L6 (a5K hp hc (b76 hgl hm ha hst hst2) hg hb hs) λD σ H h0=>J4 h0 λF0 H0 F ρ fl so e fin=>by
  obtain⟨ps,e1,e⟩:=bind_some e;obtain⟨qs,e1,e2⟩:=bind_some e1;refine⟨F,ρ,qs,so.e,e1,λvs F1 H1 x rl=> ?_⟩;split at e2
  ·rename_i i j;split at e2
   ·rename_i c;have c:(-(2 ^ 62)<=i/\i<2 ^ 62)/\ -(2 ^ 62)<=j/\j<2 ^ 62:=⟨a2Q.mp c.1,a2Q.mp c.2⟩;cases e2;obtain⟨v,r,rfl,rv,v2,r2,rfl,rv2,rr⟩:=rl;cases rv;cases rv2;cases rr;have fin1:=fin.later x.f;refine⟨i,j,rfl,⟨c.1.1,c.1.2,c.2.1,c.2.2⟩,b1a (lo:=i) (n:=(j - i).toNat) (PvL X.K F0 H0 F1 b t (a1q i j) fl) ⟨F1,ρ,PU.n0.refl F1,so.ext x,e⟩ (λk σ H hk hp=> ?_) (λσ H hp=> ?_)⟩
    ·exact a2j T fin1 (a6C hk) hp λ_ _=>rfl
    ·rw [<-a4h i j] at hp;exact a1b fin1 hp
   ·cases e2
  ·cases e2
def m3(n:Nat)(body:MS)(ps:List PV):Υ d5:=(body (ps.map (λp=>ξ (d5.v p))++AS n ζ)).bind λfl=>match fl with
 | .rt r=>ξ r
 | .nx _=>ξ (.v .none)
 |_=>ζ
end
theorem c0A{K:AE}{F H:Hp}{ps:List PV}{vs:List V}(n:Nat)(s:n0 F H)(r:n6 K F ps vs):SOk K F H F H (vs.map ξ++AS n ζ) (ps.map (λp=>ξ (d5.v p))++AS n ζ):=by
 have hl:=r.length;have key:∀(i:Nat) (q:d5),(ps.map (λp=>ξ (d5.v p))++AS n ζ)[i]?=ξ (ξ q)->∃p v,q= .v p/\(vs.map ξ++AS n ζ)[i]?=ξ (ξ v)/\E7 K F p v:=by
  intro i q e
  by_cases h:i<ps.length
  ·rw [Aw (by simpa using h),Ak] at e
   rw [Aw (by rw [AT,hl];exact h),Ak]
   cases q':ps[i]? with
   |none=>rw [q'] at e;cases e
   |some p=>
    rw [q'] at e;cases e;obtain⟨v,h1,h2⟩:=r.get q';exact⟨p,v,rfl,by rw [h1];rfl,h2⟩
  ·rw [List.getElem?_append_right (by simpa using h),List.getElem?_replicate] at e
   split at e<;>cases e
 refine⟨Ext.refl s,⟨s,by simp [hl],λi q e=> ?_,λi qs e=> ?_,λi j qs _ a _ e=> ?_⟩,λi qs a e=> ?_⟩
 ·obtain⟨p,v,rfl,h1,h2⟩:=key i q e;exact⟨v,h1,h2⟩
 ·obtain⟨p,v,z,_⟩:=key i _ e;cases z
 ·obtain⟨p,v,z,_⟩:=key i _ e;cases z
 ·obtain⟨p,v,z,_⟩:=key i _ e;cases z
theorem b8X{P:AJ}{w:AI}{K:AE}{mg:Str->Υ AA}{base:Heap}{x qual:Str}{st:Stmt}{f:AB}{fd:FuncData}{N ps:List Str}{k:Nat}{m:MS}(F:Fun K x qual st f fd)(S:i8 N ps (c6 st))
 (hb:∀(cdv:AA) (A:AK) (outer:List Env) (s:AC) (H:Hp) (E:XK),M5 k (A.deeper (envOfC qual (c6 st) s.heap.objs.size f cdv))->ESs (a8L CX0 P w K mg base N qual (c6 st) f cdv A outer s H E).nox (C4 st) m):
 S9 P w K mg base CX0 (k+1) f fd ps (spP K ps.length (m3 (N.length - ps.length) m)):=by
 refine F.ok S (λvs H Q E h=> ?_) (λcdv A outer s H vs Q E hr h=> ?_)
 ·obtain⟨_,qs,_,_,r,h2,_⟩:=h
  rw [r.length,h2]
 ·obtain⟨F1,qs,r,s1,rl,hl,e,k⟩:=h
  refine⟨_,hb cdv A outer s H E hr, ?_⟩
  unfold m3 at e
  obtain⟨fl,e1,e2⟩:=bind_some e
  have hv:vs.length=ps.length:=by rw [rl.length,hl]
  refine⟨F1,H,F1,_,fl, ?_,e1, ?_⟩
  ·have:=c0A (N.length - ps.length) s1 rl
   unfold L2.a4C
   rw [hv]
   exact this
  ·cases fl with
   |rt q=>cases e2;exact λv F' H' o=>k v F' H' o
   |nx ρ=>cases e2;exact λσ' F' H' _ so=>k .non F' H' (A7.val so.x rfl)
   |bk ρ=>cases e2
   |ct ρ=>cases e2
section
variable {X:Cx}
def rC1(K:AE)(g:d5->Υ d5):List V->Hp->VK->Prop:=λxs H Q=>∃F x rx rz,xs=[x]/\n0 F H/\R6 K F H x rx/\g rx=ξ rz/\∀v F' H',A7 K F H F' H' v rz->Q v H'
def rC2(K:AE)(g:d5->d5->Υ d5):List V->Hp->VK->Prop:=λxs H Q=>∃F x y rx ry rz,xs=[x,y]/\n0 F H/\R6 K F H x rx/\R6 K F H y ry/\g rx ry=ξ rz/\∀v F' H',A7 K F H F' H' v rz->Q v H'
def m1(g:d5->Υ d5)(m:M):M:=λρ=>(m ρ).bind g
theorem b9T{m:M}{g:d5->Υ d5}{σ:L2.St}{H:Hp}{Q:VK}(h:tM X.K (m1 g m) σ H Q):tCB (rC1 X.K g) (b7c (tM X.K m) c2r) σ H Q:=by
 obtain⟨F,ρ,r,he,hm,k⟩:=h;obtain⟨rx,e1,hm⟩:=bind_some hm;exact⟨F,ρ,rx,he,e1,λv F1 H1 o1=>⟨F1,v,rx,r,rfl,o1.x.fh,o1.rep,hm,λz F2 H2 o2=>k z F2 H2 (A7.trans o1.x o2)⟩⟩
theorem c2u{m n:M}{g:d5->d5->Υ d5}{σ:L2.St}{H:Hp}{Q:VK}(h:tM X.K (m2 g m n) σ H Q):tCB (rC2 X.K g) (b7c (tM X.K m) (b7c (tM X.K n) c2r)) σ H Q:=by
 obtain⟨F,ρ,r,he,hm,k⟩:=h;obtain⟨rx,e1,hm⟩:=bind_some hm;obtain⟨ry,e2,hm⟩:=bind_some hm;exact⟨F,ρ,rx,he,e1,λv F1 H1 o1=>⟨F1,ρ,ry,he.ext o1.x,e2,λu F2 H2 o2=>⟨F2,v,u,rx,ry,r,rfl,o2.x.fh,o1.rep.ext o2.x,o2.rep,hm,λz F3 H3 o3=>k z F3 H3 (A7.trans (o1.x.trans o2.x) o3)⟩⟩⟩
theorem a0i{id:String}{x:Str}{p pos:Pos}{e:AF}{g:d5->Υ d5}{m:M}(hc:M8 X (.builtin id) (rC1 X.K g))(hg:Gl X x)(hm:X.mg x=ζ)(hv:bootBuiltins x=ξ (.builtin id))(ha:EE X e m)(hn:x≠"__name__":=by decide)(hdb:Δ x:=by decide)
 (he:AL [e] X.env=(false,eval e X.env)::AL [] X.env:=by rfl) (hpl:(backTo pos (AL [] X.env)).any (·.1)=false:=by rfl):EE X (.Call (.Name x p) [e] [] pos) (m1 g m):=
 A2 (a2m hc hg hm hv (D8 ha X5 he) hn hdb he hpl) λ_ _ _ h=>b9T h
theorem c46{id:String}{x:Str}{p pos:Pos}{e e2:AF}{g:d5->d5->Υ d5}{m n:M}(hc:M8 X (.builtin id) (rC2 X.K g))(hg:Gl X x)(hm:X.mg x=ζ)(hv:bootBuiltins x=ξ (.builtin id))(ha:EE X e m)(hb:EE X e2 n)(hn:x≠"__name__":=by decide)(hdb:Δ x:=by decide)
 (he:AL [e,e2] X.env=(false,eval e X.env)::AL [e2] X.env:=by rfl) (he2:AL [e2] X.env=(false,eval e2 X.env)::AL [] X.env:=by rfl) (hpl:(backTo pos (AL [e2] X.env)).any (·.1)=false:=by rfl):EE X (.Call (.Name x p) [e,e2] [] pos) (m2 g m n):=
 A2 (a2m hc hg hm hv (D8 ha (D8 hb X5 he2) he) hn hdb he hpl) λ_ _ _ h=>c2u h
theorem a46{T:String}{x:Str}{p pos:Pos}{e:AF}{g:d5->Υ d5}{m:M}(hc:M8 X (.type T) (rC1 X.K g))(hg:Gl X x)(hm:X.mg x=ζ)(hv:bootBuiltins x=ξ (.type T))(ha:EE X e m)(hn:x≠"__name__":=by decide)(hdb:Δ x:=by decide)
 (he:AL [e] X.env=(false,eval e X.env)::AL [] X.env:=by rfl) (hpl:(backTo pos (AL [] X.env)).any (·.1)=false:=by rfl):EE X (.Call (.Name x p) [e] [] pos) (m1 g m):=
 A2 (b1v hc hg hm hv (D8 ha X5 he) hn hdb he hpl) λ_ _ _ h=>b9T h
def P8(x:d5):Υ d5:=match x.rd with
 | .str z=>if z.length<=AO then ξ (.v (.int z.length)) else ζ
 |p=>match PyData.items? p with
  |some ps=>ξ (.v (.int ps.length))
  |none=>ζ
theorem a0X:M8 X (.builtin "len") (rC1 X.K P8):=by
 ext h
 unfold P8 at h2;split at h2
 ·rename_i z ez;split at h2
  ·rename_i c;cases h2;have rr:=h1.rd s0;rw [ez] at rr;cases rr;exact b16 pins s σ H _ us Q I rv ⟨z,rfl,c,k _ F H (A7.here s0 rfl)⟩
  ·cases h2
 ·split at h2
  ·rename_i ps e;cases h2;obtain⟨a,xs,rfl,hq,r⟩:=a0J s0 h1 e;refine b15 pins s σ H _ us Q I rv ⟨a,xs,rfl,hq, ?_⟩;rw [r.length];exact k _ F H (A7.here s0 rfl)
  ·cases h2
theorem c3g(hc:X.calm=true):M8 X (.builtin "min") (rC2 X.K (gI λi j=> .int (if j<i then j else i))):=by
 intro pins s σ H xs us Q I rv h;obtain⟨F,x,y,rx,ry,rz,rfl,s0,h1,h2,h3,k⟩:=h;obtain⟨i,j,rfl,rfl,rfl⟩:=b6y h3;cases h1;cases h2;exact b7o hc pins s σ H _ us Q I rv ⟨i,j,rfl,k _ F H (A7.here s0 rfl)⟩
def a2J(x:d5):Υ d5:=match PyData.items? x.rd with
 |some ps=>ξ (.v (.tuple ps))
 |none=>ζ
theorem b7P{F H:Hp}{v:V}{r:d5}{ps:List PV}(s0:n0 F H)(h:R6 X.K F H v r)(e:PyData.items? r.rd=ξ ps):∃a xs,v= .ref a/\(SqL X.K H a xs\/(SqT X.K H a xs/\E7 X.K F (.tuple ps) v))/\n6 X.K F ps xs:=by
 cases r with
 |v p=>
  cases p with
  |list qs=>cases e;obtain⟨a,xs,rfl,hq,r⟩:=h;exact⟨a,xs,rfl,.inl (J2 s0 hq),r⟩
  |tuple qs=>cases e;obtain⟨a,xs,rfl,hq,r⟩:=h;exact⟨a,xs,rfl,.inr ⟨B3 s0 hq.sq,⟨a,xs,rfl,hq,r⟩⟩,r⟩
  |_=>cases e
 |ow c=>cases c<;>cases e;obtain⟨a,xs,rfl,_,hq,r⟩:=h;exact⟨a,xs,rfl,.inl (SqL.of hq),r⟩
 |bo c=>cases c<;>cases e;obtain⟨a,xs,rfl,_,hq,r⟩:=h;exact⟨a,xs,rfl,.inl (SqL.of hq),r⟩
theorem a6b:M8 X (.type "tuple") (rC1 X.K a2J):=by
 ext h
 unfold a2J at h2;split at h2
 ·rename_i ps e;cases h2;obtain⟨a,xs,rfl,hq,r⟩:=b7P s0 h1 e;refine b0h pins s σ H _ us Q I rv ⟨a,xs,rfl, ?_⟩;rcases hq with hq|⟨hq,rp⟩
  ·exact .inl ⟨hq,λl hl=>k _ _ _ (A7.tup s0 hl r)⟩
  ·exact .inr ⟨hq,k _ F H (A7.here s0 rp)⟩
 ·cases h2
def kindOf:PV->String
 | .none=>"NoneType"
 | .bool _=>"bool"
 | .int _=>"int"
 | .str _=>"str"
 | .list _=>"list"
 | .tuple _=>"tuple"
 | .dict _=>"dict"
def a5G(T:String)(p:PV):Bool:=kindOf p==T||(kindOf p=="bool" && T=="int")
def isFn:PV->Bool
 | .dict ((.str _,_)::_)=>true
 |_=>false
def a3p(T:String)(x:d5):Υ d5:=bif isFn x.rd then ζ else ξ (.v (.bool (a5G T x.rd)))
def b44(T:String):Prop:=T="int"\/T="bool"\/T="str"\/T="list"\/T="tuple"\/T="dict"
theorem b1j{K:AE}{T:String}(h:b44 T):∀p:PV,PySem.W.kitOne K (.type (kindOf p)) (.type T)=ξ (a5G T p):=by
 intro p;rcases h with rfl|rfl|rfl|rfl|rfl|rfl<;>cases p<;>kernel_rfl
theorem a6Z{T:String}{e:AF}{m:M}{p p2 pos:Pos}(kt:b44 T)(hg:Gl X "isinstance")(hm:X.mg "isinstance"=ζ)(ha:EE X e m)(hT:PE X (.Name (AD T) p2) (tC (.ty T)))
 (he:AL [e,.Name (AD T) p2] X.env=(false,eval e X.env)::AL [.Name (AD T) p2] X.env:=by rfl) (he2:AL [.Name (AD T) p2] X.env=(false,eval (.Name (AD T) p2) X.env)::AL [] X.env:=by rfl) (hpl:(backTo pos (AL [.Name (AD T) p2] X.env)).any (·.1)=false:=by rfl)
 (hv:bootBuiltins "isinstance"=ξ (.builtin "isinstance"):=by rfl):
 EE X (.Call (.Name "isinstance" p) [e,.Name (AD T) p2] [] pos) (m1 (a3p T) m):=by
 have hc:M8 X (.builtin "isinstance") (λxs H Q=>∃F x rx,xs=[x,.ty T]/\n0 F H/\R6 X.K F H x rx/\isFn rx.rd=false/\Q (.bl (a5G T rx.rd)) H):=by
  intro pins s σ H xs us Q I rv h;obtain⟨F,x,rx,rfl,s0,h1,nf,q⟩:=h;obtain⟨u,u2,rfl,ru,ru2⟩:∃u1 u2,us=[u1,u2]/\u0 x u1/\u0 (.ty T) u2:=by
   cases rv with
   |cons p q=>
    cases q with
    |cons p' q'=>
     cases q';exact⟨_,_,rfl,p,p'⟩
  cases ru2;have rr:=h1.rd s0;have kk:=b1j (K:=X.K) kt rx.rd;have fin:∀tk,EP X pins σ Q (.bool (a5G T rx.rd)) {s with toks:=tk}:=λtk=>⟨.bl _,H,I.tok tk,rfl,q⟩
  cases hp:rx.rd with
  |none=>rw [hp] at rr kk fin;cases rr;cases ru;exact PySem.W.kia_one PySem.W.kitx_none I.kIn True.intro kk (λz=>nomatch z) fin
  |bool b=>rw [hp] at rr kk fin;cases rr;cases ru;exact PySem.W.kia_one PySem.W.kitx_bool I.kIn True.intro kk (λz=>nomatch z) fin
  |int b=>rw [hp] at rr kk fin;cases rr;obtain⟨t,rfl⟩:=ru;exact PySem.W.kia_one PySem.W.kitx_int I.kIn True.intro kk (λz=>nomatch z) fin
  |str b=>rw [hp] at rr kk fin;cases rr;obtain⟨t,rfl⟩:=ru;exact PySem.W.kia_one PySem.W.kitx_str I.kIn True.intro kk (λz=>nomatch z) fin
  |list ps=>
   rw [hp] at rr kk fin;obtain⟨a,ys,rfl,hq,_⟩:=rr;cases ru;obtain⟨its,_,⟨o,n,e1,e2,_⟩,_⟩:=I.list hq;exact PySem.W.kia_one PySem.W.kitx_list I.kIn ⟨o,e1,e2⟩ kk (λz=>nomatch z) fin
  |tuple ps=>
   rw [hp] at rr kk fin;obtain⟨a,ys,rfl,hq,_⟩:=rr;cases ru;obtain⟨its,_,⟨o,e1,e2,_⟩,_⟩:=I.tuple hq.sq;exact PySem.W.kia_one PySem.W.kitx_tuple I.kIn ⟨o,e1,e2⟩ kk (λz=>nomatch z) fin
  |dict ps=>
   rw [hp] at rr kk fin nf;rcases rr with⟨a,_,rfl,hq,_⟩|⟨a,_,rfl,hq,_⟩|⟨x,_,rfl,_⟩|⟨x,m,fs,_,hf⟩
   ·ext al
   ·ext al
   ·cases nf
   ·cases ps with
    |nil=>cases hf
    |cons f ps=>obtain⟨k,p⟩:=f;obtain⟨_,_,_,_,z,_⟩:=hf;subst z;cases nf
 exact A2 (a2m hc hg hm hv (D8 ha (D8 hT X5 he2) he) (by decide) (by decide) he hpl) λσ H Q h0=>y6 h0 λF ρ r h1 h2 k=>by
  obtain⟨rx,e1,h2⟩:=bind_some h2;unfold a3p at h2;cases nf:isFn rx.rd with
  |true=>rw [nf] at h2;cases h2
  |false=>
   rw [nf] at h2;cases h2;exact⟨F,ρ,rx,h1,e1,λv F1 H1 o=>⟨F1,v,rx,rfl,o.x.fh,o.rep,nf,k _ F1 H1 (A7.val o.x rfl)⟩⟩
theorem SOk.putC{K:AE}{F0 H0 F H:Hp}{σ:L2.St}{ρ:b7}{i:Nat}{c d:a0e}{a:AB}{o:HO}(s:SOk K F0 H0 F H σ ρ)(e:ρ[i]?=ξ (ξ (.ow c)))(ea:σ[i]?=ξ (ξ (.ref a)))(r:F a=ζ->W0 K F (t8 H a o) (.ref a) d):
 SOk K F0 H0 F (t8 H a o) σ (ρ.set i (ξ (.ow d))):=by
 obtain⟨v,h1,rr0⟩:=s.e.at_ i _ e
 obtain⟨a',xs,rfl,fa,ha⟩:=W0.at_ rr0
 rw [ea] at h1;cases h1
 have na:H0 a=ζ:=s.nw i c a e ea
 have hi:i<ρ.length:=(Ai.mp e).1
 refine⟨⟨s.x.f,λb o z=>by rw [i6 (m6 z na)];exact s.x.h _ _ z,λb o z=>by rw [i6 (m6 z fa)];exact s.x.fh _ _ z,s.x.nw,s.x.nf⟩,⟨λb o z=>by rw [i6 (m6 z fa)];exact s.e.fh _ _ z,by simp [s.e.len],λj q ej=> ?_,λj z ej=> ?_,λj k z1 z2 c' hjk e1 e2 e3 e4=> ?_⟩,λj z c' e1 e2=> ?_⟩
 ·rw [List.getElem?_set] at ej
  by_cases hij:i=j
  ·subst hij
   rw [if_pos rfl,if_pos hi] at ej
   cases ej
   exact⟨.ref a,ea,r fa⟩
  ·rw [if_neg hij] at ej
   obtain⟨v,h1,rr⟩:=s.e.at_ j q ej
   refine⟨v,h1, ?_⟩
   cases q with
   |v p=>exact rr
   |bo z=>exact absurd ej (s.e.nb j z)
   |ow z=>
    have key:∀b,v= .ref b->b≠a:=λb hb hab=>by subst hab;subst hb;exact s.e.ap i j c z b hij e ej ea h1
    cases z with
    |lst z=>
     obtain⟨b,zs,rfl,fb,hb,rz⟩:=rr
     exact⟨b,zs,rfl,fb,by rw [i6 (key b rfl)];exact hb,rz⟩
    |dct z=>
     obtain⟨b,zs,rfl,fb,hb,rz⟩:=rr
     exact⟨b,zs,rfl,fb,by rw [i6 (key b rfl)];exact hb,rz⟩
    |txt z=>
     obtain⟨b,zs,rfl,fb,hb,rz⟩:=rr
     exact⟨b,zs,rfl,fb,by rw [i6 (key b rfl)];exact hb,rz⟩
 ·rw [List.getElem?_set] at ej
  by_cases hij:i=j
  ·subst hij;rw [if_pos rfl,if_pos hi] at ej;cases ej
  ·rw [if_neg hij] at ej;exact s.e.nb j z ej
 ·have own_at:∀(j:Nat) (z:a0e),(ρ.set i (ξ (d5.ow d)))[j]?=ξ (ξ (d5.ow z))->∃z':a0e,ρ[j]?=ξ (ξ (d5.ow z')):=λj z h=>by
   rw [List.getElem?_set] at h
   by_cases hij:i=j
   ·subst hij;exact⟨c,e⟩
   ·rw [if_neg hij] at h;exact⟨z,h⟩
  obtain⟨y1,h1⟩:=own_at j z1 e1;obtain⟨y2,h2⟩:=own_at k z2 e2;exact s.e.ap j k y1 y2 c' hjk h1 h2 e3 e4
 ·rw [List.getElem?_set] at e1
  by_cases hij:i=j
  ·subst hij;rw [ea] at e2;cases e2;exact na
  ·rw [if_neg hij] at e1;exact s.nw j z c' e1 e2
theorem SOk.put{K:AE}{F0 H0 F H:Hp}{σ:L2.St}{ρ:b7}{i:Nat}{ps qs:List PV}{a:AB}{ys:List V}(s:SOk K F0 H0 F H σ ρ)(e:ρ[i]?=ξ (ξ (.own ps)))(ea:σ[i]?=ξ (ξ (.ref a)))(r:n6 K F qs ys):
 SOk K F0 H0 F (t8 H a (.lst ys)) σ (ρ.set i (ξ (.own qs))):=s.putC e ea λfa=>⟨a,ys,rfl,fa,j1,r⟩
theorem SOk.putT{K:AE}{F0 H0 F H:Hp}{σ:L2.St}{ρ:b7}{i:Nat}{ps qs:Γ}{a:AB}{ys:List (n4×V)}(s:SOk K F0 H0 F H σ ρ)(e:ρ[i]?=ξ (ξ (.ow (.txt ps))))(ea:σ[i]?=ξ (ξ (.ref a)))(r:B1 K F qs (ys.map s1)):
 SOk K F0 H0 F (t8 H a (.dK ys)) σ (ρ.set i (ξ (.ow (.txt qs)))):=s.putC e ea λfa=>⟨a,ys,rfl,fa,j1,r⟩
def O7(i:Nat)(m:M):MS:=λρ=>(m ρ).bind λr=>r.toVal.bind λp=>match ρ[i]? with
 |some (ξ (.ow (.lst ps)))=>if ps.length<AO then ξ (.nx (ρ.set i (ξ (.own (ps++[p]))))) else ζ
 |_=>ζ
theorem W8(i:Nat){x:Str}{p apos cpos pos:Pos}{e:AF}{m:M}(hx:PE X (.Name x p) (a0o i))(ha:EE X e m)
 (hbase:attributeBase (.Name x p) "append" X.env (eval (.Name x p) X.env)=eval (.Name x p) X.env:=by rfl)
 (hfew:((backTo cpos (AL [e] X.env)).all (λx=> !x.1)&&(backToKw cpos (keywordEach [] X.env)).all (λx=>x.1.isSome)
  && decide ([e].length+([]:List Keyword).length+(if([]:List Keyword).isEmpty then 0 else 1)<30))=true:=by rfl)
 (hline:(apos.endLine==cpos.line)=true:=by rfl) (hs:AL [e] X.env=(false,eval e X.env)::AL [] X.env:=by rfl) (hplain:(backTo cpos (AL [] X.env)).any (·.1)=false:=by rfl)
 (hsw:swapsWith (.Call (.Attribute (.Name x p) "append" apos) [e] [] cpos) ζ pos.line X.env=pure false:=by rfl):
 ES X (.Expr (.Call (.Attribute (.Name x p) "append" apos) [e] [] cpos) pos) (O7 i m):=
 L6 (b26 (b9Z PySem.F.plainAttrs_list PySem.F.slot_list_append PySem.F.type_list_append b1r hx (D8 ha X5 hs) hbase hfew hline hs hplain) hsw) λD σ H h0=>J4 h0 λF0 H0 F ρ fl so e fin=>by
  obtain⟨r,e1,e⟩:=bind_some e;obtain⟨q,e2,e⟩:=bind_some e;split at e
  ·rename_i ps eo;split at e
   ·rename_i c;cases e;obtain⟨v,h1,a,xs,rfl,fa,ha',rl⟩:=so.e.at_ i _ eo;refine⟨.ref a,h1,.inl ⟨rfl,xs,SqL.of ha'⟩,F,ρ,r,so.e,e1,λw F1 H1 o=> ?_⟩;obtain⟨F2,o2⟩:=o.toVal e2;have so2:=so.ext o2.x;refine⟨a,xs,w,rfl,rfl,o.x.h _ _ ha',by rw [rl.length];exact c, ?_⟩
    exact fin σ F2 _ o2.x.f (so2.put eo h1 ((n6.mono o2.x.f _ rl).append ⟨w,[],rfl,o2.rep,rfl⟩))
   ·cases e
  ·cases e
def b0u(i:Nat)(n:MS):MS:=λρ=>match ρ[i]? with
 |some (ξ (.ow (.lst ps)))=>n (ρ.set i (ξ (.v (.list ps))))
 |_=>n ρ
theorem SOk.frz{K:AE}{F0 H0 F H:Hp}{σ:L2.St}{ρ:b7}{i:Nat}{ps:List PV}(s:SOk K F0 H0 F H σ ρ)(e:ρ[i]?=ξ (ξ (.own ps))):∃F',n0 F F'/\SOk K F0 H0 F' H σ (ρ.set i (ξ (.v (.list ps)))):=by
 obtain⟨v,h1,a,xs,rfl,fa,ha,rl⟩:=s.e.at_ i _ e;have na:H0 a=ζ:=s.nw i _ a e h1;have hi:i<ρ.length:=(Ai.mp e).1;have up:n0 F (t8 F a (.lst xs)):=O1 fa;have fh:n0 (t8 F a (.lst xs)) H:=λb o z=>by
  by_cases hb:b=a
  ·subst hb;rw [j1] at z;cases z;exact ha
  ·rw [i6 hb] at z;exact s.e.fh _ _ z
 refine⟨t8 F a (.lst xs),up,⟨⟨s.x.f.trans up,s.x.h,fh,λb o z y t=>by rw [i6 (m6 y na)];exact s.x.nw b o z y t,b9K s.x.nf⟩,⟨fh,by simp [s.e.len],λj q ej=> ?_,λj z ej=> ?_,λj k z1 z2 c hjk e1 e2 e3 e4=> ?_⟩,λj z c e1 e2=> ?_⟩⟩
 ·rw [List.getElem?_set] at ej
  by_cases hij:i=j
  ·subst hij;rw [if_pos rfl,if_pos hi] at ej;cases ej;exact⟨.ref a,h1,a,xs,rfl,SqL.of j1,n6.mono up _ rl⟩
  ·rw [if_neg hij] at ej;obtain⟨v,h2,rr⟩:=s.e.at_ j q ej;refine⟨v,h2, ?_⟩;cases q with
   |v p=>exact E7.mono up p rr
   |bo z=>exact absurd ej (s.e.nb j z)
   |ow z=>
    have key:∀b,v= .ref b->b≠a:=λb hb hab=>by subst hab;subst hb;exact s.e.ap i j _ z b hij e ej h1 h2
    cases z with
    |lst z=>
     obtain⟨b,zs,rfl,fb,hb,rz⟩:=rr;exact⟨b,zs,rfl,by rw [i6 (key b rfl)];exact fb,hb,n6.mono up _ rz⟩
    |dct z=>
     obtain⟨b,zs,rfl,fb,hb,rz⟩:=rr;exact⟨b,zs,rfl,by rw [i6 (key b rfl)];exact fb,hb,B1.mono up _ rz⟩
    |txt z=>
     obtain⟨b,zs,rfl,fb,hb,rz⟩:=rr;exact⟨b,zs,rfl,by rw [i6 (key b rfl)];exact fb,hb,B1.mono up _ rz⟩
 ·rw [List.getElem?_set] at ej
  by_cases hij:i=j
  ·subst hij;rw [if_pos rfl,if_pos hi] at ej;cases ej
  ·rw [if_neg hij] at ej;exact s.e.nb j z ej
 ·have own_at:∀(j:Nat) (z:a0e),(ρ.set i (ξ (d5.v (.list ps))))[j]?=ξ (ξ (d5.ow z))->ρ[j]?=ξ (ξ (d5.ow z)):=λj z h=>by
   rw [List.getElem?_set] at h
   by_cases hij:i=j
   ·subst hij;rw [if_pos rfl,if_pos hi] at h;cases h
   ·rw [if_neg hij] at h;exact h
  exact s.e.ap j k z1 z2 c hjk (own_at j z1 e1) (own_at k z2 e2) e3 e4
 ·rw [List.getElem?_set] at e1
  by_cases hij:i=j
  ·subst hij;rw [if_pos rfl,if_pos hi] at e1;cases e1
  ·rw [if_neg hij] at e1;exact s.nw j z c e1 e2
theorem a5A(i:Nat){st:Stmt}{n:MS}(h:ES X st n):ES X st (b0u i n):=L6 h λD σ H h0=>J4 h0 λF0 H0 F ρ fl so e fin=>by
 unfold b0u at e;split at e
 ·rename_i ps eo;obtain⟨F',s,so'⟩:=so.frz eo;exact⟨F0,H0,F',_,fl,so',e,fin.later s⟩
 ·exact⟨F0,H0,F,ρ,fl,so,e,fin⟩
end
def p8(P:AJ)(w:AI)(K:AE)(mg:Str->Υ AA)(base:Heap)(x:Str)(ps:List Str)(k:Nat)(g:Λ):Prop:=
 ∃f fd,S9 P w K mg base CX0 k f fd ps (spP K ps.length g)/\mg x=ξ (.ref f)/\PySem.W.keepIn K (.ref f)=true/\a0L K fd ps []
section
variable {X:Cx}
theorem j9{k k':Nat}{ps:List Str}{g:Λ}{x:Str}{p pos:Pos}{e:AF}{es:List AF}{m:MA}
 (d:p8 X.prog X.w X.K X.mg X.base x ps k g) (hr:M5 k' X.A) (hk:k<=k') (hg:Gl X x) (hn:∀ρ qs,m ρ=ξ qs->qs.length=ps.length) (ha:EA X (e::es) m)
 (hdb:Δ x:=by decide) (he:Ψ e es X.env:=by rfl) (hpl:Φ₁ pos es X.env:=by rfl):
 EE X (.Call (.Name x p) (e::es) [] pos) (j2 g m):=by
 obtain⟨f,fd,G,h1,h2,h3⟩:=d
 exact c01 G (hr.mono hk) hg h1 h2 h3 hn ha hdb he hpl
theorem c02{k k':Nat}{g:Λ}{x:Str}{p pos:Pos}
 (d:p8 X.prog X.w X.K X.mg X.base x [] k g) (hr:M5 k' X.A) (hk:k<=k') (hg:Gl X x) (hdb:Δ x:=by decide):
 EE X (.Call (.Name x p) [] [] pos) (λ_=>g []):=by
 obtain⟨f,fd,G,h1,h2,h3⟩:=d
 exact b8J G (hr.mono hk) hg h1 h2 h3 hdb
end
def b4M(K:AE):Sp:=λvs H Q _=>∃(a:AB) (ns:List Int),vs=[.ref a]/\SqL K H a (ns.map V.int)/\ns.length<=63/\∀H',Q (.bl true) H'
theorem b1A{K:AE}{H:Hp}:∀ns:List Int,n6 K H (ns.map PyData.int) (ns.map V.int)
 |[]=>rfl
 |n::ns=>⟨.int n,_,rfl,rfl,b1A ns⟩
theorem c1s{K:AE}{g:Λ}(h:∀ns:List Int,ns.length<=63->g [.list (ns.map .int)]=ξ (.v (.bool true))):∀vs H Q E,b4M K vs H Q E->spP K 1 g vs H Q E:=
 λvs H Q E ⟨a,ns,e,hs,hl,k⟩=>by
  subst e;exact⟨H,[.list (ns.map .int)],_,PU.n0.refl H,⟨.ref a,[],rfl,⟨a,_,rfl,hs,b1A ns⟩,rfl⟩,rfl,h ns hl,λv F' H' o=>by
   have:v= .bl true:=o.rep;subst this;exact k H'⟩
def c1i(x y:d5):Υ d5:=F9 b4W (λi j=> .int (i*j)) x y
theorem b9U{X:Cx}:OpM X (binaryOp .Mult) c1i:=c1Q
theorem b83(i j:Int):y9 (.v (.int i)) (.v (.int j))=ξ (.v (.int (i+j))):=ω
theorem b84{i j:Str}(h:i.length+j.length<=AO):y9 (.v (.str i)) (.v (.str j))=ξ (.v (.str (i++j))):=by simp [y9,h]
theorem c1d{ps qs:List PV}(h:ps.length+qs.length<=AO):y9 (.bor ps) (.own qs)=ξ (.own (ps++qs)):=by simp [y9,d5.mine,h]
theorem a8j{C:Int->Int->Prop}[∀i j,Decidable (C i j)](f:Int->Int->PV){i j:Int}(h:C i j):F9 C f (.v (.int i)) (.v (.int j))=ξ (.v (f i j)):=by
 show(if okC C i j=true then ξ (d5.v (f i j)) else ζ)=_
 rw [if_pos (a1G.mpr h)]
theorem c3E{i j:Int}(h: -18446744073709551616<i/\i<18446744073709551616):c1i (.v (.int i)) (.v (.int j))=ξ (.v (.int (i*j))):=a8j _ (.inl (by lia))
theorem c3F{i j:Int}(h: -18446744073709551616<j/\j<18446744073709551616):c1i (.v (.int i)) (.v (.int j))=ξ (.v (.int (i*j))):=a8j _ (.inr (by lia))
theorem b9b{f:Int->Int->PV}{i j:Int}(h:0<j):F9 (λ_ j=>0<j) f (.v (.int i)) (.v (.int j))=ξ (.v (f i j)):=a8j _ h
theorem b9c{f:Int->Int->PV}{i j:Int}(h:(0<=j/\j<=1000000)/\i.natAbs<18446744073709551616):F9 b7i f (.v (.int i)) (.v (.int j))=ξ (.v (f i j)):=a8j _ ⟨h.1.1,h.1.2,h.2⟩
theorem c3z{x y:d5}(h:y8 x.rd 50=true/\y8 y.rd 50=true):D4 x y=ξ (.v (.bool (η x.rd y.rd))):=by simp [D4,h]
theorem b7D(ps:List PV):P8 (.v (.list ps))=ξ (.v (.int ps.length)):=ω
theorem b89(ps:List PV):P8 (.v (.tuple ps))=ξ (.v (.int ps.length)):=ω
theorem b3X{ps:List PV}{i:Int}{p:PV}(h:L2.atI ps i=ξ p):j7 (.v (.list ps)) (.v (.int i))=ξ (.v p):=by simp [j7,d5.rd,a0e.rd,PyData.items?,h]
theorem c1g{ps:List PV}{i:Int}{p:PV}(h:L2.atI ps i=ξ p):j7 (.v (.tuple ps)) (.v (.int i))=ξ (.v p):=by simp [j7,d5.rd,a0e.rd,PyData.items?,h]
theorem b2x(g:d5->d5->Υ d5)(ma mb:M)(ρ:b7):m2 g ma mb ρ=(ma ρ).bind λx=>(mb ρ).bind λy=>g x y:=ω
theorem c3X(p:PV)(ρ:b7):mC p ρ=ξ (.v p):=ω
theorem a8n(p:PV)(ρ:b7):a6 0 (ξ (.v p)::ρ)=ξ (.v p):=ω
theorem b2E(n:Nat)(r:Υ d5)(ρ:b7):a6 (n+1) (r::ρ)=a6 n ρ:=ω
theorem b5G(m:M)(r:MA)(ρ:b7):a4 m r ρ=((m ρ).bind d5.toVal).bind λp=>(r ρ).bind λps=>ξ (p::ps):=ω
def c5B(r:d5):Υ Fl:=if r.nb=true then ξ (.rt r) else ζ
theorem b9E(m:M)(ρ:b7):k7 m ρ=(m ρ).bind c5B:=ω
theorem c4B(p:PV):c5B (.v p)=ξ (.rt (.v p)):=ω
def c4F(n:MS):Fl->Υ Fl
 | .nx ρ=>n ρ
 |f=>ξ f
theorem a9f(m n:MS)(ρ:b7):i7 m n ρ=(m ρ).bind (c4F n):=ω
theorem b63(n:MS)(ρ:b7):c4F n (.nx ρ)=n ρ:=ω
theorem b64(n:MS)(r:d5):c4F n (.rt r)=ξ (.rt r):=ω
def ifK(m n:MS)(ρ:b7)(b:Bool):Υ Fl:=if b=true then m ρ else n ρ
theorem a9e(c:MT)(m n:MS)(ρ:b7):o9 c m n ρ=(c ρ).bind (ifK m n ρ):=ω
theorem c2M(m n:MS)(ρ:b7):ifK m n ρ true=m ρ:=ω
theorem c2L(m n:MS)(ρ:b7):ifK m n ρ false=n ρ:=ω
theorem b1q(ρ:b7):l0 ρ=ξ (.nx ρ):=ω
def c5C:Fl->Υ d5
 | .rt r=>ξ r
 | .nx _=>ξ (.v .none)
 |_=>ζ
theorem a6D(n:Nat)(b:MS)(ps:List PV):m3 n b ps=(b (ps.map (λp=>ξ (d5.v p))++AS n ζ)).bind c5C:=ω
theorem a8q(r:d5):c5C (.rt r)=ξ r:=ω
theorem b2F(m:M)(ρ:b7):u5 m ρ=(m ρ).bind b5U:=ω
theorem b5V(b:Bool):b5U (.v (.bool b))=ξ b:=ω
theorem c0k(p:PV):(d5.v p).rd=p:=ω
def c2Z:List PV->Υ (List PV)
 |[.int j]=>if inR j=true then ξ (a1q 0 j) else ζ
 |_=>ζ
theorem b7Y(m:MA)(ρ:b7):M1 m ρ=(m ρ).bind c2Z:=ω
theorem c2a{j:Int}(h: -4611686018427387904<=j/\j<4611686018427387904):c2Z [.int j]=ξ (a1q 0 j):=by
 show(if inR j=true then ξ (a1q 0 j) else ζ)=_
 rw [if_pos (a2Q.mpr (by lia))]
def c20:List PV->Υ (List PV)
 |[.int i,.int j]=>if inR i=true/\inR j=true then ξ (a1q i j) else ζ
 |_=>ζ
theorem b7Z(m:MA)(ρ:b7):b6L m ρ=(m ρ).bind c20:=ω
theorem c2b{i j:Int}(h:(-4611686018427387904<=i/\i<4611686018427387904)/\ -4611686018427387904<=j/\j<4611686018427387904):c20 [.int i,.int j]=ξ (a1q i j):=by
 show(if inR i=true/\inR j=true then ξ (a1q i j) else ζ)=_
 rw [if_pos ⟨a2Q.mpr (by lia),a2Q.mpr (by lia)⟩]
theorem b85(i j:Int):D4 (.v (.int i)) (.v (.int j))=ξ (.v (.bool (i==j))):=ω
end PU
namespace L2
theorem K7:∀(names:List (Str×NameKind)) (n:Nat) (acc:List (Str×AB)),cellsFrom n names acc=cellsFrom n names []++acc
 |[],_,_=>rfl
 |(x,k)::r,n,acc=>by
  unfold cellsFrom;split
  ·rw [K7 r (n+1) ((x,n)::acc),K7 r (n+1) [(x,n)],List.append_assoc];rfl
  ·exact K7 r n acc
theorem T4:∀{names:List (Str×NameKind)} {n:Nat} {x:Str} {c:AB},(x,c)∈cellsFrom n names []->n<=c/\(x,NameKind.cell)∈names
 |[],_,_,_,h=>nomatch h
 |(y,k)::r,n,x,c,h=>by
  unfold cellsFrom at h;split at h
  ·rename_i hk;rw [K7] at h;rcases Ar.mp h with h|h
   ·obtain⟨a,b⟩:=T4 h;exact⟨by lia,Ab _ b⟩
   ·have e:(x,c)=(y,n):=by simpa using h
    cases e;have:k= .cell:=by simpa using hk
    subst this;exact⟨AQ _,AU⟩
  ·obtain⟨a,b⟩:=T4 h;exact⟨a,Ab _ b⟩
theorem a9c{α:Type}:∀{l:List (Str×α)} {x:Str},(∀c,(x,c)∉l)->l.lookup x=ζ:=λ {l x} h=>by
 cases e:l.lookup x with
 |none=>rfl
 |some c=>exact absurd (PySem.mem_of_lookup e) (h c)
theorem a5e{α:Type}:∀{l r:List (Str×α)} {x:Str},l.lookup x=ζ->(l++r).lookup x=r.lookup x
 |[],_,_,_=>rfl
 |(y,v)::l,r,x,h=>by
  rw [Av,List.lookup_cons];rw [List.lookup_cons] at h;cases e:x==y with
  |true=>rw [e] at h;cases h
  |false=>rw [e] at h;exact a5e h
def a0x(cells:List (Str×AB)):List (Str×NameKind)->List (Str×AB)->List (Str×AB)
 |[],acc=>acc
 |(x,k)::r,acc=>if k== .free then a0x cells r ((x,(cells.lookup x).getD 0)::acc) else a0x cells r acc
theorem a6W{cells:List (Str×AB)}:∀{names:List (Str×NameKind)} {acc:List (Str×AB)} {x:Str} {c:AB},(x,c)∈a0x cells names acc->(x,c)∈acc\/((x,NameKind.free)∈names/\c=(cells.lookup x).getD 0)
 |[],_,_,_,h=> .inl h
 |(y,k)::r,acc,x,c,h=>by
  unfold a0x at h;split at h
  ·rename_i hk;rcases a6W h with h|⟨h1,h2⟩
   ·rcases AX.mp h with e|h
    ·cases e;have:k= .free:=by simpa using hk
     subst this;exact .inr ⟨AU,rfl⟩
    ·exact .inl h
   ·exact .inr ⟨Ab _ h1,h2⟩
  ·rcases a6W h with h|⟨h1,h2⟩
   ·exact .inl h
   ·exact .inr ⟨Ab _ h1,h2⟩
theorem a3F{cells:List (Str×AB)}:∀{names:List (Str×NameKind)} {acc:List (Str×AB)} {x:Str},x∉names.map (·.1)->(a0x cells names acc).lookup x=acc.lookup x
 |[],_,_,_=>rfl
 |(y,k)::r,acc,x,h=>by
  have h':¬(x=y)/\x∉r.map (·.1):=by simpa using h
  unfold a0x;split
  ·rw [a3F h'.2,List.lookup_cons];have e:(x==y)=false:=by simpa using h'.1
   rw [e]
  ·exact a3F h'.2
theorem a2z{cells:List (Str×AB)}:∀{names:List (Str×NameKind)} {acc:List (Str×AB)} {x:Str},(names.map (·.1)).Nodup->names.lookup x=ξ .free->(a0x cells names acc).lookup x=ξ ((cells.lookup x).getD 0)
 |[],_,_,_,h=>by cases h
 |(y,k)::r,acc,x,nd,h=>by
  have nd':y∉r.map (·.1)/\(r.map (·.1)).Nodup:=List.nodup_cons.mp nd;rw [List.lookup_cons] at h;unfold a0x;cases e:x==y with
  |true=>
   rw [e] at h;have hk:k= .free:=by simpa using h
   subst hk;have exy:x=y:=by simpa using e
   subst exy;rw [if_pos (show(NameKind.free==NameKind.free)=true from rfl),a3F nd'.1,List.lookup_cons,e]
  |false=>
   rw [e] at h;split
   ·exact a2z nd'.2 h
   ·exact a2z nd'.2 h
theorem a1U{env:Env}(f:Str×NameKind->List (Str×AB)->Sem (ForInStep (List (Str×AB))))(hf:∀x k cs,f (x,k) cs=if k== .free then(do let c<-cellOf env x;pure (.yield ((x,c)::cs))) else pure (.yield cs)):
 ∀(names:List (Str×NameKind)) (acc:List (Str×AB)),(∀x∈names,x.2= .free->(env.cells.lookup x.1).isSome=true)->forIn names acc f=pure (a0x env.cells names acc)
 |[],acc,_=>rfl
 |(x,k)::r,acc,h=>by
  rw [List.forIn_cons,hf];unfold a0x;have hr:=λy hy=>h y (Ab _ hy);split
  ·rename_i hk;have:=h (x,k) AU (by simpa using hk)
   obtain⟨c,hc⟩:=Option.isSome_iff_exists.mp this;unfold cellOf;rw [hc];show forIn r ((x,c)::acc) f=_;exact a1U f hf r _ hr
  ·exact a1U f hf r acc hr
theorem b0i{scope:Scope}{env:Env}(h:∀x∈scope.names,x.2= .free->(env.cells.lookup x.1).isSome=true):closureFor scope env=pure (a0x env.cells scope.names []):=by
 unfold closureFor;have e:=a1U (env:=env) (λ(x:Str×NameKind) (cs:List (Str×AB))=>if x.2== .free then(do let c<-cellOf env x.1;pure (.yield ((x.1,c)::cs))) else pure (.yield cs)) (λ_ _ _=>rfl) scope.names [] h
 show(forIn scope.names [] _>>=λr=>pure r)=_;refine Eq.trans (congrArg (· >>=λr=>pure r) (Eq.trans (congrArg (forIn scope.names []) ?_) e)) rfl
 funext x cs
 cases x with
 |mk n k=>cases k<;>rfl
theorem a4d{env:Env}{x:Str}:∀{names:List (Str×NameKind)},(names.map λ(p:Str×NameKind)=>if(p.2==NameKind.free && env.scope.kind== .function && env.kindOf p.1==ξ .cell) then(p.1,NameKind.cell) else(p.1,p.2)).lookup x
 =(names.lookup x).map λk=>if(k==NameKind.free && env.scope.kind== .function && env.kindOf x==ξ .cell) then NameKind.cell else k
 |[]=>rfl
 |(n,k)::r=>by
  rw [AM];have ih:= @a4d env x r;show List.lookup x ((if(k==NameKind.free && env.scope.kind== .function && env.kindOf n==ξ .cell)=true then(n,NameKind.cell) else(n,k))::_)=_
  cases hx:x==n with
  |true=>
   have e:x=n:=by simpa using hx
   subst e
   by_cases c:(k==NameKind.free && env.scope.kind== .function && env.kindOf x==ξ .cell)=true
   ·rw [if_pos c,List.lookup_cons,hx,List.lookup_cons,hx];exact congrArg ξ (if_pos c).symm
   ·rw [if_neg c,List.lookup_cons,hx,List.lookup_cons,hx];exact congrArg ξ (if_neg c).symm
  |false=>
   by_cases c:(k==NameKind.free && env.scope.kind== .function && env.kindOf n==ξ .cell)=true
   ·rw [if_pos c,List.lookup_cons,hx,List.lookup_cons,hx];exact ih
   ·rw [if_neg c,List.lookup_cons,hx,List.lookup_cons,hx];exact ih
def S3(scope:Scope)(C:AB)(env:Env):Env:=
 {scope:=relabel scope env,locals:=C,globals:=env.globals,cells:=cellsFrom (C+1) scope.names (a0x env.cells scope.names []),qual:=env.qual,func:=ζ,code:=env.code,frame:=env.frame,builtins:=env.builtins}
def hid(ys:List Str)(x:Str):Str:=if ys.contains x=true then AD "0"++x else x
def N3(X:Cx)(N0:List Str)(scope:Scope)(ys:List Str)(C:AB)(fp:List AB)(pins:List (AB×Obj))(s₃:AC)(H₃:Hp):Cx:=
 {X with N:=N0++ys,s₀:=s₃,H₀:=H₃,env:=S3 scope C X.env,outer:=X.stack,ex:=fp,fn:=λx=>scope.names.lookup x==ξ .cell,pn:=X.pn++pins}
theorem a0W{scope:Scope}{C:AB}{env:Env}{x:Str}:(S3 scope C env).kindOf x=(scope.names.lookup x).map λk=>if(k==NameKind.free && env.scope.kind== .function && env.kindOf x==ξ .cell) then NameKind.cell else k:=
 a4d
structure W3(N N0 ys:List Str)(env:Env)(scope:Scope):Prop where
 eq:N0=N.map (hid ys)
 kind:scope.kind= .function
 nd:(scope.names.map (·.1)).Nodup
 fr:∀x∈scope.names,x.2= .free->env.kindOf x.1=ξ .cell\/env.kindOf x.1=ξ .free
 ou:∀x∈N,(ys.contains x=true->scope.names.lookup (hid ys x)=ζ)/\(ys.contains x=false->scope.names.lookup x=ζ\/scope.names.lookup x=ξ .free\/scope.names.lookup x=ξ .globalImplicit)
theorem J1{α:Type}:∀{l:List (Str×α)} {x:Str} {v:α},(l.map (·.1)).Nodup->(x,v)∈l->l.lookup x=ξ v
 |[],_,_,_,h=>nomatch h
 |(y,w)::r,x,v,nd,h=>by
  have nd':y∉r.map (·.1)/\(r.map (·.1)).Nodup:=List.nodup_cons.mp nd;rw [List.lookup_cons];rcases AX.mp h with e|h
  ·cases e;simp
  ·have:x≠y:=λe=>nd'.1 (by rw [<-e];exact Ag.mpr ⟨_,h,rfl⟩)
   have e:(x==y)=false:=by simpa using this
   rw [e];exact J1 nd'.2 h
section
variable {M:Model}{A:AK}{E:AA->AC->Prop}{s:AC}
theorem a4T{scope:Scope}{globals:AB}{cl:List (Str×AB)}{qual:Str}{env:Env}{builtins:AB}{Q:Env->AC->Prop}
 (h:Q (newEnv scope s.heap.objs.size globals (cellsFrom (s.heap.objs.size+1) scope.names cl) qual ζ .none (ξ env) builtins) {s with heap:=pushCells (s.heap.push {cls:= .type "dict",data:= .dict #[]}) scope.names}):
 AH M A (newFunctionEnv scope globals cl [] qual ζ .none (ξ env) builtins) Q E s:=by
 simp only [newFunctionEnv,Option.isSome_some,if_true]
 refine AG (wpAny_alloc ?_)
 refine AG (wpAny_layCells _ (λname kind cells=>by cases hkc:kind==NameKind.cell<;>simp [hkc]) _ _ _ _ ?_)
 rw [show({s with heap:=s.heap.push {cls:= .type "dict",data:= .dict #[]}}:AC).heap.objs.size=s.heap.objs.size+1 from Heap.size_push ..]
 exact AG (AN (AN h))
end
section
variable {prog:AJ}{w:AI}{A:AK}{R:Result->AC->Prop}{s:AC}
theorem a4Q{elt target iter:AF}{ifs:List AF}{scope:Scope}{pos:Pos}{it acc:AA}{env:Env}(I:Nat->AC->Prop)
 (turn:∀n s,I n s->AH (model prog w) A (pyNext it) (λr s₁=>match r with
  |none=>R (.ok .next) s₁
  |some v=>AH (model prog w) A (letOwnedTupleGo target it v) (λ_ s₁'=>AH (model prog w) A (assign target env v) (λ_ s₂=>
   AH (model prog w) A (forIn ifs true λc r=>if r=true then do let ok<-isTrue c env (eval c env);pure (ForInStep.yield ok) else pure (ForInStep.yield r)) (λok s₃=>
    if ok=true then AH (model prog w) A (eval elt env) (λx s₄=>
     AH (model prog w) A (call (.builtin "list.append") [acc,x]) (λ_ s₅=>∃m,m<n/\I m s₅) (λ_ _=>False) s₄) (λ_ _=>False) s₃
    else ∃m,m<n/\I m s₃) (λ_ _=>False) s₂) (λ_ _=>False) s₁') (λ_ _=>False) s₁) (λ_ _=>False) s)
 (n:Nat) (h:I n s):
 codeAny (model prog w) A (.compLoop (.ListComp elt [⟨target,iter,ifs,0⟩] scope pos) 0 it acc env) R s:=by
 refine codeAny_loop rfl I (λn s hI=> ?_) n h
 show AH _ A ((compTurn (.ListComp elt [⟨target,iter,ifs,0⟩] scope pos) 0 it acc env).onRaise (λx=>do noteFrame x env;theTreesLotGoes x)) _ _ s
 refine wpAny_noted ?_
 rw [compTurn_list]
 refine AG (wpAny_standAt (AG (wpAny_mono (turn n s hI) (λr s₁ h₁=> ?_) λ_ _ h'=>h'.elim)))
 cases r with
 |none=>exact AN h₁
 |some v=>
  refine AG (wpAny_mono h₁ (λ_ s₁' h₁'=> ?_) λ_ _ h'=>h'.elim)
  refine AG (wpAny_mono h₁' (λ_ s₂ h₂=>AG (wpAny_mono h₂ (λok s₃ h₃=> ?_) λ_ _ h'=>h'.elim)) λ_ _ h'=>h'.elim)
  cases ok with
  |false=>exact AN ⟨rfl,h₃⟩
  |true=>
   exact AG (AG (wpAny_mono h₃ (λx s₄ h₄=>AG (wpAny_mono h₄ (λ_ s₅ h₅=>AN (AN ⟨rfl,h₅⟩)) λ_ _ h'=>h'.elim)) λ_ _ h'=>h'.elim))
end
def PCs(X:Cx)(ifs:List AF)(t:TT):Prop:=
 ∀pins s σ (H:Hp) (Q:Bool->Hp->Prop),l8 X pins σ H s->t σ H Q->
  AH (model X.prog X.w) X.A (forIn ifs true λc r=>if r=true then do let ok<-isTrue c X.env (eval c X.env);pure (ForInStep.yield ok) else pure (ForInStep.yield r)) (TP X pins σ Q) X.xe s
def c5R:TT:=λ_ H Q=>Q true H
theorem c1T{X:Cx}:PCs X [] c5R:=λpins s σ H Q I h=>wpAny_tests_nil ⟨H,I,h⟩
theorem c1U{X:Cx}{c:AF}{t:TT}(h:PT X c t):PCs X [c] t:=λpins s σ H Q I hq=>wpAny_tests_one (h pins s σ H Q I hq)
def b7b(wi:TI)(g:TG)(tc:TT)(te:TE)(k:Nat):TE:=λσ H Q=>wi σ H λJ H1=>∀D,H1 D=ζ->∃W:Nat->Nat->List V->Hp->Prop,(∃m,W 0 m [] (t8 H1 D (.lst [])))/\∀i m xs H2,W i m xs H2->H2 D=ξ (.lst xs)->
 (J.stop i H2/\Q (.ref D) H2)\/(J.go i H2/\∀x H3,J.yld i H2 x H3->g x (σ++AS k ζ) H3 λσ4 H4=>(∀(j:Nat) v,(σ++AS k ζ)[j]?=ξ (ξ v)->σ4[j]?=ξ (ξ v))/\tc σ4 H4 λb H5=>if b=true then te σ4 H5 λv H6=>H6 D=ξ (.lst xs)/\xs.length<AO/\∃m',m'<m/\W (i+1) m' (xs++[v]) (t8 H6 D (.lst (xs++[v])))
  else H5 D=ξ (.lst xs)/\∃m',m'<m/\W (i+1) m' xs H5)
section
variable {X:Cx}{elt iter tg:AF}{ifs:List AF}{scope:Scope}{N0 ys:List Str}{wi:TI}{g:TG}{tc:TT}{te:TE}{pos:Pos}
theorem a2P{pins:List (AB×Obj)}{σ:St}{H:Hp}{s:AC}(I:l8 X pins σ H s)(S:W3 X.N N0 ys X.env scope){x:Str}(h:(x,NameKind.free)∈scope.names):∃c,X.env.cells.lookup x=ξ c:=I.ok.has x (S.fr _ h rfl)
theorem b5h{pins:List (AB×Obj)}{σ:St}{H:Hp}{s:AC}{fp:List AB}(S:W3 X.N N0 ys X.env scope)(I:l8 X pins σ H s)(hf:∀b∈fp,a6T X pins H b)(ho:∀b∈fp,∃o,s.heap.get? b=ξ o/\∀v,o.data≠.cell v):
 l8 (N3 X N0 scope ys s.heap.objs.size fp pins s H) [] (σ++AS ys.length ζ) H {s with heap:=pushCells (s.heap.push {cls:= .type "dict",data:= .dict #[]}) scope.names}:=by
 have up:∀b o,s.heap.get? b=ξ o->(pushCells (s.heap.push {cls:= .type "dict",data:= .dict #[]}) scope.names).get? b=ξ o:=λb o e=>pushCells_keeps _ _ b o (AY _ e)
 have okc:=cellsFrom_ok scope.names (s.heap.push {cls:= .type "dict",data:= .dict #[]}) (s.heap.objs.size+1) [] ⟨λ_ _ hm=>(nomatch hm),List.Pairwise.nil⟩ (by rw [Heap.size_push];exact AQ _)
 rw [Heap.size_push] at okc
 have cel:∀x c,(S3 scope s.heap.objs.size X.env).cells.lookup x=ξ c->((x,c)∈cellsFrom (s.heap.objs.size+1) scope.names []/\(x,NameKind.cell)∈scope.names/\s.heap.objs.size<c)\/(X.env.cells.lookup x=ξ c/\(x,NameKind.free)∈scope.names):=λx c e=>by
  have m:=PySem.mem_of_lookup e;have m:(x,c)∈cellsFrom (s.heap.objs.size+1) scope.names (a0x X.env.cells scope.names []):=m;rw [K7] at m;rcases Ar.mp m with m|m
  ·obtain⟨h1,h2⟩:=T4 m;exact .inl ⟨m,h2,h1⟩
  ·rcases a6W m with m|⟨m,e⟩
   ·exact nomatch m
   ·obtain⟨c',hc'⟩:=a2P I S m;rw [hc'] at e;exact .inr ⟨by rw [hc',e];rfl,m⟩
 have celLt:∀x c,X.env.cells.lookup x=ξ c->c<s.heap.objs.size:=λx c e=>let ⟨_,h⟩:=I.cell x c e;h.lt
 have fpLt:∀b∈fp,b<s.heap.objs.size:=λb hb=>let ⟨_,e,_⟩:=ho b hb;Aa e
 have cellNo:∀x,(x,NameKind.cell)∉scope.names->(cellsFrom (s.heap.objs.size+1) scope.names []).lookup x=ζ:=λx hx=>a9c λc m=>hx (T4 m).2
 have look:∀x,(x,NameKind.free)∈scope.names->(S3 scope s.heap.objs.size X.env).cells.lookup x=X.env.cells.lookup x:=λx m=>by
  have hl:=J1 S.nd m;have hn:(x,NameKind.cell)∉scope.names:=λz=>by
   have:=J1 S.nd z;rw [hl] at this;cases this
  show(cellsFrom (s.heap.objs.size+1) scope.names (a0x X.env.cells scope.names [])).lookup x=_;rw [K7,a5e (cellNo x hn),a2z S.nd hl];obtain⟨c,hc⟩:=a2P I S m;rw [hc];rfl
 have kindF:∀x,scope.names.lookup x=ξ .free->X.env.kindOf x=ξ .cell\/X.env.kindOf x=ξ .free:=λx h=>S.fr _ (PySem.mem_of_lookup h) rfl
 refine⟨⟨I.mod,S.kind,I.ok.glob,I.ok.blt,AQ _,λx y c h1 h2=> ?_,λx h=> ?_,λx c h1 h2=> ?_,I.ok.hd,I.ok.frames,.inl rfl,λb hb=> ?_,I.bs,Nat.le_trans I.ok.bsz I.sz,λb o e hb=> ?_,λb hb hz=> ?_,I.stack,I.stkFree⟩,
  rfl,I.bare,Un.kept up,⟨λ_=>ζ, ?_,λi x v h1 h2 h3=> ?_⟩,λx c e=> ?_,I.hok.fresh (AQ _),λx c e=> ?_,λp hp=> ?_,I.hok.kept up, ?_⟩
 ·rcases cel x c h1 with⟨a1,b1,c1⟩|⟨a1,b1⟩
  ·rcases cel y c h2 with⟨a2,b2,c2⟩|⟨a2,b2⟩
   ·exact name_of_addr okc.apart a1 a2
   ·exact absurd (Nat.lt_trans c1 (celLt y c a2)) (Nat.lt_irrefl _)
  ·rcases cel y c h2 with⟨a2,b2,c2⟩|⟨a2,b2⟩
   ·exact absurd (Nat.lt_trans c2 (celLt x c a1)) (Nat.lt_irrefl _)
   ·exact I.ok.inj x y c a1 a2
 ·have hk:(S3 scope s.heap.objs.size X.env).kindOf x=ξ .cell\/(S3 scope s.heap.objs.size X.env).kindOf x=ξ .free:=h
  rw [a0W] at hk
  cases e:scope.names.lookup x with
  |none=>rw [e] at hk;rcases hk with z|z<;>cases z
  |some k=>
   rw [e] at hk
   have hk':k= .cell\/k= .free:=by
    by_cases c:(k==NameKind.free && X.env.scope.kind== .function && X.env.kindOf x==ξ .cell)=true
    ·have:(k==NameKind.free)=true:=by
      rw [χ,χ] at c;exact c.1.1
     exact .inr (by simpa using this)
    ·simp only [BB] at hk;rw [if_neg c] at hk;rcases hk with z|z
     ·cases z;exact .inl rfl
     ·cases z;exact .inr rfl
   rcases hk' with rfl|rfl
   ·have q:=PySem.W.cellsFrom_some (x:=x) scope.names (s.heap.objs.size+1) (a0x X.env.cells scope.names []) (.inl e)
    exact Option.isSome_iff_exists.mp q
   ·obtain⟨c,hc⟩:=a2P I S (PySem.mem_of_lookup e)
    exact⟨c,by show(S3 scope s.heap.objs.size X.env).cells.lookup x=_;rw [look x (PySem.mem_of_lookup e)];exact hc⟩
 ·rcases cel x c h2 with⟨_,_,c1⟩|⟨_,b1⟩
  ·exact Ay c1
  ·have h1':(scope.names.lookup x==ξ .cell)=true:=h1
   rw [J1 S.nd b1] at h1'
   cases h1'
 ·refine⟨Ac (fpLt b hb),λx c e z=> ?_⟩
  rcases cel x c e with⟨_,_,c1⟩|⟨a1,_⟩
  ·rw [z] at c1;exact absurd (Nat.lt_trans c1 (fpLt b hb)) (Nat.lt_irrefl _)
  ·exact(hf b hb).2.2.2.2.1 x c a1 z
 ·have hb:b∈fp:=hb
  rcases(hf b hb).2.2.2.1 with z|z
  ·exact I.ok.noex b o e z
  ·have h1:=(I.ok.bs b o e).1
   have:=Aa h1
   exact absurd (An this z) (Nat.lt_irrefl _)
 ·have hb:b∈fp:=hb
  have hz:b∈frs X.stack:=hz
  rcases AX.mp (I.stkSub b hz) with z|z
  ·exact(hf b hb).2.1 z
  ·exact(hf b hb).2.2.1 z
 ·exact(Heap.Ns.new s.heap (.type "dict")).keeps (pushCells_keeps _ _)
 ·have h1:(N0++ys)[i]?=ξ x:=h1
  rw [S.eq] at h1
  have hi:i<σ.length:=by
   by_cases hi:i<σ.length
   ·exact hi
   ·rw [List.getElem?_append_right (by lia),List.getElem?_replicate] at h2
    split at h2<;>cases h2
  rw [Aw hi] at h2
  rw [Aw (by rw [AT,<-I.len];exact hi),Ak] at h1
  have hvis:Vis (S3 scope s.heap.objs.size X.env).scope x:=h3
  have hkn:scope.names.lookup x=ζ->False:=λz=>by
   have hk:∀k,(S3 scope s.heap.objs.size X.env).kindOf x=ξ k->scope.names.lookup x≠ζ:=λk z e=>by
    rw [a0W,e] at z;cases z
   rcases hvis with e|e|e<;>exact absurd z (hk _ e)
  have h1:X.N[i]?=ξ x/\ys.contains x=false:=by
   cases e0:X.N[i]? with
   |none=>rw [e0] at h1;cases h1
   |some x0=>
    rw [e0] at h1;have h1:hid ys x0=x:=Option.some.inj h1;have ho:=S.ou x0 (BA e0);cases hc:ys.contains x0 with
    |true=>exact(hkn (by rw [<-h1];exact ho.1 hc)).elim
    |false=>
     have hx:x0=x:=by rw [<-h1];unfold hid;rw [if_neg (by rw [hc];exact Af)]
     subst hx;exact⟨rfl,hc⟩
  obtain⟨h1,hys⟩:=h1
  have hfree:scope.names.lookup x=ξ .free:=by
   have hk:∀k,(S3 scope s.heap.objs.size X.env).kindOf x=ξ k->scope.names.lookup x≠ζ:=λk z e=>by
    rw [a0W,e] at z;cases z
   rcases(S.ou x (BA h1)).2 hys with z|z|z
   ·rcases hvis with e|e|e<;>exact absurd z (hk _ e)
   ·exact z
   ·have hg:(S3 scope s.heap.objs.size X.env).kindOf x=ξ .globalImplicit:=by
     rw [a0W,z];rfl
    rcases hvis with e|e|e
    ·have e:(S3 scope s.heap.objs.size X.env).kindOf x=ξ .local:=e;rw [hg] at e;cases e
    ·have e:(S3 scope s.heap.objs.size X.env).kindOf x=ξ .cell:=e;rw [hg] at e;cases e
    ·have e:(S3 scope s.heap.objs.size X.env).kindOf x=ξ .free:=e;rw [hg] at e;cases e
  obtain⟨m,hn,hl⟩:=I.loc
  have hv:Vis X.env.scope x:=by
   rcases kindF x hfree with z|z
   ·exact .inr (.inl z)
   ·exact .inr (.inr z)
  obtain⟨u,r,l⟩:=hl i x v h1 h2 hv
  refine⟨u,r, ?_⟩
  rcases l with⟨k,_⟩|⟨k,c,e,z⟩
  ·rcases kindF x hfree with q|q<;>rw [q] at k<;>cases k
  ·refine .inr ⟨?_,c,by show(S3 scope s.heap.objs.size X.env).cells.lookup x=_;rw [look x (PySem.mem_of_lookup hfree)];exact e,z.keeps up⟩
   show(S3 scope s.heap.objs.size X.env).kindOf x=ξ .cell\/(S3 scope s.heap.objs.size X.env).kindOf x=ξ .free
   rw [a0W,hfree]
   by_cases cc:((NameKind.free==NameKind.free)&& X.env.scope.kind== .function && X.env.kindOf x==ξ .cell)=true
   ·exact .inl (congrArg ξ (if_pos cc))
   ·exact .inr (congrArg ξ (if_neg cc))
 ·rcases cel x c e with⟨a1,_,_⟩|⟨a1,_⟩
  ·exact⟨ζ,(okc.empty x c a1).1⟩
  ·obtain⟨v,z⟩:=I.cell x c a1
   exact⟨v,z.keeps up⟩
 ·rcases cel x c e with⟨_,_,c1⟩|⟨a1,_⟩
  ·exact I.hok.fresh (Ay c1)
  ·exact I.freeC x c a1
 ·have hp:p∈(X.pn++pins)++[]:=hp
  rw [Am] at hp
  obtain⟨e,n,ne,nf,d⟩:=I.pin p hp
  refine⟨up _ _ e,n,Ac (Aa e),λhz=> ?_,d⟩
  have hz:p.1∈frs X.stack:=hz
  rcases AX.mp (I.stkSub p.1 hz) with z|z
  ·exact ne z
  ·exact nf z
 ·show(σ++AS ys.length ζ).length=(N0++ys).length
  rw [AW,List.length_replicate,AW,S.eq,AT,I.len]
def b8q(X:Cx)(pins:List (AB×Obj))(C:AB):Prop:=C≠X.env.locals/\X.s₀.heap.objs.size<=C/\(∀x c,X.env.cells.lookup x=ξ c->c≠C)/\∀p∈X.pn++pins,p.1≠C
theorem b01{pos':Pos}{use:Υ (AA->Sem Unit)}{QQ:AA->AC->Prop}(hx:∀e s,X.xe e s->False)(hc:X.calm=true)(S:W3 X.N N0 ys X.env scope)(hi:PI X tg iter wi)
 (hg:∀C fp pins s H,PG (N3 X N0 scope ys C fp pins s H) tg g) (ht:∀C fp pins s H,PCs (N3 X N0 scope ys C fp pins s H) ifs tc) (he:∀C fp pins s H,PE (N3 X N0 scope ys C fp pins s H) elt te)
 (hs:∀x,foldedSetIterable iter X.env x=pure x) {pins:List (AB×Obj)} {s:AC} {σ:St} {H:Hp} {Q:VK} (I:l8 X pins σ H s) (h:b7b wi g tc te ys.length σ H Q)
 (fin:∀D C s' H' m,l8 X pins σ H' s'->s'.heap.Ns C m->H' C=ζ->b8q X pins C->Q (.ref D) H'->compPost (model X.prog X.w) X.A X.xe use QQ (.ref D) C (.ok .next) s'):
 AH (model X.prog X.w) X.A (comprehension (.ListComp elt [⟨tg,iter,ifs,0⟩] scope pos) scope X.env pos' (newList []) false (eval iter X.env) use) QQ X.xe s:=by
 have hcl:closureFor scope X.env=pure (a0x X.env.cells scope.names []):=b0i λx hx' hk=>by
  obtain⟨c,e⟩:=a2P (ys:=ys) I S (x:=x.1) (by rw [<-hk];exact hx')
  rw [e];rfl
 refine wpAny_comprehension_free (use:=use) rfl hs hcl S.kind (λx hx' hk=>J1 S.nd (by rw [<-hk];exact hx')) (K6 (hi pins s σ H _ I h) λv s1 h1=>K6 h1 λitv s2 h2=> ?_)
 obtain⟨it,fp,tn,J,H2,e,I2,T,st2,f2,hW⟩:=h2
 subst e
 have hfr:=I2.hok.fresh (AQ _)
 obtain⟨W,⟨m0,w0⟩,turn⟩:=hW s2.heap.objs.size hfr
 have fpLt:∀b∈fp,b<s2.heap.objs.size:=λb hb=>let ⟨_,e,_⟩:=T.obj _ _ st2 b hb;Aa e
 refine wpAny_newObj_type ?_
 have I3:l8 X pins σ (t8 H2 s2.heap.objs.size (.lst [])) {s2 with heap:=s2.heap.push {cls:= .type "list",data:= .seq ([]:List AA).toArray}}:=
  I2.laid (t':=s2.toks) (λb o e=>AY _ e) (AQ _) ⟨by decide,[],0,.nil,Ae _ rfl⟩
 have up3:∀b o,s2.heap.get? b=ξ o->(s2.heap.push {cls:= .type "list",data:= .seq ([]:List AA).toArray}).get? b=ξ o:=λb o e=>AY _ e
 have st3:tn 0 (s2.heap.push {cls:= .type "list",data:= .seq ([]:List AA).toArray}):=T.keep _ _ _ st2 λb _ o e=>up3 b o e
 have f3:∀b∈fp,a6T X pins (t8 H2 s2.heap.objs.size (.lst [])) b:=λb hb=>⟨by rw [i6 (Ac (fpLt b hb))];exact(f2 b hb).1,(f2 b hb).2⟩
 generalize hs3:({s2 with heap:=s2.heap.push {cls:= .type "list",data:= .seq ([]:List AA).toArray}}:AC)=s3 at I3
 have hs3h:s3.heap=s2.heap.push {cls:= .type "list",data:= .seq ([]:List AA).toArray}:=by rw [<-hs3]
 rw [<-hs3h] at st3 up3
 refine a4T ?_
 have I4:=b5h S I3 f3 (T.obj _ _ st3)
 generalize hs4:({s3 with heap:=pushCells (s3.heap.push {cls:= .type "dict",data:= .dict #[]}) scope.names}:AC)=s4 at I4 ⊢
 have hs4h:s4.heap=pushCells (s3.heap.push {cls:= .type "dict",data:= .dict #[]}) scope.names:=by rw [<-hs4]
 have st4:tn 0 s4.heap:=T.keep _ _ _ st3 λb _ o e=>by rw [hs4h];exact pushCells_keeps _ _ b o (AY _ e)
 generalize hX:N3 X N0 scope ys s3.heap.objs.size fp pins s3 (t8 H2 s2.heap.objs.size (.lst []))=Y at I4
 have Yp:Y.prog=X.prog:=by rw [<-hX];rfl
 have Yw:Y.w=X.w:=by rw [<-hX];rfl
 have YK:Y.K=X.K:=by rw [<-hX];rfl
 have YA:Y.A=X.A:=by rw [<-hX];rfl
 have Yc:Y.calm=true:=by rw [<-hX];exact hc
 have Yx:Y.xe=X.xe:=by rw [<-hX];rfl
 have YL:Y.env.locals=s3.heap.objs.size:=by rw [<-hX];rfl
 have Yf:Y.fs=frs X.stack:=by rw [<-hX];rfl
 have Ye:Y.ex=fp:=by rw [<-hX];rfl
 have Yn:Y.pn=X.pn++pins:=by rw [<-hX];rfl
 have Ys:Y.s₀=s3:=by rw [<-hX];rfl
 have YH:Y.H₀=t8 H2 s2.heap.objs.size (.lst []):=by rw [<-hX];rfl
 have YE:Y.env=S3 scope s3.heap.objs.size X.env:=by rw [<-hX];rfl
 have hgY:PG Y tg g:=by rw [<-hX];exact hg _ _ _ _ _
 have htY:PCs Y ifs tc:=by rw [<-hX];exact ht _ _ _ _ _
 have heY:PE Y elt te:=by rw [<-hX];exact he _ _ _ _ _
 have nlen:(σ++AS ys.length ζ).length=Y.N.length:=I4.len
 have exf:=I4.ok.exf
 have exfs:=I4.ok.exfs
 have stat:∀{H':Hp},(∀b∈fp,H' b=ζ)->∀b∈fp,a6T Y [] H' b:=λ {H'} hn b hb=>by
  have hb':b∈Y.ex:=by rw [Ye];exact hb
  refine⟨hn b hb,(exf b hb').1,exfs b hb',.inl hb',(exf b hb').2,λp hp=> ?_⟩;rw [Am,Yn] at hp;exact(f2 b hb).2.2.2.2.2 p hp
 have TY:b1X Y.prog Y.w Y.K tg J fp it tn:=by rw [Yp,Yw,YK];exact T
 have noX:∀e s,Y.xe e s->False:=λe s h=>hx e s (by rw [<-Yx];exact h)
 have loop:∀R:Result->AC->Prop,(∀s' H' m,l8 X pins σ H' s'->s'.heap.Ns s3.heap.objs.size m->H' s3.heap.objs.size=ζ->b8q X pins s3.heap.objs.size->Q (.ref s2.heap.objs.size) H'->R (.ok .next) s')->
  codeAny (model X.prog X.w) X.A (.compLoop (.ListComp elt [⟨tg,iter,ifs,0⟩] scope pos) 0 (.ref it) (.ref s2.heap.objs.size) (S3 scope s3.heap.objs.size X.env)) R s4:=by
  intro R hR
  refine a4Q (λn s'=>∃i xs H' σ',l8 Y [] σ' H' s'/\(∀(j:Nat) v,(σ++AS ys.length ζ)[j]?=ξ (ξ v)->σ'[j]?=ξ (ξ v))/\tn i s'.heap/\(∀b∈fp,H' b=ζ)/\H' s2.heap.objs.size=ξ (.lst xs)/\W i n xs H') ?_ m0
   ⟨0,[],_,_,I4,λ_ _ e=>e,st4,λb hb=>(f3 b hb).1,j1,w0⟩
  rintro n s5 ⟨i,xs,H5,σ5,I5,k5,st5,fr5,hD5,w5⟩
  have I5:l8 Y [] (σ++AS ys.length ζ) H5 s5:=I5.weak (by rw [nlen,I5.len]) k5
  rw [<-Yp,<-Yw,<-YA]
  rcases turn i n xs H5 w5 hD5 with⟨stop,q⟩|⟨go,step⟩
  ·refine wpAny_mono (TY.done Y rfl rfl rfl Yc i [] s5 _ H5 (λ_ _=>False) I5 (stat fr5) st5 stop) (λr s6 ⟨hr,I6⟩=> ?_) λ_ _ z=>z
   subst hr
   obtain⟨m,hn,_⟩:=I6.loc
   have un:=I6.base
   rw [Yf,Ye,Ys,YH] at un
   rw [YL] at hn
   have hfC:=I6.free
   rw [YL] at hfC
   refine hR s6 H5 m (I3.call' (ch:=fp) (by rw [I6.os,Ys]) un (by have z:=I6.hok;rw [Yp,Yw] at z;exact z) I6.bare λb hb=>⟨(f3 b hb).2.2.2.1,(f3 b hb).2.1,(f3 b hb).2.2.2.2.1,(f3 b hb).2.2.2.2.2⟩) hn hfC ⟨Nat.ne_of_gt I3.lt,I3.sz,λx c e=> ?_,λp hp=> ?_⟩ q
   ·obtain⟨v,z⟩:=I3.cell x c e
    exact Ac z.lt
   ·exact Ac (Aa (I3.pin p hp).1)
  ·refine wpAny_mono (TY.item Y rfl rfl rfl Yc i [] s5 _ H5 (λ_ _=>False) I5 (stat fr5) st5 go) (λr s6 ⟨u,hr,h6⟩=> ?_) λ_ _ z=>z
   subst hr
   dsimp only
   refine wpAny_mono h6 (λ_ s7 ⟨x,H7,I7,r7,y7,st7,fr7⟩=> ?_) λ_ _ z=>z
   have I7':=I7.pinned (stat fr7) (T.obj _ _ st7)
   rw [<-YE]
   have keepT:∀{σ8:St} {H8:Hp} {s8:AC},l8 Y ([]++a9A fp s7.heap) σ8 H8 s8->tn (i+1) s8.heap/\∀b∈fp,H8 b=ζ:=λ {σ8 H8 s8} I8=>by
    refine⟨T.keep _ _ _ st7 λb hb o e=>(I8.pin (b,o) (As _ (As _ (a2T hb e)))).1,λb hb=> ?_⟩;obtain⟨o,e,d⟩:=T.obj _ _ st7 b hb;exact(I8.pin (b,o) (As _ (As _ (a2T hb e)))).2.1
   refine wpAny_mono (hgY _ s7 _ H7 x u _ I7' r7 (step x H7 y7)) (λ_ s8 h0=>t7 h0 λσ8 H8 I8 k8 q8=> ?_) λe s z=>noX e s z
   refine wpAny_mono (htY _ s8 σ8 H8 _ I8 q8) (λb s9 ⟨H9,I9,q9⟩=> ?_) λe s z=>noX e s z
   cases b with
   |false=>
    rw [if_neg Af] at q9 ⊢
    obtain⟨hD9,m',lt,w9⟩:=q9
    obtain⟨t9,n9⟩:=keepT I9
    exact⟨m',lt,i+1,xs,H9,σ8,I9.pins_of (λp hp=>nomatch hp),k8,t9,n9,hD9,w9⟩
   |true=>
    rw [if_pos rfl] at q9 ⊢
    refine wpAny_mono (heY _ s9 σ8 H9 _ I9 q9) (λy s10 ⟨v,H10,I10,r10,hD10,hz,m',lt,w10⟩=> ?_) λe s z=>noX e s z
    refine wpAny_mono (b1r _ s10 σ8 H10 (.ref s2.heap.objs.size) [v] (.ref s2.heap.objs.size) [y] (λ_ H'=>H'=t8 H10 s2.heap.objs.size (.lst (xs++[v]))) I10 rfl (.cons r10 .nil) ⟨_,xs,v,rfl,rfl,hD10,hz,rfl⟩) (λ_ s11 h0=>t7 h0 λ_ H11 I11 _ e11=> ?_) λe s z=>noX e s z
    subst e11
    obtain⟨t11,n11⟩:=keepT I11
    exact⟨m',lt,i+1,xs++[v],_,σ8,I11.pins_of (λp hp=>nomatch hp),k8,t11,n11,j1,w10⟩
 show codeAny _ _ (.compStart _ 0 _ _ (S3 scope s3.heap.objs.size X.env)) _ _
 refine codeAny_compStart_list (loop _ λs' H' m a b c d e=>fin _ _ s' H' m a b c d e) (T.self _ 0 _ _ _ st4 (loop _ λs' H' m a b c d e=>fin _ _ s' H' m a b c d e))
theorem c1W(hx:∀e s,X.xe e s->False)(hc:X.calm=true)(S:W3 X.N N0 ys X.env scope)(hi:PI X tg iter wi)
 (hg:∀C fp pins s H,PG (N3 X N0 scope ys C fp pins s H) tg g) (ht:∀C fp pins s H,PCs (N3 X N0 scope ys C fp pins s H) ifs tc) (he:∀C fp pins s H,PE (N3 X N0 scope ys C fp pins s H) elt te)
 (hs:∀x,foldedSetIterable iter X.env x=pure x:=by intro _;rfl):PE X (.ListComp elt [⟨tg,iter,ifs,0⟩] scope pos) (b7b wi g tc te ys.length):=by
 intro pins s σ H Q I h
 rw [eval_ListComp]
 refine b01 hx hc S hi hg ht he hs I h λD C s' H' m I' hn hC gone q=>⟨m,hn,λh' hs'=>⟨.ref D,H', ?_,rfl,q⟩⟩
 obtain⟨g1,g2,g3,g4⟩:=gone
 exact I'.turned (t':=s'.toks) (λb o hb e=>hs'.extBut b o hb e) hC g1 (.inr g2) g3 g4
theorem c12{i:Nat}{y:Str}{py spos:Pos}(hx:∀e s,X.xe e s->False)(hc:X.calm=true)(S:W3 X.N N0 ys X.env scope)(hi:PI X tg iter wi)
 (hg:∀C fp pins s H,PG (N3 X N0 scope ys C fp pins s H) tg g) (ht:∀C fp pins s H,PCs (N3 X N0 scope ys C fp pins s H) ifs tc) (he:∀C fp pins s H,PE (N3 X N0 scope ys C fp pins s H) elt te)
 (hN:X.N.Nodup) (hiy:X.N[i]?=ξ y) (hy:X.env.scope.names.lookup y=ξ .local)
 (hsw:swapsWith (.ListComp elt [⟨tg,iter,ifs,0⟩] scope pos) (ξ (.Name y py)) spos.line X.env=pure true)
 (hs:∀x,foldedSetIterable iter X.env x=pure x:=by intro _;rfl):PS X (.Assign [.Name y py] (.ListComp elt [⟨tg,iter,ifs,0⟩] scope pos) spos) (λD σ H=>b7b wi g tc te ys.length σ H λv H'=>D.nx (σ.set i (ξ v)) H'):=by
 intro pins s σ H D I h
 rw [exec_Assign_Name_used _ _ _ _ hsw]
 refine AG (wpAny_standAt (AG ?_))
 show AH _ X.A (do let _<-comprehension (.ListComp elt [⟨tg,iter,ifs,0⟩] scope pos) scope X.env _ (newList []) false (eval iter X.env) (ξ (assign (.Name y py) X.env))) _ _ s
 refine AG (wpAny_mono (b01 (QQ:=λ_ s'=>SP X pins D .next s') hx hc S hi hg ht he hs I h λL C s' H' m I' hn hC gone q=> ?_) (λ_ s' hq=>AN (AN hq)) λ_ _ e=>e)
 obtain⟨g1,g2,g3,g4⟩:=gone
 show AH _ X.A (assign (.Name y py) X.env (.ref L)) _ _ _
 refine wpAny_assign_Name (b1H (v:= .ref L) I' hN hiy (.inl hy) rfl (λs2 I2 ⟨a,sb,ha⟩=> ?_) (.inr hy))
 have hCa:C≠a:=by
  rcases ha with z|z
  ·rw [z];exact g1
  ·exact λe=>g3 y a z e.symm
 refine⟨m,hn.sameBut sb hCa,λh' hs'=>⟨_,H',I2.turned (t':=s2.toks) (λb o hb e=>hs'.extBut b o hb e) hC g1 (.inr g2) g3 g4,q⟩⟩
end
end L2
namespace PU
open L2
def a45(c:MT)(elt:M)(tg:PV->b7->Υ b7)(ρ:b7):List PV->Υ (List PV)
 |[]=>ξ []
 |p::ps=>(tg p ρ).bind λρ1=>(c ρ1).bind λb=>if b=true then((elt ρ1).bind d5.toVal).bind λq=>(a45 c elt tg ρ ps).bind λr=>ξ (q::r) else a45 c elt tg ρ ps
def a0l:MT:=λ_=>ξ true
def P6(k:Nat)(it:MI)(tg:PV->b7->Υ b7)(c:MT)(elt:M):M:=λρ=>(it ρ).bind λps=>if ps.length<=AO then(a45 c elt tg (ρ++AS k ζ) ps).bind λr=>ξ (.own r) else ζ
def b0T(K:AE)(n:Nat)(g:TG)(tg:PV->b7->Υ b7):Prop:=
 ∀F H σ ρ ρ1 p x (Q:L2.St->Hp->Prop),M9 K F H σ ρ->E7 K F p x->tg p ρ=ξ ρ1->(∀σ',M9 K F H σ' ρ1->(∀(j:Nat),j<n->σ'[j]?=σ[j]?)->Q σ' H)->g x σ H Q
theorem M9.set{K:AE}{F H:Hp}{σ:L2.St}{ρ:b7}{p:PV}{x:V}(e:M9 K F H σ ρ)(r:E7 K F p x)(i:Nat):M9 K F H (σ.set i (ξ x)) (ρ.set i (ξ (.v p))):=by
 refine⟨e.fh,by simp [e.len],λj q h=> ?_,λj ps h=> ?_,λj k ps qs a hjk h1 h2 h3 h4=> ?_⟩
 ·rw [List.getElem?_set] at h ⊢
  by_cases hij:i=j
  ·subst hij;rw [if_pos rfl] at h ⊢;rw [e.len];split at h
   ·rename_i c;cases h;rw [if_pos c];exact⟨x,rfl,r⟩
   ·cases h
  ·rw [if_neg hij] at h ⊢;exact e.at_ j q h
 ·rw [List.getElem?_set] at h
  by_cases hij:i=j
  ·subst hij;rw [if_pos rfl] at h;split at h<;>cases h
  ·rw [if_neg hij] at h;exact e.nb j ps h
 ·have get:∀(j:Nat) (ps:a0e),(ρ.set i (ξ (d5.v p)))[j]?=ξ (ξ (d5.ow ps))->i≠j/\ρ[j]?=ξ (ξ (d5.ow ps)):=λj ps h=>by
   rw [List.getElem?_set] at h
   by_cases hij:i=j
   ·subst hij;rw [if_pos rfl] at h;split at h<;>cases h
   ·rw [if_neg hij] at h;exact⟨hij,h⟩
  obtain⟨n1,h1⟩:=get j ps h1;obtain⟨n2,h2⟩:=get k qs h2;rw [List.getElem?_set_ne n1] at h3;rw [List.getElem?_set_ne n2] at h4;exact e.ap j k ps qs a hjk h1 h2 h3 h4
theorem G2{K:AE}{n i:Nat}(h:n<=i):b0T K n (b1b i) (j3 i):=λF H σ ρ ρ1 p x Q e r q k=>by
 cases q;exact k _ (e.set r i) λj hj=>by rw [List.getElem?_set_ne (by lia)]
theorem M9.more{K:AE}{F H:Hp}{σ:L2.St}{ρ:b7}(e:M9 K F H σ ρ)(k:Nat):M9 K F H (σ++AS k ζ) (ρ++AS k ζ):=by
 have key:∀(j:Nat) (q:d5),(ρ++AS k ζ)[j]?=ξ (ξ q)->ρ[j]?=ξ (ξ q)/\(σ++AS k ζ)[j]?=σ[j]?:=λj q h=>by
  by_cases hj:j<ρ.length
  ·rw [Aw hj] at h;rw [Aw (by rw [e.len];exact hj)]
   exact⟨h,rfl⟩
  ·rw [List.getElem?_append_right (by lia),List.getElem?_replicate] at h
   split at h<;>cases h
 refine⟨e.fh,by simp [e.len],λj q h=> ?_,λj ps h=>e.nb j ps (key j _ h).1,λj k' ps qs a hjk h1 h2 h3 h4=> ?_⟩
 ·obtain⟨h1,h2⟩:=key j q h;rw [h2];exact e.at_ j q h1
 ·obtain⟨a1,b1⟩:=key j _ h1;obtain⟨a2,b2⟩:=key k' _ h2;rw [b1] at h3;rw [b2] at h4;exact e.ap j k' ps qs a hjk a1 a2 h3 h4
def WC(K:AE)(F H:Hp)(D:AB)(c:MT)(elt:M)(tg:PV->b7->Υ b7)(ρ:b7)(ps r:List PV)(i m:Nat)(xs:List V)(H':Hp):Prop:=
 ∃F' done rest,i<=ps.length/\m=ps.length - i/\Ext F H F' H'/\F' D=ζ/\n6 K F' done xs/\done.length<=i/\a45 c elt tg ρ (ps.drop i)=ξ rest/\done++rest=r
theorem b7s{K:AE}{F H:Hp}{D:AB}{c:MT}{elt:M}{tg:PV->b7->Υ b7}{g:TG}{σ:L2.St}{ρ:b7}{k:Nat}{ps r:List PV}{i m:Nat}{xs:List V}{H':Hp}{p:PV}{x:V}
 (T:b0T K ρ.length g tg) (en:M9 K F H σ ρ) (hD:H D=ζ) (hsz:ps.length<=AO) (W:WC K F H D c elt tg (ρ++AS k ζ) ps r i m xs H') (hx:H' D=ξ (.lst xs)) (ep:ps[i]?=ξ p) (rx:E7 K F p x):
 g x (σ++AS k ζ) H' λσ4 H4=>(∀(j:Nat) v,(σ++AS k ζ)[j]?=ξ (ξ v)->σ4[j]?=ξ (ξ v))/\tMT K c σ4 H4 λb H5=>if b=true then tM K elt σ4 H5 λv H6=>H6 D=ξ (.lst xs)/\xs.length<AO/\∃m',m'<m/\WC K F H D c elt tg (ρ++AS k ζ) ps r (i+1) m' (xs++[v]) (t8 H6 D (.lst (xs++[v])))
  else H5 D=ξ (.lst xs)/\∃m',m'<m/\WC K F H D c elt tg (ρ++AS k ζ) ps r (i+1) m' xs H5:=by
 obtain⟨F',done,rest,hi,hm,ex,fD,rl,dl,hc,hr⟩:=W
 have hk:i<ps.length:=(Ai.mp ep).1
 have hd:ps.drop i=p::ps.drop (i+1):=by
  rw [List.drop_eq_getElem_cons hk]
  congr 1
  exact(Ai.mp ep).2
 rw [hd] at hc
 unfold a45 at hc
 obtain⟨ρ1,e1,hc⟩:=bind_some hc
 obtain⟨b,e2,hc⟩:=bind_some hc
 have en':=(en.ext ex).more k
 refine T F' H' _ _ ρ1 p x _ en' (E7.mono ex.f _ rx) e1 λσ4 en4 keep=>⟨λj v e=> ?_, ?_⟩
 ·by_cases hj:j<ρ.length
  ·rw [keep j hj];exact e
  ·rw [List.getElem?_append_right (by rw [en.len];lia),List.getElem?_replicate] at e
   split at e<;>cases e
 refine⟨F',ρ1,b,en4,e2,λF5 H5 x5=> ?_⟩
 have ex5:=ex.trans x5
 have fD5:F5 D=ζ:=x5.nw D _ fD hx (λ_ h=>nomatch h)
 cases b with
 |false=>
  rw [if_neg Af] at hc
  refine b7N ⟨x5.h _ _ hx,ps.length - (i+1),by lia,F5,done,rest,by lia,rfl,ex5,fD5,n6.mono x5.f _ rl,by lia,hc,hr⟩
 |true=>
  rw [if_pos rfl] at hc
  obtain⟨q,e3,hc⟩:=bind_some hc
  obtain⟨rt,e4,hc⟩:=bind_some hc
  cases hc
  obtain⟨re,e5,e6⟩:=bind_some e3
  refine b7O ⟨F5,ρ1,re,en4.ext x5,e5,λv F6 H6 o6=> ?_⟩
  obtain⟨F7,o7⟩:=o6.toVal e6
  have hx6:H6 D=ξ (.lst xs):=o6.x.h _ _ (x5.h _ _ hx)
  have fD7:F7 D=ζ:=o7.x.nw D _ fD5 (x5.h _ _ hx) (λ_ h=>nomatch h)
  have ex7:=ex5.trans o7.x
  have hlen:=rl.length
  refine⟨hx6,by lia,ps.length - (i+1),by lia,F7,done++[q],rt,by lia,rfl,⟨ex7.f,λa o z=> ?_,λa o z=> ?_,ex7.nw,ex7.nf⟩,fD7,n6.append (n6.mono (x5.f.trans o7.x.f) _ rl) ⟨v,[],rfl,o7.rep,rfl⟩,by simp;lia,e4,by rw [List.append_assoc];exact hr⟩
  ·rw [i6 (m6 z hD)];exact ex7.h _ _ z
  ·rw [i6 (m6 z fD7)];exact ex7.fh _ _ z
theorem b8E{K:AE}{F H:Hp}{D:AB}{c:MT}{elt:M}{tg:PV->b7->Υ b7}{ρ:b7}{ps r:List PV}{m:Nat}{xs:List V}{H':Hp}(hD:H D=ζ)(W:WC K F H D c elt tg ρ ps r ps.length m xs H')(hx:H' D=ξ (.lst xs)):∃F',A7 K F H F' H' (.ref D) (.own r):=by
 obtain⟨F',done,rest,hi,hm,ex,fD,rl,dl,hc,hr⟩:=W;rw [List.drop_length] at hc;cases hc;rw [Am] at hr;subst hr;exact⟨F',ex,⟨D,xs,rfl,fD,hx,rl⟩,λ_ _ _ e=>by cases e;exact hD⟩
structure Src(K:AE)(F0 F H:Hp)(J:It)(ps:List PV):Prop where
 st:∀i H',n0 H H'->ps.length<=i->J.stop i H'
 go:∀i p H',n0 H H'->ps[i]?=ξ p->J.go i H'
 yd:∀i p x H' H'',n0 H H'->ps[i]?=ξ p->J.yld i H' x H''->H''=H'/\E7 K F p x
def SI(K:AE)(mi:MI)(wi:TI):Prop:=∀F H σ ρ ps (R:It->Hp->Prop),M9 K F H σ ρ->mi ρ=ξ ps->(∀F1 H1 J,Ext F H F1 H1->Src K F F1 H1 J ps->R J H1)->wi σ H R
abbrev EI(X:Cx)(tg iter:AF)(mi:MI):Prop:=∃wi,PI X tg iter wi/\SI X.K mi wi
section
variable {X:Cx}{tg:AF}
def A8(m:M):MI:=λρ=>(m ρ).bind λr=>PyData.items? r.rd
theorem a2E{l:AF}{m:M}(h:EE X l m):EI X tg l (A8 m):=⟨_,b94 h,λF H σ ρ ps R en e k=>by
 obtain⟨r,e1,e2⟩:=bind_some e;refine⟨F,ρ,r,en,e1,λv F1 H1 o1=> ?_⟩;obtain⟨a,xs,rfl,hq,rl⟩:=a0J o1.x.fh o1.rep e2;have hlen:=rl.length;rcases hq with hq|hq
 ·refine⟨a,rfl,.inl ⟨⟨xs,hq⟩,k F1 H1 _ o1.x ⟨λi H2 s h=>⟨xs,J2 s hq,by lia⟩,λi p H2 s h=> ?_,λi p x H2 H3 s h y=> ?_⟩⟩⟩
  ·obtain⟨v,ev,_⟩:=rl.get h;exact⟨xs,v,J2 s hq,ev⟩
  ·obtain⟨v,ev,rv⟩:=rl.get h;obtain⟨e,y⟩:=y;have:=y xs (J2 s hq);rw [ev] at this;cases this;exact⟨e,rv⟩
 ·refine⟨a,rfl,.inr ⟨⟨xs,hq⟩,k F1 H1 _ o1.x ⟨λi H2 s h=>⟨xs,B3 s hq,by lia⟩,λi p H2 s h=> ?_,λi p x H2 H3 s h y=> ?_⟩⟩⟩
  ·obtain⟨v,ev,_⟩:=rl.get h;exact⟨xs,v,B3 s hq,ev⟩
  ·obtain⟨v,ev,rv⟩:=rl.get h;obtain⟨e,y⟩:=y;have:=y xs (B3 s hq);rw [ev] at this;cases this;exact⟨e,rv⟩⟩
theorem c2e{K:AE}{F0 F H:Hp}{lo hi:Int}:Src K F0 F H (Itr lo (hi - lo).toNat) (a1q lo hi):=by
 have hl:=a4h lo hi;refine⟨λi H2 s h=> ?_,λi p H2 s h=> ?_,λi p x H2 H3 s h y=> ?_⟩
 ·show(hi - lo).toNat<=i;lia
 ·have:=(Ai.mp h).1;show i<(hi - lo).toNat;lia
 ·have hi':=(Ai.mp h).1;rw [a6C (by lia)] at h
  cases h;obtain⟨e,y⟩:=y;exact⟨e,y⟩
theorem c03{a:AF}{m:MA}{p rp:Pos}(hgl:Gl X "range")(hm:X.mg "range"=ζ)(ha:EA X [a] m)(hst:AL [a] X.env=[(false,eval a X.env)]:=by rfl):EI X tg (.Call (.Name "range" p) [a] [] rp) (M1 m):=⟨_,b1w hgl hm ha hst,λF H σ ρ ps R en e k=>by
 obtain⟨qs,e1,e2⟩:=bind_some e;refine⟨F,ρ,qs,en,e1,λvs F1 H1 x rl=> ?_⟩;split at e2
 ·rename_i j;split at e2
  ·rename_i c;have c:=a2Q.mp c;cases e2;obtain⟨v,r,rfl,rv,rr⟩:=rl;cases rv;cases rr;have hz:(j - 0).toNat=j.toNat:=by lia
   refine⟨j,rfl,c.1,c.2,k F1 H1 _ x ?_⟩;have z:=c2e (K:=X.K) (F0:=F) (F:=F1) (H:=H1) (lo:=0) (hi:=j);rw [hz] at z;exact z
  ·cases e2
 ·cases e2⟩
abbrev EC(X:Cx)(ifs:List AF)(c:MT):Prop:=PCs X ifs (tMT X.K c)
theorem a2D:EC X [] a0l:=λpins s σ H Q I ⟨F,ρ,b,en,e,k⟩=>by
 cases e;exact c1T pins s σ H Q I (k F H (Ext.refl en.fh))
theorem c3k{c:AF}{mc:MT}(h:ET X c mc):EC X [c] mc:=c1U h
theorem b02{mi:MI}{wi:TI}{g:TG}{c:MT}{elt:M}{t:PV->b7->Υ b7}{N:List Str}{k:Nat}(hi:SI X.K mi wi)(T:∀n,n=N.length->b0T X.K n g t){σ:L2.St}{H:Hp}{Q:VK}(hl:σ.length=N.length)(h:tM X.K (P6 k mi t c elt) σ H Q):b7b wi g (tMT X.K c) (tM X.K elt) k σ H Q:=by
 obtain⟨F,ρ,r,en,e,kk⟩:=h;obtain⟨ps,e1,e⟩:=bind_some e;split at e
 ·rename_i hsz;obtain⟨rs,e2,e⟩:=bind_some e;cases e;refine hi F H σ ρ ps _ en e1 λF1 H1 J x1 S D hD=> ?_;have en1:=en.ext x1;have T':b0T X.K ρ.length g t:=T _ (by rw [<-en.len,hl])
  refine⟨WC X.K F1 H1 D c elt t (ρ++AS k ζ) ps rs,⟨ps.length,F1,[],rs,Nat.zero_le _,rfl,Ext.layH x1.fh hD,x1.fh.free hD,rfl,AQ _,e2,rfl⟩,λi m xs H2 W hx=> ?_⟩;have W':=W;obtain⟨F',done,rest,hi',hm,ex,fD,rl,dl,hc,hr⟩:=W';have sF:n0 H1 H2:=ex.h
  by_cases hlt:i<ps.length
  ·refine .inr ⟨S.go i ps[i] H2 sF (by simp [hlt]),λx H3 y=> ?_⟩
   obtain⟨e3,rx⟩:=S.yd i ps[i] x H2 H3 sF (by simp [hlt]) y
   subst e3;exact b7s T' en1 hD hsz W hx (by simp [hlt]) rx
  ·have e3:i=ps.length:=by lia
   subst e3;refine .inl ⟨S.st _ H2 sF (AQ _), ?_⟩;obtain⟨F2,o⟩:=b8E hD W hx;exact kk _ F2 H2 (A7.trans x1 o)
 ·cases e
theorem a4I{elt iter:AF}{ifs:List AF}{scope:Scope}{N0 ys:List Str}{mi:MI}{g:TG}{c:MT}{m:M}{t:PV->b7->Υ b7}{pos:Pos}(hx:∀e s,X.xe e s->False)(hc:X.calm=true)(S:W3 X.N N0 ys X.env scope)(hi:EI X tg iter mi)
 (hg:∀C fp pins s H,PG (N3 X N0 scope ys C fp pins s H) tg g) (T:∀n,n=X.N.length->b0T X.K n g t) (ht:∀C fp pins s H,EC (N3 X N0 scope ys C fp pins s H) ifs c) (he:∀C fp pins s H,EE (N3 X N0 scope ys C fp pins s H) elt m)
 (hs:∀x,foldedSetIterable iter X.env x=pure x:=by intro _;rfl):EE X (.ListComp elt [⟨tg,iter,ifs,0⟩] scope pos) (P6 ys.length mi t c m):=by
 obtain⟨wi,h1,h2⟩:=hi
 intro pins s σ H Q I h
 exact c1W hx hc S h1 hg ht he hs pins s σ H Q I (b02 (N:=X.N) h2 T I.len h)
theorem a8i{i:Nat}{y:Str}{elt iter:AF}{ifs:List AF}{scope:Scope}{N0 ys:List Str}{mi:MI}{g:TG}{c:MT}{m:M}{t:PV->b7->Υ b7}{pos py spos:Pos}(hN:X.N.Nodup)(hx:∀e s,X.xe e s->False)(hc:X.calm=true)(S:W3 X.N N0 ys X.env scope)(hi:EI X tg iter mi)
 (hg:∀C fp pins s H,PG (N3 X N0 scope ys C fp pins s H) tg g) (T:∀n,n=X.N.length->b0T X.K n g t) (ht:∀C fp pins s H,EC (N3 X N0 scope ys C fp pins s H) ifs c) (he:∀C fp pins s H,EE (N3 X N0 scope ys C fp pins s H) elt m)
 (hiy:X.N[i]?=ξ y:=by rfl) (hy:X.env.scope.names.lookup y=ξ .local:=by rfl) (hsw:swapsWith (.ListComp elt [⟨tg,iter,ifs,0⟩] scope pos) (ξ (.Name y py)) spos.line X.env=pure true:=by rfl)
 (hs:∀x,foldedSetIterable iter X.env x=pure x:=by intro _;rfl):ES X (.Assign [.Name y py] (.ListComp elt [⟨tg,iter,ifs,0⟩] scope pos) spos) (n3 i (P6 ys.length mi t c m)):=by
 obtain⟨wi,h1,h2⟩:=hi
 intro pins s σ H D I ⟨F0,H0,F,ρ,fl,so,e,fin⟩
 obtain⟨r,e1,e⟩:=bind_some e
 split at e
 ·rename_i c
  cases e
  exact c12 hx hc S h1 hg ht he hN hiy hy hsw hs pins s σ H D I (b02 (N:=X.N) h2 T I.len ⟨F,ρ,r,so.e,e1,λv F' H' o=>fin _ F' H' o.x.f (so.set o c i)⟩)
 ·cases e
end
def a3a:List PV->Υ (List Str)
 |[]=>ξ []
 | .str x::r=>(a3a r).map (x::·)
 |_=>ζ
theorem a9U:∀xs:List Str,a3a (xs.map .str)=ξ xs
 |[]=>rfl
 |x::xs=>by rw [AM];simp only [a3a,a9U xs,BB]
theorem a5R{K:AE}{H:Hp}:∀{ps:List PV} {ys:List Str} {xs:List V} {us:List AA},a3a ps=ξ ys->n6 K H ps xs->v9 xs us->StrsAre us ys
 |[],_,_,_,h,r,v=>by cases h;cases r;cases v;exact .nil
 |p::ps,ys,_,_,h,⟨x,r,e,hp,t⟩,v=>by
  subst e;cases p with
  |str z=>
   simp only [a3a] at h;cases q:a3a ps with
   |none=>rw [q] at h;cases h
   |some zs=>
    rw [q] at h;cases h;cases hp;cases v with
    |cons a b=>
     obtain⟨tk,rfl⟩:=a;exact .cons z tk (a5R q t b)
  |_=>simp [a3a] at h
def W1(x y:d5):Υ d5:=match x with
 | .v (.str z)=>(match PyData.items? y.rd with
   |some ps=>(a3a ps).bind λys=>if(ys.map (·.length)).sum+ys.length*z.length<=16777216 then ξ (.v (.str (Txt.join z ys))) else ζ
   |none=>ζ)
 |_=>ζ
section
variable {X:Cx}
theorem c1D:MtR X "str.join" (λx xs H Q=>∃F y rx ry rz,xs=[y]/\n0 F H/\R6 X.K F H x rx/\R6 X.K F H y ry/\W1 rx ry=ξ rz/\∀v F' H',A7 X.K F H F' H' v rz->Q v H'):=by
 intro pins s σ H x xs v us Q I rx rv h;obtain⟨F,y,ra,rb,rz,rfl,s0,h1,h2,h3,k⟩:=h
 ext s
 unfold W1 at h3;split at h3
 ·rename_i z;split at h3
  ·rename_i ps e;obtain⟨ys,e2,h3⟩:=bind_some h3;split at h3
   ·rename_i c;cases h3;cases h1;obtain⟨t,rfl⟩:=rx;obtain⟨a,xs,rfl,hq,r⟩:=a0J s0 h2 e;cases ru;rcases hq with hq|hq
    ·obtain⟨its,rv,pl,hz⟩:=I.list hq;exact join_list pl.isList (by simpa using a5R e2 r rv) c λt' k'=>⟨.str _,H,I.tok _,⟨_,rfl⟩,k _ F H (A7.here s0 rfl)⟩
    ·obtain⟨its,rv,pl,hz⟩:=I.tuple hq;exact join_tuple pl (by simpa using a5R e2 r rv) c λt' k'=>⟨.str _,H,I.tok _,⟨_,rfl⟩,k _ F H (A7.here s0 rfl)⟩
   ·cases h3
  ·cases h3
 ·cases h3
theorem a6d{o e:AF}{m n:M}{apos cpos:Pos}(ho:EE X o m)(ha:EE X e n)
 (hbase:attributeBase o "join" X.env (eval o X.env)=eval o X.env:=by rfl)
 (hfew:((backTo cpos (AL [e] X.env)).all (λx=> !x.1)&&(backToKw cpos (keywordEach [] X.env)).all (λx=>x.1.isSome)
  && decide ([e].length+([]:List Keyword).length+(if([]:List Keyword).isEmpty then 0 else 1)<30))=true:=by rfl)
 (hline:(apos.endLine==cpos.line)=true:=by rfl) (hs:AL [e] X.env=(false,eval e X.env)::AL [] X.env:=by rfl) (hplain:(backTo cpos (AL [] X.env)).any (·.1)=false:=by rfl):
 EE X (.Call (.Attribute o "join" apos) [e] [] cpos) (m2 W1 m n):=
 A2 (b9Z PySem.F.plainAttrs_str PySem.F.slot_str_join PySem.F.type_str_join c1D ho (D8 ha X5 hs) hbase hfew hline hs hplain) λσ H Q h0=>y6 h0 λF ρ r he hm k=>by
  ext l
  unfold W1 at hm;split at hm
  ·cases o1.rep;rfl
  ·cases hm
end
def cut{α:Type}(xs:List α)(lo hi:Υ Int):List α:=(xs.drop (HT.sIx xs.length 0 lo)).take (HT.sIx xs.length xs.length hi - HT.sIx xs.length 0 lo)
theorem a57(n d:Nat)(hd:d<=n)(o:Υ Int):(match o with|none=>(d:Int)|some i=>max 0 (min (if i<0 then i+n else i) n))=((HT.sIx n d o:Nat):Int):=by
 cases o with
 |none=>rfl
 |some i=>unfold HT.sIx;dsimp only;split<;>lia
theorem c0W(n:Nat)(lo hi:Υ Int):Builtin.Str.strSliceIndices lo hi 1 n=(AZ (HT.sIx n n hi - HT.sIx n 0 lo)).map (HT.sIx n 0 lo+·):=by
 have h1:=a57 n 0 (Nat.zero_le _) lo;have h2:=a57 n n (AQ _) hi;have key:∀a b:Int,a=((HT.sIx n 0 lo:Nat):Int)->b=((HT.sIx n n hi:Nat):Int)->sliceRange a b 1=(AZ (HT.sIx n n hi - HT.sIx n 0 lo)).map (HT.sIx n 0 lo+·):=λa b ha hb=>by rw [ha,hb,sliceRange_one]
 refine key _ _ ?_ ?_
 ·cases lo with
  |none=>rfl
  |some i=>exact h1
 ·cases hi with
  |none=>rfl
  |some i=>exact h2
theorem c2n(z:Str)(lo hi:Υ Int):Txt.slice z lo hi=⟨(cut z.cps.toList lo hi).toArray⟩:=by
 have hz:z.cps.toList.length=z.length:=by simp [Str.length]
 unfold Txt.slice;rw [c0W,pick_run z.cps];split
 ·rename_i c;have c':HT.sIx z.length z.length hi - HT.sIx z.length 0 lo=z.length:=by
   simpa using c
  have hle:=HT.sIx_le z.length z.length (AQ _) hi;unfold cut;rw [hz,c'];have:HT.sIx z.length 0 lo=0\/z.length=0:=by lia
  cases z with
  |mk a=>
   congr 1
   rcases this with h|h
   ·rw [h,List.drop_zero];have:a.toList.length=(⟨a⟩:Str).length:=hz;rw [<-this,List.take_length]
   ·have h0:a.toList=[]:=List.length_eq_zero_iff.mp (by rw [<-h];exact hz)
    have:a= #[]:=by
     apply Array.ext';rw [h0]
    subst this;simp
 ·unfold cut;rw [hz]
theorem b0Q(items:Array AA)(lo hi:Υ Int):slicePick items lo hi ζ=(cut items.toList lo hi).toArray:=by
 have hz:items.toList.length=items.size:=by simp
 unfold slicePick cut;rw [hz];have key:∀a b:Int,a=((HT.sIx items.size 0 lo:Nat):Int)->b=((HT.sIx items.size items.size hi:Nat):Int)->(List.filterMap (items[·]?) (sliceRange a b 1)).toArray=((items.toList.drop (HT.sIx items.size 0 lo)).take (HT.sIx items.size items.size hi - HT.sIx items.size 0 lo)).toArray:=λa b ha hb=>by rw [ha,hb,sliceRange_one,pick_run]
 refine key _ _ ?_ ?_
 ·cases lo with
  |none=>rfl
  |some i=>exact a57 items.size 0 (Nat.zero_le _) (ξ i)
 ·cases hi with
  |none=>rfl
  |some i=>exact a57 items.size items.size (AQ _) (ξ i)
theorem n6.cut{K:AE}{H:Hp}{ps:List PV}{xs:List V}(r:n6 K H ps xs)(lo hi:Υ Int):n6 K H (PU.cut ps lo hi) (PU.cut xs lo hi):=by
 unfold PU.cut;rw [r.length];exact(r.drop _).take _
theorem c0X{α:Type}(xs:List α)(lo hi:Υ Int):(cut xs lo hi).length<=xs.length:=by
 unfold cut;rw [List.length_take,List.length_drop];lia
theorem a4R{prog:AJ}{w:AI}{A:AK}{E:AA->AC->Prop}{s:AC}{t sl:AB}{items:Array AA}{vl vu:AA}{lo hi:Υ Int}{Q:AA->AC->Prop}(ht:IsTup s.heap t items)(hs:s.heap.IsSliceOf sl vl vu .none)(pl:IsPart vl lo)(pu:IsPart vu hi)
 (hw:HT.sIx items.size 0 lo=0/\HT.sIx items.size items.size hi=items.size)
 (h:Q (.ref t) s):AH (model prog w) A (getItem (.ref t) (.ref sl)) Q E s:=by
 obtain⟨os,hos,hcs,hds⟩:=id hs
 have hTs:s.TypeIs (.ref sl) "slice":=⟨os,hos,hcs⟩
 unfold getItem
 try with_reducible refine wpAny_holding ?_
 first|refine AG (AN ?_)|skip
 refine AG (wpAny_sequenceKey ht.typeIs (by decide) ?_)
 refine AG (wpAny_callSpecial?_slot (name:=AD "__getitem__") ht.typeIs PyProof.Rows.slot_tuple_getitem
  (wpAny_call_entry PyProof.Rows.slot_tuple_getitem ht.typeIs entry_tuple_getitem ?_ (args_tuple_getitem _ _)))
 show AH _ _ (Builtin.Tuple.tupleItemsOf (.ref t)>>=_) _ _ s
 refine AG (tupleItemsOf_ ht ?_)
 refine AG (wpAny_typeOf hTs ?_)
 rw [if_pos (by decide)]
 refine AG (HT.sliceApplied_gen hs pl pu ?_)
 have hno:(((HT.sIx items.size 0 lo:Nat):Int)==0 &&(1:Int)==1 &&(HT.sIx items.size items.size hi - HT.sIx items.size 0 lo)==items.size)=true:=by
  rw [hw.1,hw.2];simp
 show AH _ _ (if(((HT.sIx items.size 0 lo:Nat):Int)==0 &&(1:Int)==1 &&(HT.sIx items.size items.size hi - HT.sIx items.size 0 lo)==items.size)=true then _ else _) _ _ s
 rw [if_pos hno]
 refine AG (AG (m:=typeOf (.ref t)) (wpAny_typeOf ht.typeIs (AN ?_)))
 rw [if_pos (by decide)]
 wp_walk
 exact⟨_,rfl,AN h⟩
theorem c2l{X:Cx}:SlR X (λx lo hi H Q=>∃a xs,x= .ref a/\SqT X.K H a xs/\(HT.sIx xs.length 0 lo=0/\HT.sIx xs.length xs.length hi=xs.length)/\Q (.ref a) H):=by
 ext w
 refine⟨"tuple",_,PyProof.Rows.slot_tuple_getitem.lookup,ht.typeIs, ?_⟩;exact a4R ht hs pl pu (by rw [hlen];exact hw) ⟨.ref a,H,I,rfl,q⟩
theorem b7u{α:Type}{xs:List α}{lo hi:Υ Int}(h:HT.sIx xs.length 0 lo=0/\HT.sIx xs.length xs.length hi=xs.length):cut xs lo hi=xs:=by
 unfold cut;rw [h.1,h.2,List.drop_zero,Nat.sub_zero,List.take_length]
section
variable {X:Cx}
theorem b5x{h:Heap}{sl:AB}{vl vu:AA}{lo hi:Υ Int}(hs:h.IsSliceOf sl vl vu .none)(pl:IsPart vl lo)(pu:IsPart vu hi):∃l u:Υ (Int×Tok),h.IsSlice sl l u ζ/\l.map (·.1)=lo/\u.map (·.1)=hi:=by
 obtain⟨o,ho,hc,hd⟩:=hs;cases pl with
 |none=>
  cases pu with
  |none=>exact⟨ζ,ζ,⟨o,ho,hc,hd⟩,rfl,rfl⟩
  |int j t=>exact⟨ζ,ξ (j,t),⟨o,ho,hc,hd⟩,rfl,rfl⟩
 |int i t=>
  cases pu with
  |none=>exact⟨ξ (i,t),ζ,⟨o,ho,hc,hd⟩,rfl,rfl⟩
  |int j t'=>exact⟨ξ (i,t),ξ (j,t'),⟨o,ho,hc,hd⟩,rfl,rfl⟩
theorem c4H:SlR X (λx lo hi H Q=>∃z,x= .str z/\z.length<=AO/\Q (.str (Txt.slice z lo hi)) H):=by
 intro pins s σ H x v vl vu lo hi sl Q I rx hs pl pu h;obtain⟨z,rfl,hz,q⟩:=h;obtain⟨t,rfl⟩:=rx;obtain⟨l,u,hs',e1,e2⟩:=b5x hs pl pu;subst e1 e2;exact⟨"str",_,PySem.F.slot_str_getitem.lookup,typeIs_str _ _ _,wpAny_getItem_str_slice hs' rfl (post_val_or_str ⟨Nat.le_trans (Txt.slice_le z _ _) hz,λt' k=>⟨.str _,H,I.tok _,⟨_,rfl⟩,q⟩⟩)⟩
theorem c4G:SlR X (λx lo hi H Q=>∃a xs,x= .ref a/\SqL X.K H a xs/\∀p,H p=ζ->Q (.ref p) (t8 H p (.lst (PU.cut xs lo hi)))):=by
 intro pins s σ H x v vl vu lo hi sl Q I rx hs pl pu h;obtain⟨a,xs,rfl,hx,q⟩:=h;cases rx;obtain⟨its,r,pl',hz⟩:=I.list hx;have hlen:=r.length;refine⟨"list",_,list_getitem_lookup,pl'.isList.typeIs, ?_⟩;refine wpAny_getItem_list_slice pl'.isList hs pl pu .none (by simp) ?_ (by rw [Ah];lia)
 rw [b0Q];refine⟨.ref s.heap.objs.size,_,I.laid (t':=s.toks) (o:= .lst (PU.cut xs lo hi)) (λb ob q=>AY _ q) (AQ _) ?_,rfl,q _ (I.hok.fresh (AQ _))⟩;refine⟨Nat.le_trans (c0X xs lo hi) hz,PU.cut its lo hi,0, ?_,Ae _ rfl⟩;unfold PU.cut;rw [hlen];exact(r.drop _).take _
def gSl(x:d5)(lo hi:Υ Int):Υ d5:=match x with
 | .v (.str z)=>if z.length<=AO then ξ (.v (.str ⟨(cut z.cps.toList lo hi).toArray⟩)) else ζ
 | .v (.tuple ps)=>ξ (.v (.tuple (cut ps lo hi)))
 | .v (.list ps)=>ξ (.own (cut ps lo hi))
 | .ow (.lst ps)=>ξ (.own (cut ps lo hi))
 | .bo (.lst ps)=>ξ (.own (cut ps lo hi))
 |_=>ζ
def rSl(K:AE):V->Υ Int->Υ Int->Hp->VK->Prop:=λx lo hi H Q=>∃F rx rz,n0 F H/\R6 K F H x rx/\gSl rx lo hi=ξ rz/\∀v F' H',A7 K F H F' H' v rz->Q v H'
theorem slm:SlR X (rSl X.K):=by
 intro pins s σ H x v vl vu lo hi sl Q I rx hs pl pu h;obtain⟨F,ra,rz,s0,h1,h2,k⟩:=h;have lst:∀ps,PyData.items? ra.rd=ξ ps->(∃a xs,x= .ref a/\SqL X.K H a xs/\n6 X.K F ps xs)->rz= .own (cut ps lo hi)->∃T id,typeLookup (.type T) "__getitem__"=pure (ξ (.builtin id))/\s.TypeIs v T/\AH (model X.prog X.w) X.A (getItem v (.ref sl)) (EP X pins σ Q) X.xe s:=λps e ⟨a,xs,e1,hq,rl⟩ e2=>by
  subst e2;exact c4G pins s σ H x v vl vu lo hi sl Q I rx hs pl pu ⟨a,xs,e1,hq,λp hp=>k _ _ _ (A7.lst s0 hp (rl.cut lo hi))⟩
 unfold gSl at h2;split at h2
 ·rename_i z;split at h2
  ·rename_i c;cases h2;cases h1;refine c4H pins s σ H _ v vl vu lo hi sl Q I rx hs pl pu ⟨z,rfl,c, ?_⟩;rw [c2n];exact k _ F H (A7.here s0 rfl)
  ·cases h2
 ·rename_i ps;cases h2
  by_cases c:HT.sIx ps.length 0 lo=0/\HT.sIx ps.length ps.length hi=ps.length
  ·obtain⟨a,xs,rfl,hq,rl⟩:=h1;have hlen:=rl.length;refine c2l pins s σ H _ v vl vu lo hi sl Q I rx hs pl pu ⟨a,xs,rfl,B3 s0 hq.sq,by rw [hlen];exact c, ?_⟩
   rw [b7u c] at k;exact k _ F H (A7.here s0 ⟨a,xs,rfl,hq,rl⟩)
  ·obtain⟨a,xs,rfl,hq,rl⟩:=h1;have hlen:=rl.length;refine c4I pins s σ H _ v vl vu lo hi sl Q I rx hs pl pu ⟨a,xs,rfl,B3 s0 hq.sq,by rw [hlen];exact c,λp hp=> ?_⟩
   exact k _ _ _ (A7.tup s0 hp (rl.cut lo hi))
 ·rename_i ps;cases h2;obtain⟨a,xs,e1,hq,rl⟩:=h1;exact lst ps rfl ⟨a,xs,e1,J2 s0 hq,rl⟩ rfl
 ·rename_i ps;cases h2;obtain⟨a,xs,e1,_,hq,rl⟩:=h1;exact lst ps rfl ⟨a,xs,e1,SqL.of hq,rl⟩ rfl
 ·rename_i ps;cases h2;obtain⟨a,xs,e1,_,hq,rl⟩:=h1;exact lst ps rfl ⟨a,xs,e1,SqL.of hq,rl⟩ rfl
 ·cases h2
abbrev MO:=b7->Υ (Υ Int)
def tMO(K:AE)(m:MO):TO:=λσ H Q=>∃F ρ o,M9 K F H σ ρ/\m ρ=ξ o/\∀F' H',Ext F H F' H'->Q o H'
abbrev EO(X:Cx)(e:Υ AF)(m:MO):Prop:=PO X e (tMO X.K m)
def X4:MO:=λ_=>ξ ζ
def b9n:d5->Υ (Υ Int)
 | .v (.int i)=>ξ (ξ i)
 |_=>ζ
def V4(m:M):MO:=λρ=>(m ρ).bind b9n
theorem a6f:EO X ζ X4:=λpins s σ H Q I ⟨F,ρ,o,en,e,k⟩=>by
 cases e;exact c1Z pins s σ H Q I (k F H (Ext.refl en.fh))
theorem a6g{e:AF}{m:M}(h:EE X e m):EO X (ξ e) (V4 m):=λpins s σ H Q I ⟨F,ρ,o,en,e1,k⟩=>by
 obtain⟨r,e2,e3⟩:=bind_some e1;refine c10 h pins s σ H Q I ⟨F,ρ,r,en,e2,λv F1 H1 o1=> ?_⟩;unfold b9n at e3;split at e3
 ·cases e3;exact⟨_,o1.rep,k F1 H1 o1.x⟩
 ·cases e3
def R9(m:M)(lo hi:MO):M:=λρ=>(m ρ).bind λr=>(lo ρ).bind λl=>(hi ρ).bind λh=>gSl r l h
theorem a3N{e:AF}{lo hi:Υ AF}{m:M}{ml mh:MO}{pos p2:Pos}(he:EE X e m)(hl:EO X lo ml)(hh:EO X hi mh):EE X (.Subscript e (.Slice lo hi ζ p2) pos) (R9 m ml mh):=
 A2 (b93 slm he hl hh) λσ H Q h0=>y6 h0 λF ρ r en e k=>by
  obtain⟨ra,e1,e⟩:=bind_some e;obtain⟨l,e2,e⟩:=bind_some e;obtain⟨h,e3,e⟩:=bind_some e;exact⟨F,ρ,ra,en,e1,λv F1 H1 o1=>⟨F1,ρ,l,en.ext o1.x,e2,λF2 H2 x2=>⟨F2,ρ,h,(en.ext o1.x).ext x2,e3,λF3 H3 x3=>⟨F3,ra,r,x3.fh,(o1.rep.ext x2).ext x3,e,λz F4 H4 o4=>k z F4 H4 (A7.trans ((o1.x.trans x2).trans x3) o4)⟩⟩⟩⟩
end
def Its(x:Str):It:=⟨λi _=>i<x.cps.size,λi H v H'=>H'=H/\∃c,x.cps[i]?=ξ c/\v= .str ⟨#[c]⟩,λi _=>x.cps.size<=i⟩
theorem c0H{P:AJ}{w:AI}{K:AE}{tg:AF}(b:Bool)(it:AB)(x:Str)(t:Tok):b1X P w K tg (Its x) [it] it (λi h=>h.IsStrIter it (if b then "str_ascii_iterator" else "str_iterator") x t i) where
 mem:=by simp
 obj:=λi h st c hb=>by
  have e:c=it:=by simpa using hb
  subst e
  ext j
 keep:=λi h h' st k=>let ⟨o,e,r⟩:=st;⟨o,k it (by simp) o e,r⟩
 item:=by
  ext g
  have hg:i<x.cps.size:=hg;have hx:x.cps[i]?=ξ x.cps[i]:=by simp [hg]
  have fin:∀h':Heap,h'.IsStrIter it (if b then "str_ascii_iterator" else "str_iterator") x t (i+1)->Heap.SameBut it s.heap h'->∃u,ξ (Value.str ⟨#[x.cps[i]]⟩ s.toks)=ξ u/\
   AH (model X.prog X.w) X.A (letOwnedTupleGo tg (.ref it) u) (λ_ s2=>∃y H',l8 X pins σ H' s2/\u0 y u/\(Its x).yld i H y H'/\s2.heap.IsStrIter it (if b then "str_ascii_iterator" else "str_iterator") x t (i+1)/\∀b∈[it],H' b=ζ) E {s with heap:=h',toks:=s.toks+1}:=λh' st' sb=>by
   have I1:l8 X pins σ H {s with heap:=h',toks:=s.toks+1}:=I.turned (λb o hb e=>(sb.2 b hb).trans e) f0 f1 f3 f4 f5
   obtain⟨o,e,c,d⟩:=id st'
   refine⟨_,rfl,b3Z (s:={s with heap:=h',toks:=s.toks+1}) (n:=if b then "str_ascii_iterator" else "str_iterator") e c d (by cases b<;>decide) ⟨.str ⟨#[x.cps[i]]⟩,H,I1,⟨_,rfl⟩,⟨rfl,_,hx,rfl⟩,st',λb hb=>(hf b hb).1⟩⟩
  cases b with
  |true=>exact wpAny_pyNext_ascii_item st hx λh' a b=>fin h' a b
  |false=>exact wpAny_pyNext_wide_item st hx λh' a b=>fin h' a b
 done:=by
   ext g
   have hg:x.cps.size<=i:=hg;have hx:x.cps[i]?=ζ:=by simp [hg]
   cases b with
   |true=>exact wpAny_pyNext_ascii_end (I.ok.hd hc) st hx λh' eb=>⟨rfl,I.turned (t':=s.toks) (λb o hb e=>eb b o hb e) f0 f1 f3 f4 f5⟩
   |false=>exact wpAny_pyNext_wide_end (I.ok.hd hc) st hx λh' eb=>⟨rfl,I.turned (t':=s.toks) (λb o hb e=>eb b o hb e) f0 f1 f3 f4 f5⟩
 self:=λ_ _ _ _ _ st h=>by
  cases b with
  |true=>exact wpAny_pyIter_striter_ascii st h
  |false=>exact wpAny_pyIter_striter_wide st h
section
variable {X:Cx}{tg:AF}
def c57(tl:TE):TI:=λσ H R=>tl σ H λx H1=>∃z,x= .str z/\R (Its z) H1
theorem c4w{l:AF}{tl:TE}(hl:PE X l tl):PI X tg l (c57 tl):=by
 ext n
 obtain⟨z,e,q⟩:=q1;subst e;obtain⟨t,rfl⟩:=r1;have fin:∀b:Bool,PIE X pins σ tg R (.ref s1.heap.objs.size) {s1 with heap:=s1.heap.push {cls:= .type (if b then "str_ascii_iterator" else "str_iterator"),data:= .fields #[.str z t,.int 0 0]}}:=λb=>by
  refine⟨s1.heap.objs.size,[s1.heap.objs.size],_,_,H1,rfl,I1.kept (t':=s1.toks) λb o e=>AY _ e,c0H b _ z t,⟨_,Ae _ rfl,rfl,rfl⟩,λc hb=> ?_,q⟩;have e:c=s1.heap.objs.size:=by simpa using hb
  subst e;exact I1.fpOk (AQ _) (I1.hok.fresh (AQ _))
 cases ha:z.cps.all (· <128)
 ·exact wpAny_pyIter_wide ha (fin false)
 ·exact wpAny_pyIter_ascii ha (fin true)
structure b46(K:AE)(F:Hp)(J:It)(ps:List PV):Prop where
 st:∀i H',n0 F H'->ps.length<=i->J.stop i H'
 go:∀i p H',n0 F H'->ps[i]?=ξ p->J.go i H'
 yd:∀i p x H' H'',n0 F H'->ps[i]?=ξ p->J.yld i H' x H''->H''=H'/\E7 K F p x
def SIF(K:AE)(mi:MI)(wi:TI):Prop:=∀F H σ ρ ps (R:It->Hp->Prop),M9 K F H σ ρ->mi ρ=ξ ps->(∀F1 H1 J,Ext F H F1 H1->b46 K F1 J ps->R J H1)->wi σ H R
abbrev EIF(X:Cx)(tg iter:AF)(mi:MI):Prop:=∃wi,PI X tg iter wi/\SIF X.K mi wi
def b2C(m:M):MI:=λρ=>(m ρ).bind λr=>match r with
 | .v (.str z)=>ξ (z.cps.toList.map λc=> .str ⟨#[c]⟩)
 |_=>ζ
theorem c04{l:AF}{m:M}(h:EE X l m):EIF X tg l (b2C m):=⟨_,c4w h,λF H σ ρ ps R en e k=>by
 obtain⟨r,e1,e2⟩:=bind_some e;refine⟨F,ρ,r,en,e1,λv F1 H1 o1=> ?_⟩;split at e2
 ·rename_i z;cases e2;cases o1.rep;refine⟨z,rfl,k F1 H1 _ o1.x ⟨λi H2 s h=> ?_,λi p H2 s h=> ?_,λi p x H2 H3 s h y=> ?_⟩⟩
  ·have h:z.cps.size<=i:=by simpa using h
   exact h
  ·have:=(Ai.mp h).1;have h:i<z.cps.size:=by simpa using this
   exact h
  ·obtain⟨e,c,hc,rfl⟩:=y;refine⟨e, ?_⟩;rw [Ak,Array.getElem?_toList,hc] at h;cases h
   rfl
 ·cases e2⟩
theorem b80{K:AE}{F:Hp}{J:It}{ps:List PV}{g:TG}{tb:TS}{D:a1o}{σ:L2.St}{H:Hp}(S:b46 K F J ps)(Pv:Nat->L2.St->Hp->Prop)(h0:Pv 0 σ H)(hl:∀i σ H,Pv i σ H->n0 F H)
 (hs:∀i p x σ H,ps[i]?=ξ p->E7 K F p x->Pv i σ H->g x σ H λσ2 H2=>tb {D with nx:=Pv (i+1),ct:=Pv (i+1),bk:=D.nx} σ2 H2) (hd:∀σ H,Pv ps.length σ H->D.nx σ H):
 ∃W:Nat->Nat->L2.St->Hp->Prop,(∃m,W 0 m σ H)/\∀i m σ H,W i m σ H->
  (J.stop i H/\D.nx σ H)\/(J.go i H/\∃N:L2.St->Hp->Prop,(∀σ' H',N σ' H'->∃m',m'<m/\W (i+1) m' σ' H')/\∀x H',J.yld i H x H'->g x σ H' λσ2 H2=>tb {D with nx:=N,ct:=N,bk:=D.nx} σ2 H2):=by
 refine⟨λi m σ H=>m=ps.length - i/\i<=ps.length/\Pv i σ H,⟨ps.length,by simp,Nat.zero_le _,h0⟩, ?_⟩
 rintro i m σ H ⟨rfl,hi,p⟩
 have q:=hl i σ H p
 by_cases hlt:i<ps.length
 ·have e:ps[i]?=ξ ps[i]:=by simp [hlt]
  refine .inr ⟨S.go i ps[i] H q e,Pv (i+1),λσ' H' p'=>⟨ps.length - (i+1),by lia,rfl,hlt,p'⟩,λx H' y=> ?_⟩
  obtain⟨e2,rx⟩:=S.yd i ps[i] x H H' q e y
  subst e2
  exact hs i ps[i] x σ _ e rx p
 ·have e:i=ps.length:=by lia
  subst e
  exact .inl ⟨S.st _ H q (AQ _),hd σ H p⟩
theorem c07{iter:AF}{body:List Stmt}{mi:MI}{g:TG}{t:PV->b7->Υ b7}{b:MS}{pos:Pos}(hp:PassesOwn (model X.prog X.w) X.A X.env X.xe)(hc:X.calm=true)(hi:EIF X tg iter mi)(hg:PG X tg g)(T:a6V X.K g t)(hb:ESs X body b)
 (hs:∀x,foldedSetIterable iter X.env x=pure x:=by intro _;rfl):ES X (.For tg iter body [] pos) (M7 mi t b):=by
 obtain⟨wi,h1,h2⟩:=hi
 exact L6 (a5K hp hc h1 hg hb hs) λD σ H h0=>J4 h0 λF0 H0 F ρ fl so e fin=>by
  obtain⟨ps,e1,e⟩:=bind_some e;refine h2 F H σ ρ ps _ so.e e1 λF1 H1 J x S=> ?_;have fin1:=fin.later x.f;refine b80 S (PvL X.K F0 H0 F1 b t ps fl) ⟨F1,ρ,PU.n0.refl F1,so.ext x,e⟩ (λi σ H ⟨F2,_,s,so2,_⟩=>s.trans so2.e.fh) (λi p y σ H ep rp hp=> ?_) (λσ H hp=>a1b fin1 hp);exact a2j T fin1 ep hp λF2 s=>E7.mono s _ rp
end
def a6j:d5->d5->Υ d5
 | .v (.int i),.v (.int j)=>ξ (.v (.bool (decide (i<j))))
 | .v (.str i),.v (.str j)=>ξ (.v (.bool (decide (i.cps.toList<j.cps.toList))))
 |_,_=>ζ
def c1h:d5->d5->Υ d5
 | .v (.int i),.v (.int j)=>ξ (.v (.bool (decide (i<=j))))
 | .v (.str i),.v (.str j)=>ξ (.v (.bool (!decide (j.cps.toList<i.cps.toList))))
 |_,_=>ζ
section
variable {X:Cx}
theorem a6u:OpM X (compareOp .Lt) a6j:=by
 ext d
 unfold a6j at h3;split at h3
 ·ext ah
  exact c5r pins s σ H _ _ v u Q I rx ry ⟨_,_,rfl,rfl,k _ F H (A7.here s0 rfl)⟩
 ·ext ah
  exact b74 pins s σ H _ _ v u Q I rx ry ⟨_,_,rfl,rfl,k _ F H (A7.here s0 rfl)⟩
 ·cases h3
theorem c1P:OpM X (compareOp .LtE) c1h:=by
 ext d
 unfold c1h at h3;split at h3
 ·ext ah
  exact c5q pins s σ H _ _ v u Q I rx ry ⟨_,_,rfl,rfl,k _ F H (A7.here s0 rfl)⟩
 ·ext ah
  ext x
  exact PySem.P.le_str ⟨.bl _,H,I,rfl,k _ F H (A7.here s0 rfl)⟩
 ·cases h3
def b0n(neg:Bool)(x y:d5):Υ d5:=match x,y with
 | .v (.str i),.v (.str j)=>ξ (.v (.bool (if neg then !(!(Builtin.Str.occurrences j i 0 j.length 1).isEmpty) else !(Builtin.Str.occurrences j i 0 j.length 1).isEmpty)))
 |x,y=>gIn neg x y
theorem b20(hu:X.A.units+64<cLine):OpM X (compareOp .In) (b0n false):=by
 ext d
 unfold b0n at h3;split at h3
 ·ext ah
  exact b73 pins s σ H _ _ v u Q I rx ry ⟨_,_,rfl,rfl,k _ F H (A7.here s0 rfl)⟩
 ·exact c4g hu pins s σ H x y v u Q I rx ry ⟨F,_,_,rz,s0,h1,h2,h3,k⟩
def c1e(neg:Bool)(x y:d5):Υ d5:=match x,y with
 | .v (.bool a),.v (.bool b)=>ξ (.v (.bool (if neg then !(a==b) else a==b)))
 |x,y=>c3A neg x y
theorem b9o{a b:Bool}{M:Model}{A:AK}{E:AA->AC->Prop}{s:AC}{Q:AA->AC->Prop}(h:Q (.bool (a==b)) s):AH M A (compareOp .Is (.bool a) (.bool b)) Q E s:=by
 refine wpAny_is_plain (by cases a<;>cases b<;>rfl) ?_
 have e:(Value.bool a==Value.bool b)=(a==b):=by cases a<;>cases b<;>rfl
 rw [e];exact h
theorem c1N:OpM X (compareOp .Is) (c1e false):=by
 ext d
 unfold c1e at h3;split at h3
 ·cases h3;cases h1;cases h2;cases rx;cases ry;exact b9o ⟨.bl _,H,I,rfl,k _ F H (A7.here s0 rfl)⟩
 ·exact c1O pins s σ H x y v u Q I rx ry ⟨F,_,_,rz,s0,h1,h2,h3,k⟩
def a6k:d5->d5->Υ d5
 | .v (.str z),.v (.int k)=>if okC (λk n=>0<=k/\k<=1000000/\n*k<=16777216) k z.length=true then ξ (.v (.str ⟨(AS k.toNat z.cps.toList).flatten.toArray⟩)) else ζ
 | .ow (.lst ps),.v (.int k)=>if okC (λk n=>0<=k/\k<=1000000/\n*k<=16777216) k ps.length=true then ξ (.own (AS k.toNat ps).flatten) else ζ
 |x,y=>c1i x y
theorem a8V(xs:List Nat):∀(m:Nat) (acc:Array Nat),(AS m xs.toArray).foldl (· ++·) acc=acc++(AS m xs).flatten.toArray
 |0,acc=>by simp
 |m+1,acc=>by
  rw [At,List.foldl_cons,a8V xs m,At,List.flatten_cons];apply Array.ext';simp
theorem c2v{z:Str}{k:Int}(h0:0<=k):Txt.mul z k=⟨(AS k.toNat z.cps.toList).flatten.toArray⟩:=by
 unfold Txt.mul
 by_cases h1:k<1
 ·have:k=0:=by lia
  subst this
  rfl
 ·rw [if_neg h1]
  by_cases h2:(k==1||z.length==0)=true
  ·rw [if_pos h2];rw [Bool.or_eq_true] at h2;cases z with
   |mk a=>
    rcases h2 with h2|h2
    ·have:k=1:=by simpa using h2
     subst this;show(⟨a⟩:Str)=_
     congr 1
     apply Array.ext';simp
    ·have ha:a.size=0:=by simpa [Str.length] using h2
     have:a= #[]:=Array.eq_empty_of_size_eq_zero ha;subst this
     congr 1
     apply Array.ext';simp
  ·rw [if_neg h2];have e:z.cps=z.cps.toList.toArray:=by simp
   congr 1
   rw [e,a8V];simp
theorem a9G{K:AE}{H:Hp}{ps:List PV}{xs:List V}(r:n6 K H ps xs):∀m:Nat,n6 K H (AS m ps).flatten (AS m xs).flatten
 |0=>rfl
 |m+1=>by
  rw [At,At,List.flatten_cons,List.flatten_cons];exact r.append (a9G r m)
theorem b9V:OpM X (binaryOp .Mult) a6k:=by
 ext d
 unfold a6k at h3;split at h3
 ·rename_i z n;split at h3
  ·rename_i c;obtain⟨c0,c1,c2⟩:=a1G.mp c
   ext ah
   ext x
   have hz:z.length*n.toNat<=AO:=by
    rw [sizeLine_eq];have:((z.length*n.toNat:Nat):Int)=z.length*n:=by rw [Int.natCast_mul,Int.toNat_of_nonneg c0]
    lia
   refine SB.mul ⟨?_,λh4 h5 h6=> ?_,λh4 h5=> ?_⟩ λt' k'=>⟨.str _,H,I.tok _,⟨_,rfl⟩, ?_⟩
   ·have e1:¬n< -(2 ^ 63:Int):=by lia
    have e2:¬n>=2 ^ 63:=by lia
    simp [e1,e2]
    lia
   ·have h7:(2 ^ 63 - 1:Int)/ n<z.length:=h6;have h8:(2 ^ 63 - 1:Int)<(z.length:Int)*n:=by
     have:=Int.lt_mul_of_ediv_lt (a:=(2 ^ 63 - 1:Int)) (b:=(z.length:Int)) (c:=n) (by lia) h7
     exact this
    lia
   ·unfold Builtin.Str.tooLong;rw [decide_eq_false (by lia)]
   ·rw [c2v c0];exact k _ F H (A7.here s0 rfl)
  ·cases h3
 ·rename_i ps n;split at h3
  ·rename_i c;obtain⟨c0,c1,c2⟩:=a1G.mp c;cases h3;cases h2;obtain⟨a,xs,rfl,fa,hq,rl⟩:=h1;have hlen:=rl.length;have hz:xs.length*n.toNat<=AO:=by
    rw [sizeLine_eq,hlen];have:((ps.length*n.toNat:Nat):Int)=ps.length*n:=by rw [Int.natCast_mul,Int.toNat_of_nonneg c0]
    lia
   exact c4e pins s σ H _ _ v u Q I rx ry ⟨a,n,xs,rfl,rfl,hq,by lia,by lia,hz,λp hp=>k _ _ _ (A7.lst s0 hp (a9G rl _))⟩
  ·cases h3
 ·exact b9U pins s σ H x y v u Q I rx ry ⟨F,_,_,rz,s0,h1,h2,h3,k⟩
end
theorem a7g:fillsNumberSlot (.type "tuple") "mul"=pure false:=
 PySem.fillsNumberSlot_seq (id:="tuple.__mul__") (r:=ξ (.builtin "tuple.__rmul__")) PySem.F.slot_tuple_mul.lookup (by decide+kernel) PySem.F.slot_tuple_rmul.lookup (by decide+kernel)
theorem b3b:seqRepeat? (.type "tuple")=pure (ξ (.builtin "tuple.__mul__")):=by
 unfold seqRepeat?;rw [PySem.seqSlot_of (T:="tuple") (name:="__mul__") (id:="tuple.__mul__") PySem.F.slot_tuple_mul.lookup (by decide+kernel),PySem.seqSlot_of (T:="tuple") (name:="__rmul__") (id:="tuple.__rmul__") PySem.F.slot_tuple_rmul.lookup (by decide+kernel)]
 rfl
theorem a83(a:Int)(t:Tok)(l:AB)(items:Array AA)(n:Nat)(dd:Υ AB)(sl:Array (Υ AA)):Meets (Builtin.«int.__rmul__» ⟨[.int a t,.ref l],[]⟩) (λ_ R s=>s.heap.get? l=ξ {cls:= .type "tuple",dict:=dd,data:= .seq items n,slots:=sl}/\R (.ok (.ret Value.notImplemented)) s):=
 .of_wp λprog w A R s h=>by obtain⟨hp,g,d,tk,os⟩:=s;obtain⟨hl,h⟩:=h;wp_walk;exact⟨_,rfl,h⟩
theorem a9Y(l:AB)(items:Array AA)(n:Nat)(dd:Υ AB)(sl:Array (Υ AA))(x:Int)(u:Tok)(hc0:(decide (x< -(2 ^ 63))||decide (x>=2 ^ 63))=false)(hc1:(items.isEmpty||x==1)=false)(hc2:(decide (x<=0)||items.isEmpty)=false)(hc3:¬(items.size:Int)*x>(2 ^ 63 - 1)/ 8)(hc4:Builtin.Tuple.tupleTooMany ((items.size:Int)*x)=false)(hz:((AS x.toNat items).foldl (· ++·) #[]).size<=AO):
 Meets (Builtin.«tuple.__mul__» ⟨[.ref l,.int x u],[]⟩) (λ_ R s=>s.heap.get? l=ξ {cls:= .type "tuple",dict:=dd,data:= .seq items n,slots:=sl}/\R (.ok (.ret (Value.ref s.heap.objs.size))) {s with heap:=s.heap.push {cls:=Value.type "tuple",data:=Data.seq ((AS x.toNat items).foldl (· ++·) #[])},toks:=s.toks}):=
 .of_wp λprog w A R s h=>by
  obtain⟨hp,g,d,tk,os⟩:=s;obtain⟨hl,h⟩:=h
  wp_walk
  have ht:IsTup hp l items:=⟨_,hl,rfl,n,rfl⟩;rw [if_neg (by rw [hc0];exact Af)]
  wp_walk
  rw [if_neg hc3]
  wp_walk
  exact⟨_,rfl,h⟩
section
variable {X:Cx}
theorem c1L:OpR X (binaryOp .Mult) (λx y H Q=>∃a xs n,x= .ref a/\y= .int n/\SqT X.K H a xs/\xs≠[]/\2<=n/\n<=1000000/\xs.length*n.toNat<=AO/\∀p,H p=ζ->Q (.ref p) (t8 H p (.tup (AS n.toNat xs).flatten))):=by
 ext t
 obtain⟨a,xs,n,rfl,rfl,hx,hne,h1,h2,hz,q⟩:=h;cases rx;obtain⟨t,rfl⟩:=ry;obtain⟨its,r,ht,_⟩:=I.tuple hx;have hlen:its.toArray.size=xs.length:=by rw [Ah];exact r.length.symm
 have hie:its.toArray.isEmpty=false:=by
  cases its with
  |nil=>exact absurd (r.nil_iff.mp rfl) hne
  |cons _ _=>rfl
 have hnew:List.foldl (λx1 x2=>x1++x2) #[] (AS n.toNat its.toArray)=(AS n.toNat its).flatten.toArray:=by
  have:=a63 its n.toNat [];rw [BD] at this;exact this
 have hc:((xs.length*n.toNat:Nat):Int)=(xs.length:Int)*n:=by rw [Int.natCast_mul,Int.toNat_of_nonneg (by lia)]
 have hsl:=sizeLine_eq;obtain⟨⟨cls,dd,data,sl⟩,ho,hc',m,hd⟩:=id ht;simp only at hc' hd;subst hc' hd;have hzz:(List.foldl (λx1 x2=>x1++x2) #[] (AS n.toNat its.toArray)).size<=AO:=by
  rw [hnew,Ah,b2u,Nat.mul_comm,<-r.length];exact hz
 refine wpAny_binaryOp_repeat_ref (T:="tuple") (U:="int") (by decide) ht.typeIs (λs'=>typeIs_int s' n t) a7g F.fills_int_mul F.slot_int_rmul b3b F.slot_int_index.lookup
  (call_meets F.slot_int_rmul (typeIs_int s n t) F.entry_int_rmul (F.args_int_rmul_2 _ _) (a83 n t a its.toArray m dd sl)
   ⟨ho,rfl,ht.typeIs,call_meets PySem.F.slot_tuple_mul ht.typeIs PySem.F.entry_tuple_mul (PySem.F.args_tuple_mul_2 _ _) (a9Y a its.toArray m dd sl n t ?_ ?_ ?_ ?_ ?_ hzz) ⟨ho, ?_⟩⟩)
 ·have e1:¬n< -(2 ^ 63:Int):=by lia
  have e2:¬n>=2 ^ 63:=by lia
  simp [e1,e2]
  lia
 ·rw [hie];have:n≠1:=by lia
  simp [this]
 ·rw [hie];have:¬n<=0:=by lia
  simp [this]
 ·rw [hlen,<-hc]
  lia
 ·rw [hlen,<-hc];unfold Builtin.Tuple.tupleTooMany;rw [decide_eq_false (by lia)]
 ·rw [hnew];refine⟨.ref s.heap.objs.size,_,I.laid (t':=s.toks) (o:= .tup (AS n.toNat xs).flatten) (λb ob q=>AY _ q) (AQ _) ?_,rfl,q _ (I.hok.fresh (AQ _))⟩;exact⟨by rw [b2u,Nat.mul_comm];exact hz,_,r.rep n.toNat,IsTup.new _ _⟩
def u4:d5->d5->Υ d5
 | .v (.tuple ps),.v (.int k)=>if okC (λk n=>2<=k/\k<=1000000/\1<=n/\n*k<=16777216) k ps.length=true then ξ (.v (.tuple (AS k.toNat ps).flatten)) else ζ
 |x,y=>a6k x y
theorem u3:OpM X (binaryOp .Mult) u4:=by
 ext d
 unfold u4 at h3;split at h3
 ·rename_i ps n;split at h3
  ·rename_i c;obtain⟨c0,c1,c2,c3⟩:=a1G.mp c;cases h3;cases h2;obtain⟨a,xs,rfl,hq,rl⟩:=h1;have hlen:=rl.length;have hz:xs.length*n.toNat<=AO:=by
    rw [sizeLine_eq,hlen];have:((ps.length*n.toNat:Nat):Int)=ps.length*n:=by rw [Int.natCast_mul,Int.toNat_of_nonneg (by lia)]
    lia
   refine c1L pins s σ H _ _ v u Q I rx ry ⟨a,xs,n,rfl,rfl,B3 s0 hq.sq, ?_,by lia,by lia,hz,λp hp=>k _ _ _ (A7.tup s0 hp (a9G rl _))⟩
   intro e;rw [e] at hlen;simp at hlen
   lia
  ·cases h3
 ·exact b9V pins s σ H x y v u Q I rx ry ⟨F,_,_,rz,s0,h1,h2,h3,k⟩
end
section
variable {prog:AJ}{w:AI}{A:AK}{E:AA->AC->Prop}{s:AC}
end
section
variable {prog:AJ}{w:AI}{A:AK}{E:AA->AC->Prop}{s:AC}{u:AA}{T gid:String}{fp:List AB}{n:Nat}{P:Nat->AA->Prop}{Sq:Heap->Prop}
end
section
variable {prog:AJ}{w:AI}{A:AK}{E:AA->AC->Prop}{s:AC}
end
section
variable {X:Cx}
end
def D6(kvs:Γ)(k:List n4):Υ PV:=(kvs.find? λkv=>decide (kv.1=k)).map (·.2)
def b5T(kvs:Γ)(k:List n4)(v:PV):Γ:=
 if(kvs.any λkv=>decide (kv.1=k))=true then kvs.map (λkv=>if kv.1=k then(kv.1,v) else kv) else kvs++[(k,v)]
theorem B1.length{K:AE}{H:Hp}:∀{kvs:Γ} {ys:List (List n4×V)},B1 K H kvs ys->ys.length=kvs.length
 |[],_,h=>by cases h;rfl
 |(k,p)::r,_,⟨v,t,e,q,h⟩=>by subst e;rw [AV,AV,B1.length h]
theorem B1.any{K:AE}{H:Hp}{k:List n4}:∀{kvs:Γ} {ys:List (List n4×V)},B1 K H kvs ys->(ys.any λkv=>decide (kv.1=k))=(kvs.any λkv=>decide (kv.1=k))
 |[],_,h=>by cases h;rfl
 |(k',p)::r,_,⟨v,t,e,q,h⟩=>by subst e;rw [List.any_cons,List.any_cons,B1.any h]
theorem B1.val{K:AE}{H:Hp}{k:List n4}:∀{kvs:Γ} {ys:List (List n4×V)},B1 K H kvs ys->(∀p,D6 kvs k=ξ p->∃v,a1r ys k=ξ v/\E7 K H p v)/\(D6 kvs k=ζ->a1r ys k=ζ)
 |[],_,h=>by cases h;exact⟨λp e=>(nomatch e),λ_=>rfl⟩
 |(k',p)::r,_,⟨v,t,e,q,h⟩=>by
  subst e
  by_cases c:k'=k
  ·have e1:D6 ((k',p)::r) k=ξ p:=by simp [D6,List.find?_cons,c]
   have e2:a1r ((k',v)::t) k=ξ v:=a2p c;rw [e1,e2];exact⟨λp' e'=>(by cases e';exact⟨v,rfl,q⟩),λe'=>(nomatch e')⟩
  ·have e1:D6 ((k',p)::r) k=D6 r k:=by simp [D6,List.find?_cons,c]
   have e2:a1r ((k',v)::t) k=a1r t k:=a2o c;rw [e1,e2];exact B1.val h
theorem B1.repl{K:AE}{H:Hp}{k:List n4}{p:PV}{v:V}(hp:E7 K H p v):∀{kvs:Γ} {ys:List (List n4×V)},B1 K H kvs ys->B1 K H (kvs.map λkv=>if kv.1=k then(kv.1,p) else kv) (ys.map λkv=>if kv.1=k then(kv.1,v) else kv)
 |[],_,h=>by cases h;exact rfl
 |(k',p')::r,_,⟨v',t,e,q,h⟩=>by
  subst e
  by_cases c:k'=k
  ·rw [AM,AM];simp only [if_pos c];exact⟨v,_,rfl,hp,B1.repl hp h⟩
  ·rw [AM,AM];simp only [if_neg c];exact⟨v',_,rfl,q,B1.repl hp h⟩
theorem B1.snoc{K:AE}{H:Hp}{k:List n4}{p:PV}{v:V}(hp:E7 K H p v):∀{kvs:Γ} {ys:List (List n4×V)},B1 K H kvs ys->B1 K H (kvs++[(k,p)]) (ys++[(k,v)])
 |[],_,h=>by cases h;exact⟨v,[],rfl,hp,rfl⟩
 |(k',p')::r,_,⟨v',t,e,q,h⟩=>by subst e;exact⟨v',_,rfl,q,B1.snoc hp h⟩
theorem B1.put{K:AE}{H:Hp}{k:List n4}{p:PV}{v:V}{kvs:Γ}{ys:List (List n4×V)}(r:B1 K H kvs ys)(hp:E7 K H p v):B1 K H (b5T kvs k p) (a4U ys k v):=by
 unfold b5T a4U;rw [r.any];split
 ·exact r.repl hp
 ·exact r.snoc hp
section
variable {X:Cx}
end
section
variable {prog:AJ}{w:AI}{A:AK}{E:AA->AC->Prop}{s:AC}
end
section
variable {X:Cx}{pins:List (AB×Obj)}{σ:L2.St}{H:Hp}{s:AC}{a:AB}{A:AK}{E:AA->AC->Prop}
end
section
variable {X:Cx}
end
theorem B1.isSome{K:AE}{H:Hp}{k:List n4}{kvs:Γ}{ys:List (List n4×V)}(r:B1 K H kvs ys):(a1r ys k).isSome=(D6 kvs k).isSome:=by
 cases hv:D6 kvs k with
 |none=>rw [(r.val (k:=k)).2 hv];rfl
 |some p=>
  obtain⟨v,e,_⟩:=(r.val (k:=k)).1 p hv;rw [e];rfl
section
variable {X:Cx}
theorem c0C{t:TE}{m:M}(i:∀σ H Q,tM X.K m σ H Q->t σ H Q){σ:L2.St}{H:Hp}{Q:Bool->Hp->Prop}(h:tMT X.K (u5 m) σ H Q):tB t σ H Q:=by
 obtain⟨F,ρ,b,h1,h2,k⟩:=h;obtain⟨r,e1,e2⟩:=bind_some h2;exact i _ _ _ ⟨F,ρ,r,h1,e1,λv F1 H1 o=>⟨b,a6B o.rep e2,k F1 H1 o.x⟩⟩
def b0r(r:d5):Υ Str:=match r with
 | .v (.str x)=>ξ x
 |_=>ζ
end
def b7L(x:Str):List Str->List Str
 |[]=>[x]
 |y::r=>if y.cps.toList<x.cps.toList then y::b7L x r else x::y::r
def a73:List Str->List Str
 |[]=>[]
 |x::r=>b7L x (a73 r)
theorem a67(x:Str):∀l:List Str,(b7L x l).Perm (x::l)
 |[]=>List.Perm.refl _
 |y::r=>by
  unfold b7L;split
  ·exact((a67 x r).cons y).trans (List.Perm.swap x y r)
  ·exact List.Perm.refl _
theorem a28:∀l:List Str,(a73 l).Perm l
 |[]=>List.Perm.refl _
 |x::r=>(a67 x (a73 r)).trans ((a28 r).cons x)
def leS(a b:Str):Prop:=¬b.cps.toList<a.cps.toList
theorem b35{a b:Str}(h:leS a b)(g:leS b a):a=b:=by
 have e:a.cps.toList=b.cps.toList:=List.le_antisymm h g;cases a;cases b;simp at e ⊢;exact e
theorem b1l{a b c:Str}(h:leS a b)(g:leS b c):leS a c:=List.le_trans h g
theorem a7K(x:Str):∀{l:List Str},l.Pairwise leS->(b7L x l).Pairwise leS
 |[],_=>List.pairwise_singleton _ _
 |y::r,h=>by
  unfold b7L;have h':=List.pairwise_cons.mp h;split
  ·rename_i c;refine List.pairwise_cons.mpr ⟨λz hz=> ?_,a7K x h'.2⟩;rcases AX.mp ((a67 x r).mem_iff.mp hz) with e|e
   ·subst e;exact List.lt_asymm c
   ·exact h'.1 z e
  ·rename_i c;refine List.pairwise_cons.mpr ⟨λz hz=> ?_,h⟩;rcases AX.mp hz with e|e
   ·subst e;exact c
   ·exact b1l c (h'.1 z e)
theorem a29:∀l:List Str,(a73 l).Pairwise leS
 |[]=>List.Pairwise.nil
 |x::r=>a7K x (a29 r)
theorem a4B:∀{l m:List Str},l.Pairwise leS->m.Pairwise leS->l.Perm m->l=m
 |[],m,_,_,p=>(List.Perm.nil_eq p)
 |a::l,[],_,_,p=>by have:=p.length_eq;simp at this
 |a::l,b::m,hl,hm,p=>by
  have hl':=List.pairwise_cons.mp hl;have hm':=List.pairwise_cons.mp hm;have e:a=b:=by
   have m1:a∈b::m:=p.mem_iff.mp AU;have m2:b∈a::l:=p.mem_iff.mpr AU;rcases AX.mp m1 with e|e
   ·exact e
   ·rcases AX.mp m2 with g|g
    ·exact g.symm
    ·exact b35 (hl'.1 b g) (hm'.1 a e)
  subst e;rw [a4B hl'.2 hm'.2 (List.Perm.cons_inv p)]
theorem b1C:∀{p:Str} {l:List Str},risingS p l=true->(p::l).Pairwise leS
 |p,[],_=>List.pairwise_singleton _ _
 |p,x::r,h=>by
  unfold risingS at h;rw [χ] at h;have ih:=b1C h.2;have h1:leS p x:=by
   have:=h.1;rw [ltCps_eq] at this;unfold leS
   simpa using this
  refine List.pairwise_cons.mpr ⟨λz hz=> ?_,ih⟩;rcases AX.mp hz with e|e
  ·subst e;exact h1
  ·exact b1l h1 ((List.pairwise_cons.mp ih).1 z e)
theorem b54:∀{l:List Str},sortedS l=true->l.Pairwise leS
 |[],_=>List.Pairwise.nil
 |x::r,h=>b1C h
section
variable {prog:AJ}{w:AI}{A:AK}{E:AA->AC->Prop}{s:AC}
end
theorem b1I:∀{us:List AA} {ss:List Str},StrsAre us ss->v9 (ss.map V.str) us
 |_,_,.nil=> .nil
 |_,_,.cons x t h=>by rw [AM];exact .cons ⟨t,rfl⟩ (b1I h)
theorem b1B{K:AE}{H:Hp}:∀ss:List Str,n6 K H (ss.map PyData.str) (ss.map V.str)
 |[]=>rfl
 |x::r=>⟨_,_,rfl,rfl,b1B r⟩
section
variable {X:Cx}
end
section
variable {prog:AJ}{w:AI}{A:AK}{E:AA->AC->Prop}{s:AC}
theorem a6r{it t:AB}{i:Nat}{items}{x:AA}{Q:AA->AC->Prop}(hit:s.heap.IsTupleIter it t i)(ht:s.heap.IsTuple t items)(hx:items[i]?=ξ x)
 (hQ:∀h',h'.IsTupleIter it t (i+1)->Heap.SameBut it s.heap h'->Q x {s with heap:=h'}):AH (model prog w) A (Builtin.SmallTypes.nextOf (.ref it)) Q E s:=by
 obtain⟨o,ho,hc,hd⟩:=id hit
 obtain⟨ol,hol,_,nl,hdl⟩:=ht
 unfold Builtin.SmallTypes.nextOf
 refine AG (wpAny_callSpecial?_slot (name:=AD "__next__") hit.typeIs F.slot_tuple_iterator_next
  (wpAny_call_entry F.slot_tuple_iterator_next hit.typeIs F.entry_tuple_iterator_next ?_ (F.args_tuple_iterator_next_1 _)))
 show AH _ _ (field (.ref it) 0>>=_) _ _ s
 refine AG (wpAny_field ho hd (x:= .ref t) rfl ?_)
 show AH _ _ (if(Value.ref t==Value.none)=true then _ else _) _ _ s
 rw [if_neg (show ¬((Value.ref t==Value.none)=true) from Af)]
 show AH _ _ (field (.ref it) 1>>=_) _ _ s
 refine AG (wpAny_field ho hd (x:= .int i 0) rfl ?_)
 show AH _ _ (seqItems? (.ref t)>>=_) _ _ s
 refine AG (wpAny_seqItems hol hdl ?_)
 simp only [BC,hx]
 refine AG (wpAny_setField ho hd (by simp) (AN ⟨x,rfl,AN (hQ _ ?_ (Heap.SameBut.update ..))⟩))
 exact⟨_,Heap.get?_update_self _ ho (Obj.isFreed_of_fields (Obj.data_mapFields hd _)),(Obj.cls_mapFields ..).trans hc,by
  rw [Obj.data_mapFields hd];simp [rawInt]⟩
theorem a2l{it t:AB}{i:Nat}{items}{Q:AA->AC->Prop}(hh:A.handled=ζ)(hit:s.heap.IsTupleIter it t i)(ht:s.heap.IsTuple t items)(hx:items[i]?=ζ)
 (hE:∀h' e,Heap.ExtBut it s.heap h'->(∃o,h'.get? e=ξ o/\o.cls= .type "StopIteration")->E (.ref e) {s with heap:=h'}):AH (model prog w) A (Builtin.SmallTypes.nextOf (.ref it)) Q E s:=by
 obtain⟨o,ho,hc,hd⟩:=id hit
 obtain⟨ol,hol,_,nl,hdl⟩:=ht
 unfold Builtin.SmallTypes.nextOf
 refine AG (wpAny_callSpecial?_slot (name:=AD "__next__") hit.typeIs F.slot_tuple_iterator_next
  (wpAny_call_entry F.slot_tuple_iterator_next hit.typeIs F.entry_tuple_iterator_next ?_ (F.args_tuple_iterator_next_1 _)))
 show AH _ _ (field (.ref it) 0>>=_) _ _ s
 refine AG (wpAny_field ho hd (x:= .ref t) rfl ?_)
 show AH _ _ (if(Value.ref t==Value.none)=true then _ else _) _ _ s
 rw [if_neg (show ¬((Value.ref t==Value.none)=true) from Af)]
 show AH _ _ (field (.ref it) 1>>=_) _ _ s
 refine AG (wpAny_field ho hd (x:= .int i 0) rfl ?_)
 show AH _ _ (seqItems? (.ref t)>>=_) _ _ s
 refine AG (wpAny_seqItems hol hdl ?_)
 simp only [BC,hx]
 refine AG (wpAny_rule (AG (wpAny_setField ho hd (by simp) ?_)))
 show AH _ _ (newExc (.type "StopIteration") []>>=_) _ _ _
 refine AG ?_
 simp only [newExc,newTuple]
 refine AG (wpAny_newObj_type ?_ (by size_fits))
 refine AG (m:=firstArgMember _ _) (wpAny_of_eq (a:=Value.none) (by first|rfl|(simp only [firstArgMember];rfl)) ?_)
 refine wpAny_newObj_type ?_ (by size_fits)
 simp only [raiseNew]
 refine AG (wpAny_handled ?_)
 first|rw [show A.in1.handled=ζ from hh]|rw [hh]
 refine AG (AN (wpAny_throw ?_))
 exact hE _ _ (((Heap.SameBut.update ..).extBut.push _).push _) ⟨_,Ae _ rfl,rfl⟩
end
theorem b3M{prog:AJ}{w:AI}{A:AK}(hh:A.handled=ζ)(it l:AB)(hne:l≠it)(items:Array AA):
 Draws prog w A it [it,l] items.size (λi v=>items[i]?=ξ v) (λi h=>h.IsTupleIter it l i/\h.IsTuple l items) where
 live:=λ_ _ st=>let ⟨o,ho,_⟩:=st.1;⟨o,ho⟩
 frame:=λ_ _ _ st hk=>⟨st.1.at λo e=>hk it (by simp) o e,let ⟨o,e,r⟩:=st.2;⟨o,hk l (by simp) o e,r⟩⟩
 item:=λi s Q E hi st hQ=>by
  refine a6r st.1 st.2 (x:=items[i]) (by simp [hi]) λh' hit' hs'=> ?_
  exact hQ _ h' s.toks (by simp [hi]) ⟨hit',let ⟨o,e,r⟩:=st.2;⟨o,(hs'.2 l hne).trans e,r⟩⟩ hs'
 done:=λs Q E st hE=>a2l hh st.1 st.2 (by simp) hE
theorem a39(l:AB)(items:Array AA)(n:Nat)(dct:Υ AB)(sl:Array (Υ AA)):
 Meets (Builtin.«enumerate.__new__» ⟨[.type "enumerate",.ref l],[]⟩) (λ_ R s=>s.heap.get? l=ξ {cls:= .type "tuple",dict:=dct,data:= .seq items n,slots:=sl}/\
  R (.ok (.ret (.ref (s.heap.push {cls:= .type "tuple_iterator",data:= .fields #[.ref l,.int 0 0]}).objs.size)))
   {s with heap:=(s.heap.push {cls:= .type "tuple_iterator",data:= .fields #[.ref l,.int 0 0]}).push {cls:= .type "enumerate",data:= .fields #[.none,.bool false,.ref s.heap.objs.size,rawInt 0,.none,.none]}}):=
 .of_wp λprog w A R s h=>by
  obtain⟨hp,g,d,tk,os⟩:=s;obtain⟨hl,h⟩:=h;have hsub:=sub_enumerate;have hL:Heap.IsTuple (Shared.heap ⟨hp,g,d,tk,os⟩) l items:=⟨_,hl,rfl,n,rfl⟩
  wp_walk using AutoSeq1.wpAny_loadPart' hl
  refine wpAny_stack_any λst=>AN ?_;split
  ·rename_i c _ _ _ _ _;cases(c==Value.type "enumerate")
   ·wp_walk using AutoSeq1.wpAny_loadPart' hl,wpAny_pyIter_tuple hL
    exact⟨_,rfl,h⟩
   ·wp_walk using AutoSeq1.wpAny_loadPart' hl,wpAny_pyIter_tuple hL
    exact⟨_,rfl,h⟩
  ·wp_walk using AutoSeq1.wpAny_loadPart' hl,wpAny_pyIter_tuple hL
   exact⟨_,rfl,h⟩
section
variable {prog:AJ}{w:AI}{A:AK}{E:AA->AC->Prop}{s:AC}
theorem a3C{l:AB}{items:Array AA}{Q:AA->AC->Prop}(hL:s.heap.IsTuple l items)
 (h:∀h',IsEnum h' (s.heap.objs.size+1) s.heap.objs.size 0 .none->h'.IsTupleIter s.heap.objs.size l 0->h'.objs.size=s.heap.objs.size+2->
  (∀b o,s.heap.get? b=ξ o->h'.get? b=ξ o)->Q (.ref (s.heap.objs.size+1)) {s with heap:=h'}):
 AH (model prog w) A (call (.type "enumerate") [.ref l]) Q E s:=by
 obtain⟨⟨c,dct,dt,sl⟩,hl,hc,n,hd⟩:=hL
 replace hc:c= .type "tuple":=hc
 replace hd:dt= .seq items n:=hd
 subst hc hd
 refine callType_new F.called_enumerate (by decide) (F.typeCall_enumerate_1 _) (F.newCall_enumerate_1 _) (λobj=>F.args_object_init_2 obj _) F.entry_enumerate_new
  (a39 l items n dct sl) ⟨hl, ?_⟩
 have hz:(s.heap.push {cls:= .type "tuple_iterator",data:= .fields #[.ref l,.int 0 0]}).objs.size=s.heap.objs.size+1:=Heap.size_push ..
 show _/\_
 rw [hz]
 have he:IsEnum ((s.heap.push {cls:= .type "tuple_iterator",data:= .fields #[.ref l,.int 0 0]}).push
  {cls:= .type "enumerate",data:= .fields #[.none,.bool false,.ref s.heap.objs.size,rawInt 0,.none,.none]}) (s.heap.objs.size+1) s.heap.objs.size 0 .none:=by
  have:=Ae (s.heap.push {cls:= .type "tuple_iterator",data:= .fields #[.ref l,.int 0 0]})
   (o:={cls:= .type "enumerate",data:= .fields #[.none,.bool false,.ref s.heap.objs.size,rawInt 0,.none,.none]}) rfl
  rw [hz] at this;exact this
 refine⟨⟨_,he,rfl⟩,h _ he ⟨_,AY _ (Ae _ rfl),rfl,rfl⟩ (by rw [Heap.size_push,hz]) λb o x=>AY _ (AY _ x)⟩
end
theorem l8.turnedTup{X:Cx}{pins:List (AB×Obj)}{σ:L2.St}{H:Hp}{s:AC}{h':Heap}{t':Nat}{e it:AB}{xs:List V}(I:l8 X pins σ H s)(fe:a6T X pins H e)(fi:a6T X pins H it)
 (k:∀b o,b≠e->b≠it->s.heap.get? b=ξ o->h'.get? b=ξ o) (new:G3 X.prog X.w (t8 H s.heap.objs.size (.tup xs)) h' s.heap.objs.size (.tup xs)):
 l8 X pins σ (t8 H s.heap.objs.size (.tup xs)) {s with heap:=h',toks:=t'}:=by
 have hn:H s.heap.objs.size=ζ:=I.hok.fresh (AQ _)
 have nb:∀b u,H b=ξ u->b≠e/\b≠it:=λb u q=>⟨λz=>(by rw [z,fe.1] at q;cases q),λz=>(by rw [z,fi.1] at q;cases q)⟩
 refine I.step (g':=s.gens) (d':=s.drawn) (ch:=[e,it]) (λb hb=> ?_) (λb o _ _ hc q _=>k b o (λz=>hc (by simp [z])) (λz=>hc (by simp [z])) q) (λb o _ _ hc q _=>⟨o.slots,k b o (λz=>hc (by simp [z])) (λz=>hc (by simp [z])) q⟩)
  (λb o _ q n=>by rw [i6 (Ac (Aa q))];exact n) (λb o hc q=>⟨o,k b o (λz=>hc (by simp [z])) (λz=>hc (by simp [z])) q⟩)
  (λb xs q=>by rw [i6 (m6 q hn)];exact q) (λb o u q=>by rw [i6 (m6 q hn)];exact q) (λb ps q=>⟨#[],by rw [i6 (m6 q hn),q];simp⟩) (λm hm=> ?_) (λb u q=> ?_) I.bare
 ·have hb:b=e\/b=it:=by simpa using hb
  rcases hb with rfl|rfl
  ·exact⟨fe.2.2.2.1,fe.2.1,fe.2.2.2.2.1,fe.2.2.2.2.2⟩
  ·exact⟨fi.2.2.2.1,fi.2.1,fi.2.2.2.2.1,fi.2.2.2.2.2⟩
 ·obtain⟨o,es,ep,ho,r⟩:=hm
  exact⟨o,es,ep,k _ o (Ne.symm fe.2.1) (Ne.symm fi.2.1) ho,r⟩
 ·by_cases hb:b=s.heap.objs.size
  ·subst hb
   rw [j1] at q
   cases q
   exact new
  ·rw [i6 hb] at q
   refine(I.hok b u q).stay (λc v hc y=>k c v ?_ ?_ y) (λc y=>by rw [i6 (m6 y hn)];exact y) λc ys y=>by rw [i6 (m6 y hn)];exact y
   ·rcases hc with z|z
    ·rw [z];exact(nb b u q).1
    ·exact(nb c _ z).1
   ·rcases hc with z|z
    ·rw [z];exact(nb b u q).2
    ·exact(nb c _ z).2
def Ite(J:It):It:=⟨J.go,λi H v H'=>∃x t,J.yld i H x H/\H t=ζ/\v= .ref t/\H'=t8 H t (.tup [.int i,x]),J.stop⟩
structure b3t(P:AJ)(w:AI)(K:AE)(J:It)(it:AB)(tn:Nat->Heap->Prop):Prop where
 obj:∀i h,tn i h->∃o,h.get? it=ξ o/\∀v,o.data≠.cell v
 keep:∀i h h',tn i h->(∀o,h.get? it=ξ o->h'.get? it=ξ o)->tn i h'
 item:∀(X:Cx),X.prog=P->X.w=w->X.K=K->X.calm=true->∀(i:Nat) (pins:List (AB×Obj)) (s:AC) (σ:L2.St) (H:Hp),l8 X pins σ H s->a6T X pins H it->tn i s.heap->J.go i H->
  ∃(fp:List AB) (n:Nat) (Pq:Nat->AA->Prop) (St:Nat->Heap->Prop),Draws P w X.A.in1 it fp n Pq St/\St i s.heap/\i<n/\(∀e old,e≠it->IsEnum s.heap e it i old->e∉fp)/\(∀v,Pq i v->∃x,u0 x v/\J.yld i H x H)/\∀h',St (i+1) h'->tn (i+1) h'
 done:∀(X:Cx),X.prog=P->X.w=w->X.K=K->X.calm=true->∀(i:Nat) (pins:List (AB×Obj)) (s:AC) (σ:L2.St) (H:Hp),l8 X pins σ H s->a6T X pins H it->tn i s.heap->J.stop i H->
   ∃(fp:List AB) (n:Nat) (Pq:Nat->AA->Prop) (St:Nat->Heap->Prop),Draws P w X.A.in1 it fp n Pq St/\St n s.heap
theorem b8m{P:AJ}{w:AI}{K:AE}{J:It}{e it:AB}{tn:Nat->Heap->Prop}{elts:List AF}{x1}{pos:Pos}(D:b3t P w K J it tn)(hne:e≠it):
 b1X P w K (.Tuple elts x1 pos) (Ite J) [e,it] e (λi h=>(∃old,IsEnum h e it i old)/\tn i h) where
 mem:=by simp
 obj:=λi h ⟨⟨old,he⟩,st⟩ b hb=>by
  have hb:b=e\/b=it:=by simpa using hb
  rcases hb with rfl|rfl
  ·exact⟨_,he,λv z=>by cases z⟩
  ·exact D.obj i h st
 keep:=λi h h' ⟨⟨old,he⟩,st⟩ k=>⟨⟨old,k e (by simp) _ he⟩,D.keep i h h' st λo q=>k it (by simp) o q⟩
 item:=by
  intro X hP hw hK hc i pins s σ H E I hf ⟨⟨old,he⟩,st⟩ hg;have fe:=hf e (by simp)
  have fi:=hf it (by simp)
  obtain⟨fp,n,Pq,St,DD,hst,hlt,hef,hy,hnx⟩:=D.item X hP hw hK hc i pins s σ H I fi st hg;subst hP hw hK;refine wpAny_pyNext_enum_itemD DD he hst hlt hne (hef e old hne he) λu h' tk hPu hout hst' htup hsz hk=>⟨_,rfl, ?_⟩;obtain⟨x,rx,yx⟩:=hy u hPu;refine wpAny_letOwnedTupleGo_enum hout λh2 he2 hs2=> ?_;have helt:e<s.heap.objs.size:=Aa he;have hilt:it<s.heap.objs.size:=by obtain⟨o,q,_⟩:=D.obj i _ st;exact Aa q
  have htup2:h2.get? s.heap.objs.size=ξ {cls:= .type "tuple",data:= .seq #[.int i tk,u]}:=(hs2.2 _ (Nat.ne_of_gt helt)).trans htup;have I2:l8 X pins σ (t8 H s.heap.objs.size (.tup [.int i,x])) {s with heap:=h2,toks:=tk+1}:=by
   refine l8.turnedTup I fe fi (λb o hbe hbi q=>(hs2.2 b hbe).trans (hk b o hbe hbi q)) ?_;exact⟨by rw [sizeLine_eq];simp,[.int i tk,u],.cons ⟨tk,rfl⟩ (.cons rx .nil),⟨_,htup2,rfl,0,rfl⟩⟩
  refine⟨.ref s.heap.objs.size,_,I2,rfl,⟨x,s.heap.objs.size,yx,I.hok.fresh (AQ _),rfl,rfl⟩,⟨⟨_,by simpa using he2⟩,D.keep _ _ _ (hnx h' hst') λo q=>(hs2.2 it (Ne.symm hne)).trans q⟩,λb hb=> ?_⟩
  have hb:b=e\/b=it:=by simpa using hb
  rcases hb with rfl|rfl
  ·rw [i6 (Ac helt)];exact fe.1
  ·rw [i6 (Ac hilt)];exact fi.1
 done:=by
   intro X hP hw hK hc i pins s σ H E I hf ⟨⟨old,he⟩,st⟩ hg;have fi:=hf it (by simp)
   obtain⟨fp,n,Pq,St,DD,hst⟩:=D.done X hP hw hK hc i pins s σ H I fi st hg;subst hP hw hK;exact wpAny_pyNext_enum_endD DD he hst λh' eb=>⟨rfl,I.turned (t':=s.toks) (λb o hb q=>eb b o hb q) fi.1 fi.2.1 fi.2.2.2.1 fi.2.2.2.2.1 fi.2.2.2.2.2⟩
 self:=λ_ _ _ _ _ ⟨⟨_,he⟩,_⟩ h=>wpAny_pyIter_enum he h
theorem a6Y{prog:AJ}{w:AI}{A:AK}{it:AB}{fp:List AB}{i:Nat}{S0:Heap->Prop}(lv:∀h,S0 h->∃o,h.get? it=ξ o)(fr:∀h h',S0 h->(∀b∈fp,∀o,h.get? b=ξ o->h'.get? b=ξ o)->S0 h')
 (en:∀(s:AC) (Q:AA->AC->Prop) (E:AA->AC->Prop),S0 s.heap->(∀h' e,Heap.ExtBut it s.heap h'->(∃o,h'.get? e=ξ o/\o.cls= .type "StopIteration")->E (.ref e) {s with heap:=h'})->AH (model prog w) A (Builtin.SmallTypes.nextOf (.ref it)) Q E s):
 Draws prog w A it fp i (λ_ _=>True) (λk h=>k=i/\S0 h) where
 live:=λ_ h st=>lv h st.2
 frame:=λ_ h h' st k=>⟨st.1,fr h h' st.2 k⟩
 item:=λk s Q E hk st _=>by have:=st.1;lia
 done:=λs Q E st hE=>en s Q E st.2 hE
theorem b3Q{P:AJ}{w:AI}{K:AE}(a it:AB):b3t P w K (Itt K a) it (λi h=>h.IsTupleIter it a i) where
 obj:=λi h st=>by
  ext j
 keep:=λi h h' st k=>st.at λo e=>k o e
 item:=by
  ext m
  obtain⟨xs,x,hq,hx⟩:=hg;obtain⟨its,rv,p,hz⟩:=I.tuple hq;obtain⟨u,hu,ru⟩:=rv.get hx;have p':s.heap.IsTuple a its.toArray:=p;have hai:a≠it:=λz=>by
   subst z;obtain⟨o,e,c,_⟩:=p';obtain⟨o2,e2,c2,_⟩:=st;rw [e] at e2;cases e2;rw [c] at c2;injection c2 with c2
   exact absurd c2 (by decide)
  refine⟨_,_,_,_,b3M (prog:=X.prog) (w:=X.w) (A:=X.A.in1) (show X.A.in1.handled=ζ from I.ok.hd hc) it a hai its.toArray,⟨st,p'⟩, ?_,λe old hne he hm=> ?_,λv hv=> ?_,λh' z=>z.1⟩
  ·have:=(Ai.mp hu).1
   simpa using this
  ·have hm:e=it\/e=a:=by simpa using hm
   rcases hm with rfl|rfl
   ·exact hne rfl
   ·obtain⟨o,q,c,_⟩:=p';rw [he] at q;cases q;injection c with c
    exact absurd c (by decide)
  ·have hv:its[i]?=ξ v:=by simpa using hv
   rw [hu] at hv;cases hv;exact⟨x,ru,rfl,λys hy=>by rw [I.tuple_inj hy hq];exact hx⟩
 done:=by
   ext m
   obtain⟨xs,hq,hx⟩:=hg;obtain⟨its,rv,p,hz⟩:=I.tuple hq;have p':s.heap.IsTuple a its.toArray:=p;have hl:=rv.length;exact⟨_,_,_,_,a6Y (prog:=X.prog) (w:=X.w) (A:=X.A.in1) (it:=it) (fp:=[it,a]) (i:=i) (S0:=λh=>h.IsTupleIter it a i/\h.IsTuple a its.toArray) (λh z=>let ⟨o,ho,_⟩:=z.1;⟨o,ho⟩)
    (λh h' z k=>⟨z.1.at λo e=>k it (by simp) o e,let ⟨o,e,r⟩:=z.2;⟨o,k a (by simp) o e,r⟩⟩)
    (λs Q E z hE=>a2l (show X.A.in1.handled=ζ from I.ok.hd hc) z.1 z.2 (by simp;lia) hE),rfl,st,p'⟩
theorem b5l{P:AJ}{w:AI}{K:AE}(a it:AB):b3t P w K (Itl K a) it (λi h=>h.IsListIter it a i) where
 obj:=λi h st=>by
  ext j
 keep:=λi h h' st k=>st.at λo e=>k o e
 item:=by
  ext m
  obtain⟨xs,x,hq,hx⟩:=hg;obtain⟨its,rv,p,hz⟩:=I.list hq;obtain⟨u,hu,ru⟩:=rv.get hx;have p':s.heap.IsList a its.toArray:=p.isList;have hai:a≠it:=λz=>by
   subst z;obtain⟨o,e,c,_⟩:=p';obtain⟨o2,e2,c2,_⟩:=st;rw [e] at e2;cases e2;rw [c] at c2;injection c2 with c2
   exact absurd c2 (by decide)
  refine⟨_,_,_,_,Draws.list (prog:=X.prog) (w:=X.w) (A:=X.A.in1) (show X.A.in1.handled=ζ from I.ok.hd hc) it a hai its.toArray,⟨st,p'⟩, ?_,λe old hne he hm=> ?_,λv hv=> ?_,λh' z=>z.1⟩
  ·have:=(Ai.mp hu).1
   simpa using this
  ·have hm:e=it\/e=a:=by simpa using hm
   rcases hm with rfl|rfl
   ·exact hne rfl
   ·obtain⟨o,q,c,_⟩:=p';rw [he] at q;cases q;injection c with c
    exact absurd c (by decide)
  ·have hv:its[i]?=ξ v:=by simpa using hv
   rw [hu] at hv;cases hv;exact⟨x,ru,rfl,λys hy=>by rw [I.list_inj hy hq];exact hx⟩
 done:=by
   ext m
   obtain⟨xs,hq,hx⟩:=hg;obtain⟨its,rv,p,hz⟩:=I.list hq;have p':s.heap.IsList a its.toArray:=p.isList;have hl:=rv.length;exact⟨_,_,_,_,a6Y (prog:=X.prog) (w:=X.w) (A:=X.A.in1) (it:=it) (fp:=[it,a]) (i:=i) (S0:=λh=>h.IsListIter it a i/\h.IsList a its.toArray) (λh z=>let ⟨o,ho,_⟩:=z.1;⟨o,ho⟩)
    (λh h' z k=>⟨z.1.at λo e=>k it (by simp) o e,z.2.at λo e=>k a (by simp) o e⟩)
    (λs Q E z hE=>wpAny_nextOf_list_end (show X.A.in1.handled=ζ from I.ok.hd hc) z.1 z.2 (by simp;lia) hE),rfl,st,p'⟩
theorem b7y{P:AJ}{w:AI}{K:AE}(it:AB)(x:Str)(t:Tok):b3t P w K (Its x) it (λi h=>h.IsStrIter it (strIterType x) x t i) where
 obj:=λi h st=>by
  ext j
 keep:=λi h h' st k=>let ⟨o,e,r⟩:=st;⟨o,k o e,r⟩
 item:=by
  ext m
  have hg:i<x.cps.size:=hg;have yl:∀v,(∃c u,x.cps[i]?=ξ c/\v=Value.str ⟨#[c]⟩ u)->∃y,u0 y v/\(Its x).yld i H y H:=λv ⟨c,u,h1,h2⟩=>⟨.str ⟨#[c]⟩,⟨u,h2⟩,rfl,c,h1,rfl⟩;cases ha:x.cps.all (· <128) with
  |true=>
   have et:strIterType x="str_ascii_iterator":=by simp [strIterType,ha]
   rw [et] at st ⊢;exact⟨_,_,_,_,Draws.strAscii (prog:=X.prog) (w:=X.w) (A:=X.A.in1) (show X.A.in1.handled=ζ from I.ok.hd hc) it x t,st,hg,λe old hne he hm=>hne (by simpa using hm),yl,λh' z=>z⟩
  |false=>
   have et:strIterType x="str_iterator":=by simp [strIterType,ha]
   rw [et] at st ⊢;exact⟨_,_,_,_,Draws.strWide (prog:=X.prog) (w:=X.w) (A:=X.A.in1) (show X.A.in1.handled=ζ from I.ok.hd hc) it x t,st,hg,λe old hne he hm=>hne (by simpa using hm),yl,λh' z=>z⟩
 done:=by
   ext m
   have hg:x.cps.size<=i:=hg;have hx:x.cps[i]?=ζ:=by simp [hg]
   refine⟨_,_,_,_,a6Y (prog:=X.prog) (w:=X.w) (A:=X.A.in1) (it:=it) (fp:=[it]) (i:=i) (S0:=λh=>h.IsStrIter it (strIterType x) x t i) (λh z=>let ⟨o,ho,_⟩:=z;⟨o,ho⟩)
    (λh h' z k=>let ⟨o,e,r⟩:=z;⟨o,k it (by simp) o e,r⟩) (λs Q E z hE=> ?_),rfl,st⟩
   cases ha:x.cps.all (· <128) with
   |true=>
    have et:strIterType x="str_ascii_iterator":=by simp [strIterType,ha]
    rw [et] at z;exact wpAny_nextOf_ascii_end (show X.A.in1.handled=ζ from I.ok.hd hc) z hx hE
   |false=>
    have et:strIterType x="str_iterator":=by simp [strIterType,ha]
    rw [et] at z;exact wpAny_nextOf_wide_end (show X.A.in1.handled=ζ from I.ok.hd hc) z hx hE
theorem a8E:bootBuiltins "enumerate"=ξ (.type "enumerate"):=by decide+kernel
section
variable {X:Cx}
def iEn(K:AE)(ta:TA):TI:=λσ H R=>ta σ H λvs H1=>(∃a xs,vs=[.ref a]/\SqT K H1 a xs/\R (Ite (Itt K a)) H1)\/(∃a xs,vs=[.ref a]/\SqL K H1 a xs/\R (Ite (Itl K a)) H1)\/∃z,vs=[.str z]/\R (Ite (Its z)) H1
theorem b8P{tg:AF}{pins:List (AB×Obj)}{σ:L2.St}{H:Hp}{s:AC}{R:It->Hp->Prop}{E:AA->AC->Prop}{J:It}{h':Heap}{tn:Nat->Heap->Prop}{elts:List AF}{x1}{tpos:Pos}(htg:tg= .Tuple elts x1 tpos)(I:l8 X pins σ H s)(D:b3t X.prog X.w X.K J s.heap.objs.size tn)
 (he:IsEnum h' (s.heap.objs.size+1) s.heap.objs.size 0 .none) (st:tn 0 h') (hk:∀b o,s.heap.get? b=ξ o->h'.get? b=ξ o) (q:R (Ite J) H):
 AH (model X.prog X.w) X.A (pyIter (.ref (s.heap.objs.size+1))) (PIE X pins σ tg R) E {s with heap:=h'}:=by
 subst htg
 refine wpAny_pyIter_enum (s:={s with heap:=h'}) he ?_
 refine⟨s.heap.objs.size+1,[s.heap.objs.size+1,s.heap.objs.size],_,_,H,rfl,I.kept (t':=s.toks) hk,b8m D (Nat.succ_ne_self _),⟨⟨_,he⟩,st⟩,λb hb=> ?_,q⟩
 have hb:b=s.heap.objs.size+1\/b=s.heap.objs.size:=by simpa using hb
 rcases hb with rfl|rfl
 ·exact I.fpOk (Nat.le_succ _) (I.hok.fresh (Nat.le_succ _))
 ·exact I.fpOk (AQ _) (I.hok.fresh (AQ _))
theorem c1Y{a:AF}{ta:TA}{p pos tpos:Pos}{elts:List AF}{x1}(hg:Gl X "enumerate")(hm:X.mg "enumerate"=ζ)(ha:PA X [a] ta)(hs:AL [a] X.env=[(false,eval a X.env)]:=by rfl):
 PI X (.Tuple elts x1 tpos) (.Call (.Name "enumerate" p) [a] [] pos) (iEn X.K ta):=by
 intro pins s σ H R I h
 refine Call_ (a7c I hg hm a8E (PyProof.Rows.callWith_type1 (K6 (ha pos pins s σ H _ I h) λus s1 h0=>t7 h0 λvs H1 I1 r1 q1=> ?_) hs rfl))
 rcases q1 with⟨b,xs,rfl,hq,q⟩|⟨b,xs,rfl,hq,q⟩|⟨z,rfl,q⟩
 ·cases r1 with
  |cons r rr=>
   cases rr
   cases r
   obtain⟨its,rv,p',hz⟩:=I1.tuple hq
   exact a3C (show s1.heap.IsTuple b its.toArray from p') λh' he hit hsz hk=>b8P rfl I1 (b3Q b _) he hit hk q
 ·cases r1 with
  |cons r rr=>
   cases rr
   cases r
   obtain⟨its,rv,p',hz⟩:=I1.list hq
   exact call_enumerate_list p'.isList λh' he hit hsz hk=>b8P rfl I1 (b5l b _) he hit hk q
 ·cases r1 with
  |cons r rr=>
   cases rr
   obtain⟨t,rfl⟩:=r
   exact call_enumerate_str λh' he hit hsz hk=>b8P rfl I1 (b7y _ z t) he hit hk q
def a0y(ps:List PV):List PV:=ps.zipIdx.map λq=> .tuple [.int ((q.2:Nat):Int),q.1]
theorem b7z(ps:List PV)(k:Nat):(a0y ps)[k]?=ps[k]?.map λp=> .tuple [.int ((k:Nat):Int),p]:=by
 unfold a0y;rw [Ak,List.getElem?_zipIdx];cases ps[k]? with
 |none=>rfl
 |some p=>simp
theorem b7A(ps:List PV):(a0y ps).length=ps.length:=by unfold a0y;simp
def b9q(p:PV):Υ (List PV):=match p with
 | .str z=>ξ (z.cps.toList.map λc=> .str ⟨#[c]⟩)
 |p=>PyData.items? p
def c2P(m:MA):MI:=λρ=>(m ρ).bind λas=>match as with
 |[p]=>(b9q p).map a0y
 |_=>ζ
theorem b5C{K:AE}{F0 H0 F1:Hp}{body:MS}{tg:PV->b7->Υ b7}{g:TG}{ps:List PV}{fl:Fl}{D:a1o}{k:Nat}{p:PV}{x:V}{t:AB}{σ:L2.St}{H:Hp}(T:a6V K g tg)(fin:Fin K F0 H0 F1 D fl)(ep:ps[k]?=ξ p)
 (hp:PvL K F0 H0 F1 body tg (a0y ps) fl k σ H) (hn:H t=ζ) (rx:E7 K F1 p x):
 g (.ref t) σ (t8 H t (.tup [.int k,x])) λσ2 H2=>tMS K body {D with nx:=PvL K F0 H0 F1 body tg (a0y ps) fl (k+1),ct:=PvL K F0 H0 F1 body tg (a0y ps) fl (k+1),bk:=D.nx} σ2 H2:=by
 obtain⟨F,ρ,s,so,e⟩:=hp
 have eq:(a0y ps)[k]?=ξ (.tuple [.int ((k:Nat):Int),p]):=by rw [b7z,ep];rfl
 have hk:k<(a0y ps).length:=(Ai.mp eq).1
 have hd:(a0y ps).drop k= .tuple [.int ((k:Nat):Int),p]::(a0y ps).drop (k+1):=by
  rw [List.drop_eq_getElem_cons hk]
  congr 1
  exact(Ai.mp eq).2
 rw [hd] at e
 obtain⟨ρ1,f1,e1,e2,e3⟩:=a64 e
 have xl:Ext F H (t8 F t (.tup [.int k,x])) (t8 H t (.tup [.int k,x])):=Ext.lay so.e.fh hn
 have up:n0 F1 (t8 F t (.tup [.int k,x])):=s.trans xl.f
 refine T F0 H0 _ _ σ ρ ρ1 _ (.ref t) _ (so.ext xl) (show E7 K (t8 F t (.tup [.int k,x])) (.tuple [.int ((k:Nat):Int),p]) (.ref t) from⟨t,[.int k,x],rfl,TqT.of j1,⟨_,_,rfl,rfl,⟨_,_,rfl,E7.mono up _ rx,rfl⟩⟩⟩) e1 λσ' so'=>⟨F0,H0,_,ρ1,f1,so',e2, ?_⟩
 cases f1 with
 |nx ρ'=>exact λσ2 F2 H2 s2 so2=>⟨F2,ρ',up.trans s2,so2,e3⟩
 |ct ρ'=>exact λσ2 F2 H2 s2 so2=>⟨F2,ρ',up.trans s2,so2,e3⟩
 |bk ρ'=>cases e3;exact λσ2 F2 H2 s2 so2=>fin σ2 F2 H2 (up.trans s2) so2
 |rt r=>cases e3;exact fin
theorem b8Y{K:AE}{F0 H0 F1:Hp}{body:MS}{tg:PV->b7->Υ b7}{g:TG}{ps:List PV}{fl:Fl}{D:a1o}{σ:L2.St}{H:Hp}{J:It}(S:b46 K F1 J ps)(T:a6V K g tg)(fin:Fin K F0 H0 F1 D fl)(h0:PvL K F0 H0 F1 body tg (a0y ps) fl 0 σ H):
 ∃W:Nat->Nat->L2.St->Hp->Prop,(∃m,W 0 m σ H)/\∀i m σ H,W i m σ H->
  ((Ite J).stop i H/\D.nx σ H)\/((Ite J).go i H/\∃N:L2.St->Hp->Prop,(∀σ' H',N σ' H'->∃m',m'<m/\W (i+1) m' σ' H')/\∀x H',(Ite J).yld i H x H'->g x σ H' λσ2 H2=>tMS K body {D with nx:=N,ct:=N,bk:=D.nx} σ2 H2):=by
 refine⟨λi m σ H=>m=ps.length - i/\i<=ps.length/\PvL K F0 H0 F1 body tg (a0y ps) fl i σ H,⟨ps.length,by simp,Nat.zero_le _,h0⟩, ?_⟩
 rintro i m σ H ⟨rfl,hi,pv⟩
 have sm:n0 F1 H:=by obtain⟨_,_,s,so,_⟩:=pv;exact s.trans so.e.fh
 by_cases hlt:i<ps.length
 ·have ep:ps[i]?=ξ ps[i]:=by simp [hlt]
  refine .inr ⟨S.go i _ H sm ep,PvL K F0 H0 F1 body tg (a0y ps) fl (i+1),λσ' H' p'=>⟨ps.length - (i+1),by lia,rfl,hlt,p'⟩,λv H' y=> ?_⟩
  obtain⟨x,t,yx,hn,rfl,rfl⟩:=y
  exact b5C T fin ep pv hn (S.yd i _ x H H sm ep yx).2
 ·have ei:i=ps.length:=by lia
  refine .inl ⟨S.st i H sm (by lia), ?_⟩
  rw [ei,<-b7A ps] at pv
  exact a1b fin pv
theorem c0z{F1:Hp}{a:AB}{xs:List V}{ps:List PV}(hq:SqT X.K F1 a xs)(rl:n6 X.K F1 ps xs):b46 X.K F1 (Itt X.K a) ps:=by
 have hlen:=rl.length;refine⟨λi H2 s h=>⟨xs,B3 s hq,by lia⟩,λi p H2 s h=> ?_,λi p x H2 H3 s h y=> ?_⟩
 ·obtain⟨v,ev,_⟩:=rl.get h;exact⟨xs,v,B3 s hq,ev⟩
 ·obtain⟨e,y⟩:=y;have:=y xs (B3 s hq);obtain⟨v,ev,rv⟩:=rl.get h;rw [this] at ev;cases ev;exact⟨e,rv⟩
theorem c0x{F1:Hp}{a:AB}{xs:List V}{ps:List PV}(hq:SqL X.K F1 a xs)(rl:n6 X.K F1 ps xs):b46 X.K F1 (Itl X.K a) ps:=by
 have hlen:=rl.length;refine⟨λi H2 s h=>⟨xs,J2 s hq,by lia⟩,λi p H2 s h=> ?_,λi p x H2 H3 s h y=> ?_⟩
 ·obtain⟨v,ev,_⟩:=rl.get h;exact⟨xs,v,J2 s hq,ev⟩
 ·obtain⟨e,y⟩:=y;have:=y xs (J2 s hq);obtain⟨v,ev,rv⟩:=rl.get h;rw [this] at ev;cases ev;exact⟨e,rv⟩
theorem c0y{F1:Hp}(z:Str):b46 X.K F1 (Its z) (z.cps.toList.map λc=> .str ⟨#[c]⟩):=by
 refine⟨λi H2 s h=> ?_,λi p H2 s h=> ?_,λi p x H2 H3 s h y=> ?_⟩
 ·have h:z.cps.size<=i:=by simpa using h
  exact h
 ·have:=(Ai.mp h).1;have h:i<z.cps.size:=by simpa using this
  exact h
 ·obtain⟨e,c,hc,rfl⟩:=y;refine⟨e, ?_⟩;rw [Ak,Array.getElem?_toList,hc] at h;cases h
  rfl
theorem c06{a:AF}{body:List Stmt}{m:MA}{g:TG}{t:PV->b7->Υ b7}{b:MS}{p rp pos tpos:Pos}{elts:List AF}{x1}(hp:PassesOwn (model X.prog X.w) X.A X.env X.xe)(hc:X.calm=true)(hgl:Gl X "enumerate")(hm:X.mg "enumerate"=ζ)(ha:EA X [a] m)(hg:PG X (.Tuple elts x1 tpos) g)(T:a6V X.K g t)(hb:ESs X body b)
 (hst:AL [a] X.env=[(false,eval a X.env)]:=by rfl) (hs:∀x,foldedSetIterable (.Call (.Name "enumerate" p) [a] [] rp) X.env x=pure x:=by intro _;rfl):ES X (.For (.Tuple elts x1 tpos) (.Call (.Name "enumerate" p) [a] [] rp) body [] pos) (M7 (c2P m) t b):=
 L6 (a5K hp hc (c1Y hgl hm ha hst) hg hb hs) λD σ H h0=>J4 h0 λF0 H0 F ρ fl so e fin=>by
  obtain⟨es,e1,e⟩:=bind_some e;obtain⟨as,e1,e2⟩:=bind_some e1;split at e2
  ·rename_i q;refine⟨F,ρ,_,so.e,e1,λvs F1 H1 x rl=> ?_⟩;obtain⟨v,r,rfl,rq,rr⟩:=rl;cases rr;have fin1:=fin.later x.f;cases hi:b9q q with
   |none=>rw [hi] at e2;cases e2
   |some ps=>
    rw [hi] at e2;cases e2;have core:∀J,b46 X.K F1 J ps->_:=λJ S=>b8Y (g:=g) (σ:=σ) (H:=H1) S T fin1 ⟨F1,ρ,PU.n0.refl F1,so.ext x,e⟩;cases q with
    |tuple qs=>
     cases hi;obtain⟨a,xs,rfl,hq,rl⟩:=rq;exact .inl ⟨a,xs,rfl,B3 x.fh hq.sq,core _ (c0z hq.sq rl)⟩
    |list qs=>
     cases hi;obtain⟨a,xs,rfl,hq,rl⟩:=rq;exact .inr (.inl ⟨a,xs,rfl,J2 x.fh hq,core _ (c0x hq rl)⟩)
    |str z=>
     cases hi;cases rq;exact .inr (.inr ⟨z,rfl,core _ (c0y z)⟩)
    |_=>cases hi
  ·cases e2
end
def S(l:List Nat):Str:=⟨l.toArray⟩
theorem c40(a b:List Nat):S a++S b=S (a++b):=by
 show Str.append (S a) (S b)=_;simp [Str.append,S]
theorem a5Y(a:List Nat):(S a).length=a.length:=by simp [S,Str.length]
theorem a5X(a:List Nat):(S a).cps.toList=a:=by simp [S]
theorem b8r{a b:List Nat}(h:S a=S b):a=b:=by
 have:=congrArg (λz:Str=>z.cps.toList) h
 simpa [S] using this
def J6(sep:List Nat):List (List Nat)->List Nat
 |[]=>[]
 |[x]=>x
 |x::y::r=>x++sep++J6 sep (y::r)
theorem b1d(sep:List Nat):∀(ls:List (List Nat)) (acc:List Nat),(ls.foldl (λa p=>a++sep++p) acc)=if ls=[] then acc else acc++sep++J6 sep ls
 |[],acc=>rfl
 |[x],acc=>by simp [J6]
 |x::y::r,acc=>by
  rw [List.foldl_cons,b1d sep (y::r)];simp [J6]
theorem b6v(sep:List Nat):∀(ls:List (List Nat)) (acc:List Nat),(ls.map S).foldl (λa (p:Str)=>a++(S sep).cps++p.cps) acc.toArray=(ls.foldl (λa p=>a++sep++p) acc).toArray
 |[],acc=>rfl
 |x::r,acc=>by
  rw [AM,List.foldl_cons,List.foldl_cons];have:acc.toArray++(S sep).cps++(S x).cps=(acc++sep++x).toArray:=by simp [S]
  rw [this];exact b6v sep r (acc++sep++x)
theorem c3M(sep:List Nat)(ls:List (List Nat)):Txt.join (S sep) (ls.map S)=S (J6 sep ls):=by
 unfold Txt.join Builtin.Str.glued;cases ls with
 |nil=>rfl
 |cons x r=>
  show(⟨((r.map S).foldl (λacc (p:Str)=>acc++(S sep).cps++p.cps) (S x).cps)⟩:Str)=_;rw [show(S x).cps=x.toArray from rfl,b6v,b1d];cases r with
  |nil=>rfl
  |cons y r=>rw [if_neg (by simp)];simp [S,J6]
theorem a8Z:∀ls:List (List Nat),J6 [] ls=ls.flatten
 |[]=>rfl
 |[x]=>by simp [J6]
 |x::y::r=>by simp [J6,a8Z (y::r)]
theorem a7G:∀cs:List Nat,(cs.map λc=>[c]).flatten=cs
 |[]=>rfl
 |c::cs=>by simp [a7G cs]
theorem b8y{α:Type}{xs:List α}{i:Int}(h:0<=i):L2.atI xs i=xs[i.toNat]?:=by
 unfold L2.atI L2.ixN;rw [if_pos h]
 by_cases c:i<xs.length
 ·rw [if_pos c];rfl
 ·rw [if_neg c];have:xs.length<=i.toNat:=by lia
  rw [List.getElem?_eq_none_iff.mpr this];rfl
theorem b0U{α:Type}{xs:List α}{k:Nat}:L2.atI xs (k:Int)=xs[k]?:=by
 rw [b8y (by lia)];simp
theorem b88{l:List Nat}{i:Int}{c:Nat}(hl:l.length<=16777216)(h:L2.atI l i=ξ c):j7 (.v (.str (S l))) (.v (.int i))=ξ (.v (.str (S [c]))):=by
 have hs:(S l).length<=AO:=by rw [a5Y,sizeLine_eq];exact hl
 unfold j7;simp only [d5.rd,a5X,h,BB,if_pos hs]
 rfl
theorem c3y{l k:List Nat}(h:l.length+k.length<=16777216):y9 (.v (.str (S l))) (.v (.str (S k)))=ξ (.v (.str (S (l++k)))):=by
 rw [b84 (by rw [a5Y,a5Y,sizeLine_eq];exact h),c40]
theorem c1j{i j:Int}(h: -18446744073709551616<i/\i<18446744073709551616):a6k (.v (.int i)) (.v (.int j))=ξ (.v (.int (i*j))):=c3E h
theorem c1k{i j:Int}(h: -18446744073709551616<j/\j<18446744073709551616):a6k (.v (.int i)) (.v (.int j))=ξ (.v (.int (i*j))):=c3F h
theorem b7F{l:List PV}{k:Int}(h:(0<=k/\k<=1000)/\l.length<=1000):a6k (.own l) (.v (.int k))=ξ (.own (AS k.toNat l).flatten):=by
 have hm:(l.length:Int)*k<=1000*1000:=Int.mul_le_mul (by lia) (by lia) (by lia) (by lia)
 show(if okC (λk n=>0<=k/\k<=1000000/\n*k<=16777216) k l.length=true then ξ (d5.own (AS k.toNat l).flatten) else ζ)=_
 rw [if_pos (a1G.mpr ⟨by lia,by lia,by lia⟩)]
theorem b6z{i j:Int}(h: -18446744073709551616<i/\i<18446744073709551616):u4 (.v (.int i)) (.v (.int j))=ξ (.v (.int (i*j))):=(show _=a6k (.v (.int i)) (.v (.int j)) from rfl).trans (c1j h)
theorem b6A{i j:Int}(h: -18446744073709551616<j/\j<18446744073709551616):u4 (.v (.int i)) (.v (.int j))=ξ (.v (.int (i*j))):=(show _=a6k (.v (.int i)) (.v (.int j)) from rfl).trans (c1k h)
theorem b7G{l:List PV}{k:Int}(h:(0<=k/\k<=1000)/\l.length<=1000):u4 (.own l) (.v (.int k))=ξ (.own (AS k.toNat l).flatten):=(show _=a6k (.own l) (.v (.int k)) from rfl).trans (b7F h)
theorem b9F{m:M}{ρ:b7}{l:List Nat}(h:m ρ=ξ (.v (.str (S l)))):b2C m ρ=ξ (l.map λc=> .str (S [c])):=by
 unfold b2C;rw [h,AR];show ξ ((S l).cps.toList.map _)=_;rw [a5X]
 rfl
abbrev row(l:List Nat):PV:= .str (S l)
def c2D(rows:List (List Nat)):PV:= .tuple (rows.map row)
theorem b3V{body:MS}{tg:PV->b7->Υ b7}{I:Nat->b7->Prop}:∀{ps:List PV} {ρ:b7} (k:Nat),(∀(i:Nat) p,ps[i]?=ξ p->∀ρ,I (k+i) ρ->∃ρ1 ρ2,tg p ρ=ξ ρ1/\(body ρ1=ξ (.nx ρ2)\/body ρ1=ξ (.ct ρ2))/\I (k+i+1) ρ2)->I k ρ->∃ρ',y0 body tg ps ρ=ξ (.nx ρ')/\I (k+ps.length) ρ'
 |[],ρ,k,_,h=>⟨ρ,rfl,h⟩
 |p::ps,ρ,k,s,h=>by
  obtain⟨ρ1,ρ2,h1,h2,h3⟩:=s 0 p rfl ρ h;obtain⟨ρ',h4,h5⟩:=b3V (ps:=ps) (ρ:=ρ2) (k+1) (λi q hq ρ hi=>by
   have e:k+1+i=k+(i+1):=by lia
   rw [e] at hi ⊢;exact s (i+1) q (by simpa using hq) ρ hi) h3
  refine⟨ρ', ?_,by rw [AV];have e:k+(ps.length+1)=k+1+ps.length:=by lia
                   rw [e];exact h5⟩
  unfold y0;rw [h1];show(body ρ1).bind _=_;rcases h2 with h2|h2<;>rw [h2]<;>exact h4
theorem a2e{body:MS}{tg:PV->b7->Υ b7}(I:Nat->b7->Prop){ps:List PV}{ρ:b7}(s:∀(i:Nat) p,ps[i]?=ξ p->∀ρ,I i ρ->∃ρ1 ρ2,tg p ρ=ξ ρ1/\(body ρ1=ξ (.nx ρ2)\/body ρ1=ξ (.ct ρ2))/\I (i+1) ρ2)(h:I 0 ρ):∃ρ',y0 body tg ps ρ=ξ (.nx ρ')/\I ps.length ρ':=by
 obtain⟨ρ',a,b⟩:=b3V (I:=I) 0 (λi p hp ρ hi=>by rw [Nat.zero_add] at hi ⊢;exact s i p hp ρ hi) h
 rw [Nat.zero_add] at b;exact⟨ρ',a,b⟩
theorem a6O{body:MS}{tg:PV->b7->Υ b7}{I:b7->Prop}{p:PV}{ρ ρ1 ρ2:b7}(h1:tg p ρ=ξ ρ1)(h2:body ρ1=ξ (.nx ρ2))(h3:I ρ2):∃ρ1 ρ2,tg p ρ=ξ ρ1/\(body ρ1=ξ (.nx ρ2)\/body ρ1=ξ (.ct ρ2))/\I ρ2:=⟨ρ1,ρ2,h1,.inl h2,h3⟩
theorem c2c{lo hi:Int}{i:Nat}{p:PV}(h:(a1q lo hi)[i]?=ξ p):p= .int (lo+i)/\lo+i<hi:=by
 have hi':=(Ai.mp h).1;rw [a4h] at hi';rw [a6C hi'] at h;cases h;exact⟨rfl,by lia⟩
theorem c2d(n:Nat):a1q 0 (n:Int)=(AZ n).map λk=> .int (k:Nat):=by
 unfold a1q;have e:((n:Int) - 0).toNat=n:=by lia
 rw [e];exact List.map_congr_left λk _=>by simp
theorem b1o(k:Nat)(it:MI)(tg:PV->b7->Υ b7)(c:MT)(elt:M)(ρ:b7):P6 k it tg c elt ρ=(it ρ).bind λps=>if ps.length<=AO then(a45 c elt tg (ρ++AS k ζ) ps).bind λr=>ξ (.own r) else ζ:=ω
theorem b00{α:Type}{ι f:α->PV}{elt:M}{tg:PV->b7->Υ b7}{ρ:b7}:∀{xs:List α},(∀x∈xs,∃ρ1,tg (ι x) ρ=ξ ρ1/\(elt ρ1).bind d5.toVal=ξ (f x))->a45 a0l elt tg ρ (xs.map ι)=ξ (xs.map f)
 |[],_=>rfl
 |x::xs,h=>by
  obtain⟨ρ1,h1,h2⟩:=h x AU;rw [AM,AM];unfold a45;rw [h1,AR];show((elt ρ1).bind d5.toVal).bind _=_;rw [h2,AR,b00 λy hy=>h y (Ab _ hy),AR]
theorem S4{α:Type}{ι f:α->PV}{k:Nat}{it:MI}{elt:M}{tg:PV->b7->Υ b7}{ρ:b7}(xs:List α)(h1:it ρ=ξ (xs.map ι))(h2:xs.length<=16777216)
 (h:∀x∈xs,∃ρ1,tg (ι x) (ρ++AS k ζ)=ξ ρ1/\(elt ρ1).bind d5.toVal=ξ (f x)):P6 k it tg a0l elt ρ=ξ (.own (xs.map f)):=by
 rw [b1o,h1,AR,if_pos (by rw [AT,sizeLine_eq];exact h2),b00 h,AR]
theorem a6a{α:Type}{ι f:α->PV}{q:α->Bool}{c:MT}{elt:M}{tg:PV->b7->Υ b7}{ρ:b7}:∀{xs:List α},(∀x∈xs,∃ρ1,tg (ι x) ρ=ξ ρ1/\c ρ1=ξ (q x)/\(q x=true->(elt ρ1).bind d5.toVal=ξ (f x)))->a45 c elt tg ρ (xs.map ι)=ξ ((xs.filter q).map f)
 |[],_=>rfl
 |x::xs,h=>by
  obtain⟨ρ1,h1,h2,h3⟩:=h x AU;have ih:=a6a (xs:=xs) λy hy=>h y (Ab _ hy);rw [AM];unfold a45;rw [h1,AR,h2,AR];cases e:q x with
  |true=>rw [if_pos rfl,h3 e,AR,ih,AR,List.filter_cons_of_pos (by rw [e])];rfl
  |false=>rw [if_neg Af,ih,List.filter_cons_of_neg (by rw [e];exact Af)]
theorem b5F(m:M)(lo hi:MO)(ρ:b7):R9 m lo hi ρ=(m ρ).bind λr=>(lo ρ).bind λl=>(hi ρ).bind λh=>gSl r l h:=ω
theorem K9{m:M}{ρ:b7}{n:Nat}(h:m ρ=ξ (.v (.int n)))(hn:n<4611686018427387904):M1 (a4 m b5) ρ=ξ ((AZ n).map λk=> .int (k:Nat)):=by
 have e:a4 m b5 ρ=ξ [.int n]:=by rw [b5G,h];rfl
 rw [b7Y,e,AR,c2a (j:=(n:Int)) ⟨by lia,by lia⟩,c2d]
theorem a2H{sep:List Nat}{rows:List (List Nat)}{y:d5}(h:PyData.items? y.rd=ξ (rows.map row))(hl:(rows.map (·.length)).sum+rows.length*sep.length<=16777216):W1 (.v (.str (S sep))) y=ξ (.v (row (J6 sep rows))):=by
 have e1:a3a (rows.map row)=ξ (rows.map S):=by
  have:rows.map row=(rows.map S).map PyData.str:=by rw [Aj];rfl
  rw [this,a9U]
 have e2:((rows.map S).map (·.length))=rows.map (·.length):=by rw [Aj];exact List.map_congr_left λa _=>a5Y a
 unfold W1;simp only [h,e1,AR,e2,AT,a5Y,if_pos hl,c3M]
theorem D0{i:Nat}{m:M}{ρ:b7}{r:d5}{p:PV}{ps:List PV}(h1:m ρ=ξ r)(h2:r.toVal=ξ p)(h3:ρ[i]?=ξ (ξ (.own ps)))(h:ps.length<16777216):O7 i m ρ=ξ (.nx (ρ.set i (ξ (.own (ps++[p]))))):=by
 unfold O7;rw [h1,AR,h2,AR,h3];simp only [sizeLine_eq,if_pos h]
theorem b2B(p:d5)(ρ:b7):J8 0 (ξ p::ρ)=ξ (.rt p):=ω
theorem b6K(n:Nat)(r:Υ d5)(ρ:b7):J8 (n+1) (r::ρ)=J8 n ρ:=ω
theorem P4(k:List n4)(v:PV)(D:Γ)(k':List n4):D6 ((k,v)::D) k'=if k=k' then ξ v else D6 D k':=by
 unfold D6;rw [List.find?_cons]
 by_cases h:k=k'
 ·simp [h]
 ·simp [h]
theorem b4U(k:List n4)(v:PV)(k':List n4):∀D:Γ,D6 (D++[(k,v)]) k'=if(D6 D k').isSome=true then D6 D k' else if k=k' then ξ v else ζ
 |[]=>by rw [BD,P4];rfl
 |(a,b)::D=>by
  rw [Av,P4,P4,b4U k v k' D]
  by_cases h:a=k'
  ·simp [h]
  ·simp [h]
theorem b6h(k:List n4):∀D:Γ,(D.any λkv=>decide (kv.1=k))=(D6 D k).isSome
 |[]=>rfl
 |(a,b)::D=>by
  rw [List.any_cons,b6h k D,P4]
  by_cases h:a=k
  ·simp [h]
  ·simp [h]
theorem b1N(k:List n4)(v:PV)(k':List n4):∀D:Γ,D6 (D.map λkv=>if kv.1=k then(kv.1,v) else kv) k'=if k=k' then(D6 D k').map (λ_=>v) else D6 D k'
 |[]=>by simp [D6]
 |(a,b)::D=>by
  rw [AM];have ih:=b1N k v k' D
  by_cases h:a=k
  ·simp only [h,if_true];rw [P4,P4,ih]
   by_cases h2:k=k'
   ·simp [h2]
   ·simp [h2]
  ·simp only [h,if_false];rw [P4,P4,ih]
   by_cases h2:a=k'
   ·have:¬k=k':=λz=>h (h2.trans z.symm);simp [h2,this]
   ·simp [h2]
theorem c0K(D:Γ)(k:List n4)(v:PV)(k':List n4):D6 (b5T D k v) k'=if k=k' then ξ v else D6 D k':=by
 unfold b5T;rw [b6h];cases h:(D6 D k).isSome with
 |true=>
  rw [if_pos rfl,b1N]
  by_cases h2:k=k'
  ·subst h2;rw [if_pos rfl,if_pos rfl];obtain⟨x,hx⟩:=Option.isSome_iff_exists.mp h;rw [hx];rfl
  ·rw [if_neg h2,if_neg h2]
 |false=>
  rw [if_neg Af,b4U]
  by_cases h2:k=k'
  ·subst h2;rw [h];simp
  ·simp only [if_neg h2];cases h3:D6 D k'<;>simp
theorem b2z{α:Type}{ι f:α->PV}{q:α->Bool}{k:Nat}{it:MI}{c:MT}{elt:M}{tg:PV->b7->Υ b7}{ρ:b7}(xs:List α)(h1:it ρ=ξ (xs.map ι))(h2:xs.length<=16777216)
 (h:∀x∈xs,∃ρ1,tg (ι x) (ρ++AS k ζ)=ξ ρ1/\c ρ1=ξ (q x)/\(q x=true->(elt ρ1).bind d5.toVal=ξ (f x))):P6 k it tg c elt ρ=ξ (.own ((xs.filter q).map f)):=by
 rw [b1o,h1,AR,if_pos (by rw [AT,sizeLine_eq];exact h2),a6a h,AR]
theorem b3R{ps:List PV}{n:Nat}(h:∀p∈ps,y8 p n=true):G4 ps n=true:=by
 induction ps with
 |nil=>rfl
 |cons p ps ih=>simp [G4,h p AU,ih λq hq=>h q (Ab _ hq)]
section
open PySem.AutoSeq1 (wpAny_loadPart')
variable {A:AK}{s:AC}
end
section
variable {X:Cx}{pins:List (AB×Obj)}{σ:L2.St}{H:Hp}{s:AC}
end
section
variable {X:Cx}
end
section
variable {prog:AJ}{w:AI}{A:AK}{R:Result->AC->Prop}{I:AB}{fp wr:List AB}{n:Nat}{P:Nat->AA->Prop}{St:Nat->Heap->Prop}
end
section
variable {prog:AJ}{w:AI}{A:AK}{E:AA->AC->Prop}{s:AC}
end
section
variable {X:Cx}
end
end PU
namespace TS
open PySem PyProof.Rows
section
variable {prog:AJ}{w:AI}{A:AK}{E:AA->AC->Prop}{s:AC}
variable {κ:SortKind}{S:Keyed->Prop}{R:Keyed->Keyed->Bool}
end
section
variable {prog:AJ}{w:AI}{A:AK}{E:AA->AC->Prop}{s:AC}
variable {κ:SortKind}{S:Keyed->Prop}{R:Keyed->Keyed->Bool}{a₀:Array Keyed}
end
section
variable {R:Keyed->Keyed->Bool}{W out la lb xs:List Keyed}
end
section
variable {prog:AJ}{w:AI}{A:AK}{E:AA->AC->Prop}{s:AC}
variable {κ:SortKind}{S:Keyed->Prop}{R:Keyed->Keyed->Bool}
section
variable {a b o:Array Keyed}{st st':SortSt}{i j mg u v x₀ x:Nat}
end
section
variable {a b:Array Keyed}{st st':SortSt}{x₀ x mg:Nat}
end
end
section
variable {R:Keyed->Keyed->Bool}{W out la lb xs:List Keyed}
end
section
variable {prog:AJ}{w:AI}{A:AK}{E:AA->AC->Prop}{s:AC}
variable {κ:SortKind}{S:Keyed->Prop}{R:Keyed->Keyed->Bool}
section
variable {a b o:Array Keyed}{st st':SortSt}{i j mg u v x₀ x:Nat}
end
section
variable {a b:Array Keyed}{st st':SortSt}{x₀ x mg:Nat}
end
end
section
variable {prog:AJ}{w:AI}{A:AK}{E:AA->AC->Prop}{s:AC}
variable {κ:SortKind}{S:Keyed->Prop}{R:Keyed->Keyed->Bool}{a₀:Array Keyed}
end
section
variable {R:Keyed->Keyed->Bool}{a b:Array Keyed}
end
section
variable {prog:AJ}{w:AI}{A:AK}{E:AA->AC->Prop}{s:AC}
variable {κ:SortKind}{S:Keyed->Prop}{R:Keyed->Keyed->Bool}{a₀:Array Keyed}
end
section
variable {prog:AJ}{w:AI}{A:AK}{E:AA->AC->Prop}{s:AC}
variable {κ:SortKind}{S:Keyed->Prop}{R:Keyed->Keyed->Bool}
end
open L2 PU
section
variable {prog:AJ}{w:AI}{A:AK}{E:AA->AC->Prop}{s:AC}
variable {κ:SortKind}{S:Keyed->Prop}{R:Keyed->Keyed->Bool}
end
end TS
namespace PU
open L2
section
variable {α:Type}{lt:α->α->Bool}
end
open L2 PySem.W
section
variable {prog:AJ}{w:AI}{A:AK}{E:AA->AC->Prop}{s:AC}
end
section
variable {X:Cx}{pins:List (AB×Obj)}{σ:L2.St}{F H:Hp}{s:AC}
end
section
variable {X:Cx}
end
section
variable {prog:AJ}{w:AI}{A:AK}{E:AA->AC->Prop}{s:AC}{it d:AB}{i ep:Nat}{es:Array DictEntry}
end
end PU
namespace TS
open L2 PU
section
variable {prog:AJ}{w:AI}{A:AK}{E:AA->AC->Prop}{s:AC}
variable {κ:SortKind}{S:Keyed->Prop}{R:Keyed->Keyed->Bool}
end
end TS
namespace PU
open L2 PySem.W
section
variable {prog:AJ}{w:AI}{A:AK}{E:AA->AC->Prop}{s:AC}
end
section
variable {X:Cx}
end
open L2
section
variable {X:Cx}{pins:List (AB×Obj)}{σ:L2.St}{H:Hp}{s:AC}{a b:AB}{kvs:List (List n4×V)}{k:List n4}{v:V}{r:AA}{A:AK}{E:AA->AC->Prop}
end
section
variable {X:Cx}
end
def drp(F:Hp)(a:AB):Hp:=λb=>if b=a then ζ else F b
theorem a5y{F:Hp}{a b:AB}(h:b≠a):drp F a b=F b:=by unfold drp;rw [if_neg h]
theorem a8Q{F:Hp}{a:AB}:drp F a a=ζ:=by unfold drp;rw [if_pos rfl]
section
variable {K:AE}{F:Hp}{a:AB}{xs:List V}
theorem a8P{b:AB}(h:F b=ζ):drp F a b=ζ:=by
 unfold drp;split
 ·rfl
 ·exact h
end
section
variable {X:Cx}
end
section
variable {X:Cx}{tg:AF}
end
section
variable {prog:AJ}{w:AI}{A:AK}{E:AA->AC->Prop}{s:AC}
end
section
variable {X:Cx}{pins:List (AB×Obj)}{σ:L2.St}{A:AK}{R:Result->AC->Prop}
end
section
variable {X:Cx}
end
open Builtin Builtin.Str
section
variable {prog:AJ}{w:AI}{A:AK}{E:AA->AC->Prop}{s:AC}{x y:Str}{t u:Tok}{Q:AA->AC->Prop}
end
section
variable {X:Cx}
def b7H(x:d5):Υ d5:=match x with
 | .v (.int i)=>if i.natAbs.log2<1920 then ξ (.v (.str (AD (toString i)))) else ζ
 |_=>ζ
theorem c3h:M8 X (.type "str") (rC1 X.K b7H):=by
 ext h
 ext s
 unfold b7H at h2;split at h2
 ·rename_i i;split at h2
  ·rename_i c;cases h2;cases h1;obtain⟨t,rfl⟩:=ru;exact PySem.P.str_of_int c ⟨.str _,H,I.tok _,⟨_,rfl⟩,k _ F H (A7.here s0 rfl)⟩
  ·cases h2
 ·cases h2
end
section
variable {M:Model}{A:AK}{E:AA->AC->Prop}{s:AC}{base:Heap}{env:Env}{outer:List Env}{L e C:AB}{dd:Υ AB}
end
section
variable {P:AJ}{w:AI}{K:AE}{mg:Str->Υ AA}{base:Heap}{N:List Str}{qual:Str}{scope:Scope}{f:AB}{cd:AA}{A:AK}{outer:List Env}{s:AC}{H:Hp}{E:XK}
end
section
variable {X:Cx}{x:Str}{C:AB}{np cpos pos:Pos}{e₀:AF}{rest:List AF}{t:TA}{W:Hp->Prop}
end
section
variable {X:Cx}{pins:List (AB×Obj)}{σ:L2.St}{H:Hp}{s:AC}
end
section
variable {X:Cx}{E:L2.St->XK}
end
section
variable {X:Cx}{E:L2.St->XK}{CX:CXT}
end
section
variable {X:Cx}
end
section
variable {X:Cx}{pins:List (AB×Obj)}{σ:L2.St}{H:Hp}{s:AC}
end
section
variable {X:Cx}
end
def b5L(K:AE)(C:AB)(x:Str):Bool:=match K.lookup C with
 |some ⟨_,_,.cls cd,_⟩=>cd.name==x
 |_=>false
section
variable {X:Cx}
end
def unE:List (PV×PV)->Υ (Γ)
 |[]=>ξ []
 |(.tuple ks,p)::r=>(keysOf ks).bind λk=>(unE r).map λt=>(k,p)::t
 |_::_=>ζ
theorem a1D:∀k:List n4,keysOf (k.map kP)=ξ k
 |[]=>rfl
 | .inl i::k=>by
   rw [AM];unfold keysOf;rw [a1D k]
   rfl
 | .inr x::k=>by
   rw [AM];unfold keysOf;rw [a1D k]
   rfl
theorem a6R{K:AE}{F:Hp}:∀{es:List (PV×PV)} {xs:List (List n4×V)},a2v K F es xs->∃kvs,unE es=ξ kvs/\B1 K F kvs xs
 |[],_,h=>by cases h;exact⟨[],rfl,rfl⟩
 |(k,p)::es,_,⟨kk,v,t,e,z,q,h⟩=>by
  subst e;subst z;obtain⟨kvs,h1,h2⟩:=a6R h;refine⟨(kk,p)::kvs, ?_,v,t,rfl,q,h2⟩;unfold unE;rw [a1D,h1]
  rfl
theorem b6a:∀kvs:Γ,unE (kvs.map λkv=>(PyData.tuple (kv.1.map kP),kv.2))=ξ kvs
 |[]=>rfl
 |(k,p)::r=>by
  rw [AM];unfold unE;rw [a1D,b6a r]
  rfl
section
variable {X:Cx}
end
section
variable {K:AE}{F:Hp}{a:AB}{xs:List (List n4×V)}
end
section
variable {X:Cx}
end
section
variable {prog:AJ}{w:AI}{K:Type}[DecidableEq K]{kd:KeyKind prog w K}{A:AK}{E:AA->AC->Prop}{s:AC}
end
section
variable {X:Cx}{pins:List (AB×Obj)}{σ:L2.St}{H:Hp}{s:AC}{a:AB}{kvs:List (List n4×V)}{A:AK}{E:AA->AC->Prop}
end
section
variable {X:Cx}{o i:AF}{td ty:TE}
end
section
variable {X:Cx}
end
def b87(x:d5):Υ d5:=match x with
 | .v (.bool b)=>ξ (.v (.int (if b then 1 else 0)))
 |_=>ζ
theorem c3f{X:Cx}:M8 X (.type "int") (rC1 X.K b87):=by
 ext h
 ext s
 unfold b87 at h2;split at h2
 ·rename_i b;cases h2;cases h1;cases(show u=Value.bool b from ru);exact PySem.call_int_bool ⟨.int _,H,I.tok _,⟨_,rfl⟩,k _ F H (A7.here s0 rfl)⟩
 ·cases h2
end PU
namespace L2
end L2
namespace PU
open L2
open PySem.W (Looks InstAt looks_findIn looks_find looks_subIn looks_mroIn)
section
variable {prog:AJ}{w:AI}{A:AK}{E:AA->AC->Prop}{s:AC}{K:AE}{x D:AB}{ox:Obj}{od:Υ Obj}
end
section
variable {X:Cx}
end
end PU
namespace ZT
open L2 PU
section
variable {prog:AJ}{w:AI}{A:AK}{E:AA->AC->Prop}{s:AC}{z TI TO i1 i2:AB}{n1 n2 i:Nat}{P1 P2:Nat->AA->Prop}{St1 St2:Nat->Heap->Prop}{a b:AA}{l1 l2:AB}
end
section
variable {prog:AJ}{w:AI}{A:AK}{E:AA->AC->Prop}{s:AC}
end
section
variable {X:Cx}
end
end ZT
namespace PU
open L2
section
variable {X:Cx}
end
def Df0(K:AE)(x:Str)(st:Stmt):Prop:=∃f fd,PySem.W.nsIn K mainGlobals x=ξ (ξ (.ref f))/\Fun K x x st f fd
def Df(K:AE)(mg:Str->Υ AA)(x:Str)(st:Stmt):Prop:=∃f fd,Fun K x x st f fd/\mg x=ξ (.ref f)
theorem b3J{K:AE}{x:Str}{st:Stmt}{f:AB}{oc:AA}{od an:Υ AB}{osl:Array (Υ AA)}{kV doc pm cdv ct:AA}(a:PySem.W.nsIn K mainGlobals x=ξ (ξ (.ref f)))
 (l:K.lookup f=ξ ⟨oc,od,.func (PySem.W.fnOf x x (L9 st) (C4 st) (c6 st) .none kV doc pm an cdv ct),osl⟩) (c:PySem.W.codeIn K cdv x=true) (k:PySem.W.keepIn K (.ref f)=true):Df0 K x st:=⟨_,_,a,b81 l c k⟩
theorem Df0.to{K:AE}{h:Heap}{mg:Str->Υ AA}{x:Str}{st:Stmt}(d:Df0 K x st)(X:K.In h)(G:h.Ns mainGlobals mg):Df K mg x st:=by obtain⟨f,fd,a,F⟩:=d;exact⟨f,fd,F,PySem.W.mg_of X G a⟩
theorem S1{N P:List Str}{sc:Scope}(h1:sc.kind= .function:=by rfl)(h2:sc.isCoroutine=false:=by rfl)(h3:sc.isGenerator=false:=by rfl)(h4:N.Nodup:=by decide+kernel)(h5:N.take P.length=P:=by rfl)
 (h6:∀x∈P,sc.names.lookup x=ξ .local\/sc.names.lookup x=ξ .cell:=by decide+kernel) (h7:∀y∈sc.names,y.2≠.free:=by decide+kernel):i8 N P sc:=⟨h1,h2,h3,h4,h5,h6,h7⟩
section
variable {P:AJ}{w:AI}{K:AE}{mg:Str->Υ AA}{base:Heap}
theorem o0{x:Str}{st:Stmt}{N ps:List Str}{k:Nat}{m:MS}(D:Df K mg x st)(S:i8 N ps (c6 st))
 (hi:∀(kV doc pm:AA) (an:Υ AB) (cdv ct:AA) (us:List AA),us.length=ps.length->bindArgs (PySem.W.fnOf x x (L9 st) (C4 st) (c6 st) .none kV doc pm an cdv ct) ⟨us,[]⟩=pure (ps.zip us))
 (hb:∀(f:AB) (cdv:AA) (A:AK) (outer:List Env) (s:AC) (H:Hp) (E:XK),M5 k (A.deeper (envOfC x (c6 st) s.heap.objs.size f cdv))->ESs (a8L CX0 P w K mg base N x (c6 st) f cdv A outer s H E).nox (C4 st) m):
 p8 P w K mg base x ps (k+1) (m3 (N.length - ps.length) m):=
 let ⟨f,fd,F,hm⟩:=D
 ⟨f,fd,b8X F S (hb f),hm,F.kp,F.binds hi⟩
theorem c1r{fa:AB}{st:Stmt}{x:Str}{k:Nat}{g:Λ}(D:Df K mg "law" st)(hfa:mg "law"=ξ (.ref fa))
 (hi:∀(kV doc pm:AA) (an:Υ AB) (cdv ct v:AA),bindArgs (PySem.W.fnOf "law" "law" (L9 st) (C4 st) (c6 st) .none kV doc pm an cdv ct) ⟨[v],[]⟩=pure [(x,v)])
 (main:∀ns:List Int,ns.length<=63->g [.list (ns.map .int)]=ξ (.v (.bool true)))
 (H:∀(base:Heap) (f:AB) (fd:FuncData),K.In base->Fun K "law" "law" st f fd->S9 P w K mg base CX0 k f fd [x] (spP K 1 g)):
 ∃fd:FuncData,(∀(s:AC) (v:AA),BindsTo s fd ⟨[v],[]⟩ [(x,v)])/\∀base:Heap,K.In base->base.Ns mainGlobals mg->S9 P w K mg base CX0 k fa fd [x] (b4M K):=by
 obtain⟨f,fd,F,hm⟩:=D
 have e:=hfa.symm.trans hm
 cases e
 refine⟨fd,λs v=> ?_,λbase kb _=>(H base _ fd kb F).imp (c1s main)⟩
 obtain⟨oc,od,kV,doc,pm,an,cdv,ct,osl,rfl,lk,hcd⟩:=F.ex
 exact .of_eq (hi kV doc pm an cdv ct v)
end
theorem el0{C:List AA->Prop}(h:C [])(us:List AA)(e:us.length=0):C us:=List.length_eq_zero_iff.mp e▸h
theorem el1{C:List AA->Prop}(h:∀a,C [a])(us:List AA)(e:us.length=1):C us:=by
 obtain⟨a,rfl⟩:=List.length_eq_one_iff.mp e;exact h a
theorem elS{n:Nat}{us:List AA}(e:us.length=n+1):∃a t,us=a::t/\t.length=n:=by
 cases us with
 |nil=>cases e
 |cons a t=>exact⟨a,t,rfl,Nat.succ.inj e⟩
theorem el2{C:List AA->Prop}(h:∀a b,C [a,b])(us:List AA)(e:us.length=2):C us:=by
 obtain⟨a,t,rfl,z⟩:=elS e;exact el1 (C:=λt=>C (a::t)) (h a) t z
theorem el3{C:List AA->Prop}(h:∀a b c,C [a,b,c])(us:List AA)(e:us.length=3):C us:=by
 obtain⟨a,t,rfl,z⟩:=elS e;exact el2 (C:=λt=>C (a::t)) (h a) t z
theorem el4{C:List AA->Prop}(h:∀a b c d,C [a,b,c,d])(us:List AA)(e:us.length=4):C us:=by
 obtain⟨a,t,rfl,z⟩:=elS e;exact el3 (C:=λt=>C (a::t)) (h a) t z
abbrev obV(x:Str)(es:List (PV×PV)):PV:= .dict ((.str x,.bool false)::es)
def b2h(f:Str):List (PV×PV)->Υ PV
 |[]=>ζ
 |(.str g,p)::r=>if f==g then ξ p else b2h f r
 |_::_=>ζ
def c4X:List Str->List PV->List (PV×PV)
 |f::fs,q::qs=>(.str f,q)::c4X fs qs
 |_,_=>[]
section
variable {K:AE}{F:Hp}
theorem b6u{f:Str}:∀{es:List (PV×PV)} {fs:List (Str×V)} {p:PV},a4P K F es fs->b2h f es=ξ p->∃v,fs.lookup f=ξ v/\E7 K F p v
 |[],_,_,_,h=>by cases h
 |(k,q)::es,_,p,⟨g,v,t,e,z,r,rt⟩,h=>by
  subst e;subst z;unfold b2h at h;rw [List.lookup_cons];cases hg:f==g with
  |true=>rw [hg] at h;cases h;exact⟨v,rfl,r⟩
  |false=>rw [hg] at h;exact b6u rt h
theorem b3U{f:Str}:∀{es:List (PV×PV)} {fs:List (Str×V)},a4P K F es fs->b2h f es=ζ->fs.lookup f=ζ
 |[],_,h,_=>by cases h;rfl
 |(k,q)::es,_,⟨g,v,t,e,z,r,rt⟩,h=>by
  subst e;subst z;unfold b2h at h;rw [List.lookup_cons];cases hg:f==g with
  |true=>rw [hg] at h;cases h
  |false=>rw [hg] at h;exact b3U rt h
theorem b4C:∀{fs:List Str} {qs:List PV} {vs:List V},n6 K F qs vs->a4P K F (c4X fs qs) (fs.zip vs)
 |[],qs,vs,_=>rfl
 |f::fs,[],vs,h=>by cases h;rfl
 |f::fs,q::qs,vs,⟨v,t,e,r,rt⟩=>by subst e;exact⟨f,v,_,rfl,rfl,r,b4C rt⟩
theorem c2T{x:Str}{es:List (PV×PV)}{v:V}(h:E7 K F (obV x es) v):∃a C dx fs,v= .ref a/\F a=ξ (.ins C dx fs)/\a1u K x C/\a4P K F es fs:=by
 rcases h with⟨a,ys,_,_,kk,w,t,_,z,_⟩|⟨a,ys,_,_,kk,w,t,_,z,_⟩|⟨y,t,e,h⟩|⟨y,m,fs,ho,hf⟩
 ·cases z
 ·cases z
 ·cases e;rcases h with⟨z,_⟩|⟨z,_⟩<;>cases z
 ·obtain⟨g,v',t,e,z,r,rt⟩:=hf;cases e;cases z;rcases ho with⟨rfl,a,C,dx,e,q,n⟩|⟨rfl,_⟩
  ·exact⟨a,C,dx,fs,e,q,n,rt⟩
  ·cases r
end
theorem c0J{H:Hp}{a:AB}{o:HO}(h:H a=ξ o):t8 H a o=H:=by
 funext b;unfold t8;split
 ·rename_i e;rw [e,h]
 ·rfl
theorem b4A{f:Str}{v:V}:∀{gs:List (Str×V)},f∉gs.map (·.1)->a4c f v gs=gs++[(f,v)]
 |[],_=>rfl
 |(g,x)::r,h=>by
  simp only [AM,AX,not_or] at h;show(if g=f then _ else _)=_
  rw [if_neg λe=>h.1 e.symm,b4A h.2];rfl
def tFl(K:AE):Nat->List Str->TS
 |_,[]=>c22
 |i,f::r=>c5P (c5F K (a0o 0) (a0o i) f) (tFl K (i+1) r)
theorem b7d{K:AE}{C:AB}(c:Cls K C){a dx:AB}{D:a1o}{σ:L2.St}(h0:σ[0]?=ξ (ξ (.ref a))):∀(fs:List Str) (i:Nat) (gs:List (Str×V)) (ws:List V) (H:Hp),
 (∀f∈fs,a0q K C f)->fs.Nodup->(∀f∈fs,f∉gs.map (·.1))->gs.length+fs.length<=1000->ws.length=fs.length->(∀j w,ws[j]?=ξ w->σ[i+j]?=ξ (ξ w))->H a=ξ (.ins C dx gs)->
 D.nx σ (t8 H a (.ins C dx (gs++fs.zip ws)))->tFl K i fs D σ H
 |[],i,gs,ws,H,_,_,_,_,_,_,hH,k=>by
  rw [List.zip_nil_left,Am,c0J hH] at k;exact k
 |f::fs,i,gs,ws,H,hn,nd,hd,hl,hw,hs,hH,k=>by
  cases ws with
  |nil=>cases hw
  |cons w ws=>
   have hl':gs.length+(fs.length+1)<=1000:=hl;refine⟨w,hs 0 w rfl,.ref a,h0,a,C,dx,gs,rfl,hH,c,hn f AU,by lia, ?_⟩
   have hp:=b4A (v:=w) (hd f AU);rw [hp];rw [List.nodup_cons] at nd;refine b7d c h0 fs (i+1) (gs++[(f,w)]) ws _ (λg hg=>hn g (Ab _ hg)) nd.2 (λg hg=> ?_) (by simp only [AW,AV,Al];lia) (Nat.succ.inj hw) (λj u hj=> ?_) j1 ?_
   ·simp only [Ao,AM,Aq,Ar,List.mem_singleton,not_or];exact⟨hd g (Ab _ hg),λe=>nd.1 (e▸hg)⟩
   ·have:=hs (j+1) u (by simpa using hj)
    rwa [show i+(j+1)=i+1+j by lia] at this
   ·rw [b7g,List.append_assoc];exact k
def spI(C:AB)(fs:List Str):Sp:=λvs H Q _=>∃a dx ws,vs= .ref a::ws/\ws.length=fs.length/\H a=ξ (.ins C dx [])/\Q .non (t8 H a (.ins C dx (fs.zip ws)))
theorem c3x{P:AJ}{w:AI}{K:AE}{mg:Str->Υ AA}{base:Heap}{qual:Str}{st:Stmt}{f C:AB}{fd:FuncData}{ps fs:List Str}{k:Nat}(F:Fun K "__init__" qual st f fd)(S:i8 ps ps (c6 st))(hl:ps.length=fs.length+1)
 (c:Cls K C) (na:∀f∈fs,a0q K C f) (nd:fs.Nodup) (hs:fs.length<=1000)
 (hb:∀(cdv:AA) (A:AK) (outer:List Env) (s:AC) (H:Hp) (E:XK),M5 k (A.deeper (envOfC qual (c6 st) s.heap.objs.size f cdv))->PSs (a8L CX0 P w K mg base ps qual (c6 st) f cdv A outer s H E).nox (C4 st) (tFl K 1 fs)):
 S9 P w K mg base CX0 (k+1) f fd ps (spI C fs):=by
 refine F.ok S (λvs H Q E h=> ?_) (λcdv A outer s H vs Q E hr h=> ?_)
 ·obtain⟨a,dx,ws,rfl,h2,_⟩:=h
  rw [AV,h2,hl]
 ·obtain⟨a,dx,ws,rfl,h2,hH,q⟩:=h
  refine⟨_,hb cdv A outer s H E hr, ?_⟩
  refine b7d (σ:=a4C ps (.ref a::ws)) c rfl fs 1 [] ws H na nd (λ_ _ z=>nomatch z) (by simpa using hs) h2 (λj u hj=> ?_) hH q
  unfold L2.a4C
  rw [Aw (by rw [AT,AV];have:=(Ai.mp hj).1;lia),Nat.add_comm,AM,List.getElem?_cons_succ,Ak,hj]
  rfl
def L3(P:AJ)(w:AI)(K:AE)(mg:Str->Υ AA)(base:Heap)(x:Str)(fs:List Str)(k:Nat):Prop:=
 ∃C f fd ps,Mk K C f/\S9 P w K mg base CX0 k f fd ps (spI C fs)/\mg x=ξ (.ref C)/\a0L K fd ps []/\a1u K x C
def a5H(x:Str)(fs:List Str)(m:MA):M:=λρ=>(m ρ).bind λqs=>ξ (.v (obV x (c4X fs qs)))
section
variable {X:Cx}
theorem a3M{k k':Nat}{fs:List Str}{x:Str}{p pos:Pos}{e:AF}{es:List AF}{m:MA}
 (d:L3 X.prog X.w X.K X.mg X.base x fs k) (hr:M5 k' X.A) (hk:k+1<=k') (hg:Gl X x) (hn:∀ρ qs,m ρ=ξ qs->qs.length=fs.length) (ha:EA X (e::es) m)
 (hdb:Δ x:=by decide) (he:Ψ e es X.env:=by rfl) (hpl:Φ₁ pos es X.env:=by rfl):
 EE X (.Call (.Name x p) (e::es) [] pos) (a5H x fs m):=by
 obtain⟨C,f,fd,ps,M,G,hm,hb,nm⟩:=d
 refine A2 (c1X M G (hr.mono hk) hg hm hb .nil b1t ha hdb he hpl) λσ H Q h0=>y6 h0 λF ρ r en em kk=> ?_
 obtain⟨qs,e1,e2⟩:=bind_some em
 cases e2
 refine⟨F,ρ,qs,en,e1,λvs F1 H1 x1 rl=> ?_⟩
 intro y dx hy hdx hne
 refine⟨y,dx,vs,by rw [Am],by rw [rl.length,hn _ _ e1],j1,rfl, ?_⟩
 rw [b7g]
 have x2:Ext F1 H1 F1 (t8 H1 dx (.own y)):=Ext.layH x1.fh hdx
 have hy2:t8 H1 dx (.own y) y=ζ:=by rw [i6 λz=>hne z.symm];exact hy
 have x3:Ext F1 (t8 H1 dx (.own y)) (t8 F1 y (.ins C dx (fs.zip vs))) (t8 (t8 H1 dx (.own y)) y (.ins C dx (fs.zip vs))):=Ext.lay x2.fh hy2
 refine kk _ _ _ (A7.trans (x1.trans x2) (A7.val x3 ?_))
 refine .inr (.inr (.inr ⟨x,.bl false,fs.zip vs,.inl ⟨rfl,y,C,dx,rfl,j1,nm⟩,x,.bl false,_,rfl,rfl,rfl, ?_⟩))
 exact a4P.mono x3.f _ (b4C rl)
def a0p(K:AE)(tab:List Str)(f:Str):Prop:=∀x,tab.contains x=true->∀C,a1u K x C->Cls K C/\a0q K C f
def D9(tab:List Str)(f:Str)(r:d5):Υ d5:=match r with
 | .v (.dict ((.str x,.bool false)::es))=>if tab.contains x=true then(b2h f es).map .v else ζ
 |_=>ζ
theorem C7{tab:List Str}{f:Str}{e:AF}{m:M}{pos:Pos}(T:a0p X.K tab f)(ha:EE X e m)(hb:attributeBase e f X.env (eval e X.env)=eval e X.env:=by rfl):EE X (.Attribute e f pos) (m1 (D9 tab f) m):=
 A2 (c4k ha hb) λσ H Q h0=>y6 h0 λF ρ r en em k=>by
  obtain⟨rx,e1,e2⟩:=bind_some em;refine⟨F,ρ,rx,en,e1,λv F1 H1 o=> ?_⟩;unfold D9 at e2;split at e2
  ·rename_i x es;split at e2
   ·rename_i hc;cases hp:b2h f es with
    |none=>rw [hp] at e2;cases e2
    |some q=>
     rw [hp] at e2;cases e2;obtain⟨a,C,dx,fs,rfl,ha,nm,hr⟩:=c2T o.rep;obtain⟨v,hl,rv⟩:=b6u hr hp;obtain⟨c,n⟩:=T x hc C nm;exact⟨a,C,dx,fs,v,rfl,o.x.fh _ _ ha,c,n,hl,k v F1 H1 (A7.val o.x rv)⟩
   ·cases e2
  ·cases e2
def a8g(X:Cx)(m:Str)(n k':Nat)(tab:List (Str×(Λ))):Prop:=∀x g,tab.lookup x=ξ g->∀C,a1u X.K x C->∃f fd ps k,Cls X.K C/\c4Y X.K C m f/\S9 X.prog X.w X.K X.mg X.base CX0 k f fd ps (spP X.K ps.length g)/\k<=k'/\a0L X.K fd ps []/\ps.length=n+1
def z9(P:AJ)(w:AI)(K:AE)(mg:Str->Υ AA)(base:Heap)(f:AB)(ps:List Str)(k:Nat)(g:Λ):Prop:=
 ∃fd,S9 P w K mg base CX0 k f fd ps (spP K ps.length g)/\PySem.W.isFn K (.ref f)=true/\PySem.W.keepIn K (.ref f)=true/\a0L K fd ps []
structure KC(K:AE)(x:Str)(C:AB):Prop where
 named:a1u K x C
 cls:Cls K C
theorem A9{m:Str}{n k':Nat}:a8g X m n k' []:=λ_ _ h=>nomatch h
theorem a9{m:Str}{n k k':Nat}{x:Str}{f C:AB}{ps:List Str}{g:Λ}{t:List (Str×(Λ))}(d:z9 X.prog X.w X.K X.mg X.base f ps k g)(c:KC X.K x C)(h:PySem.W.findIn X.K (.ref C) m=ξ (ξ (.ref f)))(hk:k<=k')(hn:ps.length=n+1)(T:a8g X m n k' t):a8g X m n k' ((x,g)::t):=λy g' q D nm=>by
 rw [List.lookup_cons] at q;split at q
 ·rename_i z;cases q;rw [beq_iff_eq.mp z] at nm;cases nm.uniq c.named;obtain⟨fd,G,h1,h2,h3⟩:=d;exact⟨f,fd,ps,k,c.cls,⟨h,h1,h2⟩,G,hk,h3,hn⟩
 ·exact T y g' q D nm
def V2(tab:List (Str×(Λ)))(m:Str)(mo:M)(ma:MA):M:=λρ=>(mo ρ).bind λr=>match r with
 | .v (.dict ((.str x,.bool false)::es))=>if(b2h m es).isNone=true then(tab.lookup x).bind λg=>(ma ρ).bind λqs=>g (obV x es::qs) else ζ
 |_=>ζ
theorem c1A{tab:List (Str×(Λ))}{m:Str}{mo:M}{ma:MA}{ρ:b7}{r:d5}(h:V2 tab m mo ma ρ=ξ r):∃x es g qs,mo ρ=ξ (.v (obV x es))/\b2h m es=ζ/\tab.lookup x=ξ g/\ma ρ=ξ qs/\g (obV x es::qs)=ξ r:=by
 unfold V2 at h;obtain⟨r1,e1,h⟩:=bind_some h;split at h
 ·rename_i x es;split at h
  ·rename_i hn;obtain⟨g,e2,h⟩:=bind_some h;obtain⟨qs,e3,h⟩:=bind_some h;exact⟨x,es,g,qs,e1,Option.isNone_iff_eq_none.mp hn,e2,e3,h⟩
  ·cases h
 ·cases h
theorem Q9{tab:List (Str×(Λ))}{m:Str}{n k':Nat}{o e:AF}{es:List AF}{mo:M}{ma:MA}{pl:Sem Bool}{apos pos:Pos}(T:a8g X m n k' tab)(hr:M5 k' X.A)(ho:EE X o mo)(hn:∀ρ qs,ma ρ=ξ qs->qs.length=n)(ha:EA X (e::es) ma)
 (hst:Ψ e es X.env:=by rfl) (hpl:Φ₁ pos es X.env:=by rfl)
 (ht:eval (.Call (.Attribute o m apos) (e::es) [] pos) X.env=(do
  let ov<-eval o X.env
  standAt apos.atName
  let (f,first)<-holding [ov] (getMethod ov m pl)
  callWith pos f first (backTo pos (AL (e::es) X.env)) (backToKw pos (keywordEach [] X.env))):=by rfl):
 EE X (.Call (.Attribute o m apos) (e::es) [] pos) (V2 tab m mo ma):=by
 intro pins s σ H Q I ⟨F,ρ,r,env,hm,k⟩
 obtain⟨x,fe,g,qs,e1,e2,e3,e4,e5⟩:=c1A hm
 refine PySem.W.methodCall_KW (pl:=pl) (K6 (ho pins s σ H _ I ⟨F,ρ,_,env,e1,λv F1 H1 o1=>(⟨F1,o1⟩:∃F1,A7 X.K F H F1 H1 v (.v (obV x fe)))⟩) λu s1 h0=> ?_) ht;obtain⟨v,H1,I1,rx,F1,o1⟩:=h0
 obtain⟨a,C,dx,fs,rfl,ha',nm,hf⟩:=c2T o1.rep
 obtain rfl:u=Value.ref a:=rx
 obtain⟨f,fd,ps,kk,c,hM,G,hk,hb,hl⟩:=T x g e3 C nm
 refine b5t I1 (o1.x.fh _ _ ha') c hM (b3U hf e2) ?_
 refine PySem.W.callWith_K (first:=[.ref a]) (h₀:=X.base) I.ok.mod.kin hM.kp (K6 (ha pos pins s1 σ H1 (λvs H2=>∃F2,Ext F1 H1 F2 H2/\n6 X.K F2 qs vs) I1 ⟨F1,ρ,qs,env.ext o1.x,e4,λvs F2 H2 x2 rl=>⟨F2,x2,rl⟩⟩) λus s2 ⟨vs,H2,I2,rr,F2,x2,rl⟩=>⟨I2.kIn, ?_⟩) hst hpl
 refine b3c (us:= .ref a::us) (vs:= .ref a::vs) (dvs:=[]) (ds:=[]) (sp:=spP X.K ps.length g) (E:=E0) G (hr.mono hk) hb .nil b1t I2 (.cons rfl rr) ?_
 show spP X.K ps.length g (.ref a::vs++[]) H2 Q E0
 rw [Am]
 exact⟨F2,obV x fe::qs,r,x2.fh,⟨.ref a,vs,rfl,E7.mono x2.f _ o1.rep,rl⟩,by rw [AV,hn _ _ e4,hl],e5,λv F3 H3 o=>k v F3 H3 (A7.trans (o1.x.trans x2) o)⟩
end
section
variable {P:AJ}{w:AI}{K:AE}{mg:Str->Υ AA}{base:Heap}
def Dm(K:AE)(x qual:Str)(st:Stmt)(f:AB):Prop:=PySem.W.isFn K (.ref f)=true/\∃fd,Fun K x qual st f fd
theorem c44{x qual:Str}{st:Stmt}{f:AB}{oc:AA}{od an:Υ AB}{osl:Array (Υ AA)}{kV doc pm cdv ct:AA}
 (l:K.lookup f=ξ ⟨oc,od,.func (PySem.W.fnOf x qual (L9 st) (C4 st) (c6 st) .none kV doc pm an cdv ct),osl⟩) (c:PySem.W.codeIn K cdv qual=true) (k:PySem.W.keepIn K (.ref f)=true) (i:PySem.W.isFn K (.ref f)=true):Dm K x qual st f:=⟨i,_,b81 l c k⟩
theorem x4{x qual:Str}{st:Stmt}{N ps:List Str}{k:Nat}{m:MS}{f:AB}(D:Dm K x qual st f)(S:i8 N ps (c6 st))
 (hi:∀(kV doc pm:AA) (an:Υ AB) (cdv ct:AA) (us:List AA),us.length=ps.length->bindArgs (PySem.W.fnOf x qual (L9 st) (C4 st) (c6 st) .none kV doc pm an cdv ct) ⟨us,[]⟩=pure (ps.zip us))
 (hb:∀(cdv:AA) (A:AK) (outer:List Env) (s:AC) (H:Hp) (E:XK),M5 k (A.deeper (envOfC qual (c6 st) s.heap.objs.size f cdv))->ESs (a8L CX0 P w K mg base N qual (c6 st) f cdv A outer s H E).nox (C4 st) m):
 z9 P w K mg base f ps (k+1) (m3 (N.length - ps.length) m):=
 let ⟨i,fd,F⟩:=D
 ⟨fd,b8X F S hb,i,F.kp,F.binds hi⟩
theorem a0k{x qual:Str}{st:Stmt}{ps fs:List Str}{k:Nat}{f C:AB}(D:Dm K "__init__" qual st f)(S:i8 ps ps (c6 st))(hl:ps.length=fs.length+1)(c:KC K x C)(hm:mg x=ξ (.ref C))(M:Mk K C f)(na:∀f∈fs,a0q K C f)(nd:fs.Nodup)(hs:fs.length<=1000)
 (hi:∀(kV doc pm:AA) (an:Υ AB) (cdv ct:AA) (us:List AA),us.length=ps.length->bindArgs (PySem.W.fnOf "__init__" qual (L9 st) (C4 st) (c6 st) .none kV doc pm an cdv ct) ⟨us,[]⟩=pure (ps.zip us))
 (hb:∀(cdv:AA) (A:AK) (outer:List Env) (s:AC) (H:Hp) (E:XK),M5 k (A.deeper (envOfC qual (c6 st) s.heap.objs.size f cdv))->PSs (a8L CX0 P w K mg base ps qual (c6 st) f cdv A outer s H E).nox (C4 st) (tFl K 1 fs)):
 L3 P w K mg base x fs (k+1):=
 let ⟨i,fd,F⟩:=D
 ⟨C,f,fd,ps,M,c3x F S hl c.cls na nd hs hb,hm,F.binds hi,c.named⟩
end
theorem N7{K:AE}{f:Str}:a0p K [] f:=λ_ h=>nomatch h
theorem A4{K:AE}{f x:Str}{C:AB}{t:List Str}(c:KC K x C)(n:a0q K C f)(h:a0p K t f):a0p K (x::t) f:=λy q D nm=>by
 rw [List.contains_cons,Bool.or_eq_true] at q;rcases q with q|q
 ·rw [beq_iff_eq.mp q] at nm;cases nm.uniq c.named;exact⟨c.cls,n⟩
 ·exact h y q D nm
section
variable {X:Cx}
end
def L8(st:Stmt)(j:Nat):Stmt:=match st with
 | .ClassDef _ _ _ body _ _ _ _ _ _ _=>body.getD j st
 |_=>st
open L2 PySem.W
def byT(w:AI):Bool:=w.params.followText "set-order"
def M6(prog:AJ)(w:AI)(h:Heap)(a:AB)(es:Array (Int×AA))(ep:Nat):Prop:=
 ∃o t,h.get? a=ξ o/\o.ExactSet/\o.data= .set es ep t/\ElemsOf (r8 prog w) es.toList/\es.size<scanBound/\t.fits es.size=true/\t.led= !byT w/\(es.size≠0->t.plain=false)
def sOf:AA->Str
 | .str x _=>x
 |_=>⟨#[]⟩
abbrev a88(es:Array (Int×AA)):List Str:=es.toList.map λe=>sOf e.2
structure TxE(es:Array (Int×AA))(zs:List Str):Prop where
 all:∀e∈es.toList,∃x t,e.2= .str x t
 nd:(a88 es).Nodup
 mem:∀x,x∈a88 es↔x∈zs
theorem M6.at'{prog:AJ}{w:AI}{h h':Heap}{a:AB}{es:Array (Int×AA)}{ep:Nat}(x:M6 prog w h a es ep)(e:∀o,h.get? a=ξ o->h'.get? a=ξ o):M6 prog w h' a es ep:=
 let ⟨o,t,ho,r⟩:=x;⟨o,t,e _ ho,r⟩
theorem b5z(t:SetTable)(es:Array (Int×AA))(h:Int)(x:AA):(layNew t es h x).2.1.led=t.led:=by
 unfold layNew;split
 ·show(SetTable.orStandIn _ _).led=t.led;unfold SetTable.orStandIn;split<;>rfl
 ·rfl
theorem b28(t:SetTable)(es:Array (Int×AA))(n:Nat):(relayAll t es n).2.1.led=t.led:=by
 unfold relayAll;split
 ·rename_i t' order e;unfold SetTable.relaid SetTable.laid at e;obtain⟨ow,e1,e2⟩:=bind_some e;cases e2;dsimp only;split<;>rfl
 ·rfl
theorem a9D(t:SetTable)(es:Array (Int×AA))(n:Nat)(hp:t.plain=false):(relayAll t es n).2.1.plain=false:=by
 unfold relayAll;split
 ·rename_i t' order e;unfold SetTable.relaid SetTable.laid at e;obtain⟨ow,e1,e2⟩:=bind_some e;cases e2;dsimp only;split
  ·exact hp
  ·rfl
 ·rfl
section
variable {prog:AJ}{w:AI}{A:AK}{E:AA->AC->Prop}{s:AC}
theorem b66{h:Heap}{a:AB}{o:Obj}{es:Array (Int×AA)}{ep:Nat}{t:SetTable}(ho:h.get? a=ξ o)(hex:o.ExactSet)(hd:o.data= .set es ep t)
 {es':Array (Int×AA)} {t':SetTable} (hel:ElemsOf (r8 prog w) es'.toList) (hb:es'.size<scanBound) (hf:t'.fits es'.size=true) (hl:t'.led= !byT w) (hp:t'.plain=false):
 (h.update a (Obj.putSet es' t')).get? a=ξ {o with data:= .set es' (ep+1) t'}/\M6 prog w (h.update a (Obj.putSet es' t')) a es' (ep+1):=by
 have hg:(h.update a (Obj.putSet es' t')).get? a=ξ {o with data:= .set es' (ep+1) t'}:=by
  have:=Heap.get?_update_self (Obj.putSet es' t') ho (by rw [putSet_of es' t' hd];rfl)
  rw [putSet_of es' t' hd] at this;exact this
 exact⟨hg,_,t',hg,hex,rfl,hel,hb,hf,hl,λ_=>hp⟩
theorem c0D{g:Bool->Sem Unit}(hg:∀(b:Bool) (s₁:AC) (Q':Unit->AC->Prop),Q' () s₁->AH (model prog w) A (g b) Q' E s₁)
 {a:AB} {o:Obj} {es:Array (Int×AA)} {ep:Nat} {t:SetTable} (ho:s.heap.get? a=ξ o) (hex:o.ExactSet) (hd:o.data= .set es ep t)
 {es1:Array (Int×AA)} {t2:SetTable} (hel1:ElemsOf (r8 prog w) es1.toList) (hb1:es1.size<scanBound) (hf2:t2.fits es1.size=true) (hl:t2.led= !byT w) (hpl:t2.plain=false) {wasDummy:Bool} {R:Υ Bool->AC->Prop}
 (h:∀h' es' ep',Heap.SameBut a s.heap h'->es'.toList.Perm es1.toList->M6 prog w h' a es' ep'->R (ξ true) {s with heap:=h'}):
 AH (model prog w) A (do
  storeSet a es1 t2
  if(!wasDummy && t2.tooFull)=true then do
     g (relayAll t2 es1 (SetTable.grown es1.size)).2.2
     storeSet a (relayAll t2 es1 (SetTable.grown es1.size)).1 (relayAll t2 es1 (SetTable.grown es1.size)).2.1
     pure (ξ true)
   else pure (ξ true)) R E s:=by
 refine AG (wpAny_storeSet_of ho hd ?_ (fits_of_scanBound hb1))
 obtain⟨ho1,hS1⟩:=b66 (prog:=prog) (w:=w) ho hex hd hel1 hb1 hf2 hl hpl
 have hsb1:=Heap.SameBut.update s.heap a (Obj.putSet es1 t2)
 split
 ·have hp:=relayAll_perm t2 es1 (SetTable.grown es1.size)
  have hfr:=relayAll_fits t2 es1 (SetTable.grown es1.size)
  have hl2:=b28 t2 es1 (SetTable.grown es1.size)
  have hp2:=a9D t2 es1 (SetTable.grown es1.size) hpl
  generalize hRl:relayAll t2 es1 (SetTable.grown es1.size)=Rl at hp hfr hl2 hp2 ⊢
  obtain⟨es2,t3,gave2⟩:=Rl
  dsimp only at hp hfr hl2 hp2 ⊢
  have hel2:ElemsOf (r8 prog w) es2.toList:=hel1.perm hp
  have hsz:es2.size=es1.size:=by rw [<-Array.length_toList,hp.length_eq,Array.length_toList]
  have hb2:es2.size<scanBound:=by rw [hsz];exact hb1
  refine AG (hg _ _ _ ?_)
  refine AG (wpAny_storeSet_of ho1 rfl ?_ (fits_of_scanBound hb2))
  obtain⟨_,hS2⟩:=b66 (prog:=prog) (w:=w) ho1 hex rfl hel2 hb2 hfr (hl2.trans hl) hp2
  exact AN (h _ _ _ (hsb1.trans (Heap.SameBut.update _ a _)) hp hS2)
 ·exact AN (h _ _ _ hsb1 (List.Perm.refl _) hS1)
theorem TxE.perm{es es':Array (Int×AA)}{zs:List Str}(p:es'.toList.Perm es.toList)(T:TxE es zs):TxE es' zs where
 all:=λe he=>T.all e (p.mem_iff.mp he)
 nd:=((p.map _).nodup_iff).mpr T.nd
 mem:=λx=>((p.map _).mem_iff).trans (T.mem x)
theorem c41{a:AB}{es:Array (Int×AA)}{ep:Nat}{zs:List Str}{x:Str}{tk:Tok}{Q:Bool->AC->Prop}(hS:M6 prog w s.heap a es ep)(T:TxE es zs)(hroom:es.size+1<scanBound)
 (h:∀h' es' ep' b,Heap.SameBut a s.heap h'->M6 prog w h' a es' ep'->TxE es' (x::zs)->es'.size<=es.size+1->Q b {s with heap:=h'}):
 AH (model prog w) A (setAddHashed a (.str x tk) ((r8 prog w).hash (.inr x))) Q E s:=by
 obtain⟨o,t,ho,hex,hd,hel,hb,hf,hl,hpl⟩:=hS
 have hsc:(Value.str x tk).scannable=true:=rfl
 have hkey:(r8 prog w).is (.inr x) (.str x tk)=true:=a1F prog w x tk
 unfold setAddHashed setAddHashedIn
 refine wpAny_holding (AG (wpAny_setState_of ho hd hf ?_))
 dsimp only
 rw [byScan_of hsc hb hel]
 simp only [↓reduceIte]
 unfold setAddByScan
 refine AG ?_
 refine AG (wpAny_rule ?_)
 refine AG (wpAny_setScan_of hkey ho hd hf hel ?_)
 cases hr:List.findIdx? (λe=>(r8 prog w).is (.inr x) e.2) es.toList with
 |some j=>
  dsimp only
  obtain⟨hj,hpj,_⟩:=List.findIdx?_eq_some_iff_getElem.mp hr
  have hm:x∈a88 es:=by
   refine Ag.mpr ⟨es.toList[j],List.getElem_mem hj, ?_⟩;rcases C2 (show a32 (.inr x) es.toList[j].2=true from hpj) with⟨i,u,q,_⟩|⟨y,u,q,e2⟩
   ·exact nomatch q
   ·cases q;rw [e2];rfl
  refine AN (AN ?_)
  have e:s={s with heap:=s.heap}:=by cases s;rfl
  rw [e]
  exact h s.heap es ep false (Heap.SameBut.refl a s.heap) ⟨o,t,ho,hex,hd,hel,hb,hf,hl,hpl⟩ ⟨T.all,T.nd,λy=>by
   rw [T.mem y,AX];exact⟨.inr,λz=>z.elim (λz=>by rw [z];exact(T.mem x).mp hm) id⟩⟩ (Nat.le_succ _)
 |none=>
  dsimp only
  have hgw:∀(b:Bool) {s₁:AC} {Q':Unit->AC->Prop},Q' () s₁->AH (model prog w) A (match b with|true=>rule "set.scan.the-table-gave-way"|false=>pure ()) Q' E s₁:=
   λb s₁ Q' hq=>by cases b<;>first|exact AN hq|exact wpAny_rule hq
  have hperm:=layNew_perm t es ((r8 prog w).hash (.inr x)) (.str x tk)
  have hfits:=layNew_fits t es ((r8 prog w).hash (.inr x)) (.str x tk)
  have hled:=b5z t es ((r8 prog w).hash (.inr x)) (.str x tk)
  generalize hL:layNew t es ((r8 prog w).hash (.inr x)) (.str x tk)=L at hperm hfits hled ⊢
  obtain⟨es1,t1,wasDummy,gave⟩:=L
  dsimp only at hperm hfits hled ⊢
  rw [Array.toList_push] at hperm
  have hel1:ElemsOf (r8 prog w) es1.toList:=(hel.push hkey hsc).perm hperm
  have hb1':es1.size<scanBound:=by rw [<-Array.length_toList,hperm.length_eq,AW,Array.length_toList];simpa using hroom
  have hn:x∉a88 es:=λhm=>by
   obtain⟨e,he,e2⟩:=Ag.mp hm;obtain⟨y,u,ey⟩:=T.all e he;have:=List.findIdx?_eq_none_iff.mp hr e he;rw [ey] at e2 this;cases(show y=x from e2);rw [a1F] at this;cases this
  have T1:TxE es1 (x::zs):=by
   refine⟨λe he=> ?_, ?_,λy=> ?_⟩
   ·rcases Ar.mp (hperm.mem_iff.mp he) with h|h
    ·exact T.all e h
    ·rw [List.mem_singleton] at h;subst h;exact⟨x,tk,rfl⟩
   ·refine((hperm.map _).nodup_iff).mpr ?_;rw [Ao];refine List.nodup_append.mpr ⟨T.nd,by simp,λy hy z hz=> ?_⟩
    simp only [AM,Aq,List.mem_singleton] at hz;intro e;subst e;subst hz;exact hn hy
   ·rw [(hperm.map _).mem_iff,Ao,Ar,T.mem y,AX];simp only [AM,Aq,List.mem_singleton];exact⟨λz=>z.elim .inr (λz=> .inl z),λz=>z.elim (λz=> .inr z) .inl⟩
  have hsz1:es1.size=es.size+1:=by rw [<-Array.length_toList,hperm.length_eq,AW,Array.length_toList];rfl
  refine AG (hgw _ ?_)
  have hend:∀h' es' ep',Heap.SameBut a s.heap h'->es'.toList.Perm es1.toList->M6 prog w h' a es' ep'->Q true {s with heap:=h'}:=λh' es' ep' hsb p hS'=>by
   refine h h' es' ep' true hsb hS' (T1.perm p) ?_;rw [<-Array.length_toList,p.length_eq,Array.length_toList,hsz1];exact AQ _
  split
  ·rename_i hpt
   refine AG ?_
   rw [hashByValue_scannable 8 hsc]
   refine AN ?_
   have hpk:plainKind (Value.str x tk)=false:=rfl
   simp only [hpk,Ax,↓reduceIte]
   refine c0D ?_ ho hex hd hel1 hb1' (SetTable.fits_plain_off hfits) (hled.trans hl) rfl ?_
   ·intro b s₁ Q' hq;cases b<;>first|exact AN hq|exact wpAny_rule hq
   ·intro h' es' ep' hsb p hS';dsimp only;exact AN (hend h' es' ep' hsb p hS')
  ·rename_i hpt
   refine AG (AN ?_)
   simp only [↓reduceIte]
   refine c0D ?_ ho hex hd hel1 hb1' hfits (hled.trans hl) (by simpa using hpt) ?_
   ·intro b s₁ Q' hq;cases b<;>first|exact AN hq|exact wpAny_rule hq
   ·intro h' es' ep' hsb p hS';dsimp only;exact AN (hend h' es' ep' hsb p hS')
end
end PU
set_option maxHeartbeats 3200000
namespace PU
open L2 PySem.W
def b8i(x:Str)(i:Nat):Str:=⟨#[x.cps.getD i 0]⟩
def sgs(x:Str)(i:Nat):List Str:=((AZ i).map (b8i x)).reverse
theorem c0t(x:Str)(i:Nat):sgs x (i+1)=b8i x i::sgs x i:=by simp [sgs,List.range_succ]
abbrev a1M(w:AI):Obj:={cls:= .type "set",dict:=ζ,data:= .set #[] 0 (.fresh 0 0 (!byT w))}
section
variable {prog:AJ}{w:AI}{A:AK}{E:AA->AC->Prop}{s:AC}
theorem c3V{R:Result->AC->Prop}{I:AB}{fp wr:List AB}{G:Array GenState->Array GenState->Prop}{n:Nat}{St:Nat->AC->Prop}{x:Str}
 (W:WalksS prog w A.in1 I fp wr G n (SignAt x) St) (S:AB) (hSf:S∉fp) (hb:n+1<scanBound):
 ∀(k i:Nat) (s:AC) (es:Array (Int×AA)) (ep:Nat),n - i=k->i<=n->St i s->M6 prog w s.heap S es ep->TxE es (sgs x i)->es.size<=i->
  (∀s' es' ep',Moved (S::wr) G s s'->M6 prog w s'.heap S es' ep'->TxE es' (sgs x n)->es'.size<=n->R (.ok (.ret .none)) s')->
  codeAny (model prog w) A (.builtin "set.update.loop" ⟨[.ref S,.ref I],[]⟩) R s:=by
 have hSw:S∉wr:=λh=>hSf (W.sub _ h)
 have hsub:∀b∈wr,b∈S::wr:=λb hb=>Ab _ hb
 intro k
 induction k with
 |zero=>
  intro i s es ep hk hi hst hS hT hz hR
  have hin:i=n:=by lia
  subst hin
  refine codeAny_builtin F.entry_set_update_loop ?_
  rw [Around.under_plainId F.plain_set_update_loop _]
  show AH _ A.in1 (pyNext (.ref I)>>=_) _ _ s
  refine AG (W.done s _ _ hst λs' hm=> ?_)
  show AH _ A.in1 (ret Value.none) _ _ s'
  exact AN (hR s' es ep (hm.mono hsub) (hS.at' λo e=>hm.heap S _ hSw e) hT hz)
 |succ k ih=>
  intro i s es ep hk hi hst hS hT hz hR
  have hlt:i<n:=by lia
  refine codeAny_builtin F.entry_set_update_loop ?_
  rw [Around.under_plainId F.plain_set_update_loop _]
  show AH _ A.in1 (pyNext (.ref I)>>=_) _ _ s
  refine AG (W.item i s _ _ hlt hst λv s' hP hst' hm=> ?_)
  obtain⟨c,u,hc,rfl⟩:=hP
  have hS':M6 prog w s'.heap S es ep:=hS.at' λo e=>hm.heap S _ hSw e
  have hsg:(⟨#[c]⟩:Str)=b8i x i:=by unfold b8i;rw [Array.getD_eq_getD_getElem?,hc];rfl
  show AH _ A.in1 (holding [Value.str ⟨#[c]⟩ u] (setAdd S (.str ⟨#[c]⟩ u))>>=_) _ _ s'
  refine AG (wpAny_holding ?_)
  unfold setAdd
  refine wpAny_holding ?_
  refine AG ((r8 prog w).pyHash (k:= .inr ⟨#[c]⟩) (a1F _ _ _ _) ?_)
  refine c41 (s:={s' with toks:=s'.toks+1}) hS' hT (by lia) λh' es' ep' b hsb hS2 hT2 hz2=> ?_
  rw [hsg,<-c0t] at hT2
  refine AN ⟨plainId_quiet F.plain_set_update_loop _,ih (i+1) _ es' ep' (by lia) hlt (W.frame _ s' _ _ hst' (Nat.le_succ _) λb hb o e=> ?_) hS2 hT2 (by lia) λs'' es'' ep'' hm'' hS'' hT'' hz''=> ?_⟩
  ·rw [hsb.2 b (λh:b=S=>hSf (by rw [<-h];exact hb))];exact e
  ·refine hR s'' es'' ep'' (Moved.trans W.gtrans ((hm.mono hsub).then_heap (Nat.le_succ _) λb o hb e=> ?_) hm'') hS'' hT'' hz''
   rw [hsb.2 b (λh:b=S=>hb (by rw [h];exact AU))];exact e
theorem c5k(a:AA){Q₁:AA->AC->Prop}(h:Q₁ (.ref s.heap.objs.size) {s with heap:=s.heap.push (a1M w)}):
 codeAny (model prog w) A (.call (.builtin "set.__new__") ⟨[.type "set",a],[]⟩) (wants Q₁ E) s:=by
 refine codeAny_of_tree ?_
 show AH _ A.in1 (do checkBuiltinCall "set.__new__" ⟨[.type "set",a],[]⟩;again (.builtin "set.__new__" ⟨[.type "set",a],[]⟩)) _ _ s
 refine AG (wpAny_of_eq (F.newCall_set_1 a) (AN ⟨plainId_quiet F.plain_set_new _,codeAny_builtin F.entry_set_new ?_⟩))
 rw [Around.under_plainId F.plain_set_new _]
 unfold Builtin.«set.__new__» Builtin.Frozenset.newClass
 have hsub:=sub_set_self
 obtain⟨hp,g,d,tk,os⟩:=s
 dsimp only
 wp_walk
 refine wpAny_askSetting (AN ?_)
 dsimp only
 simp only [newObj]
 refine AG (wpAny_alloc (AN ?_))
 exact AN h
theorem b4O:isSubtype (.type "str") (.type "set")=pure false:=by rw [isSubtype_type];kernel_rfl
theorem a6P:isSubtype (.type "str") (.type "frozenset")=pure false:=by rw [isSubtype_type];kernel_rfl
theorem c5G{x:Str}{t:Tok}{Q:AA->AC->Prop}(hh:A.handled=ζ)(hb:x.cps.size+1<scanBound)
 (h:∀(h':Heap) (tk:Nat) es ep,M6 prog w h' s.heap.objs.size es ep->TxE es (sgs x x.cps.size)->es.size<=x.cps.size->
  (∀b o,b<s.heap.objs.size->s.heap.get? b=ξ o->h'.get? b=ξ o)->Q (.ref s.heap.objs.size) {s with heap:=h',toks:=tk}):
 AH (model prog w) A (call (.type "set") [.str x t]) Q E s:=by
 obtain⟨c,tl,hmro⟩:=F.called_set.mro
 have hmade:=F.called_set.made
 have hsub:=F.called_set.sub
 refine wpAny_call (codeAny_of_tree ?_)
 show AH _ _ (callAny (.type "set") _) _ _ _
 refine AN ⟨Code.quiet_builtin _ (by decide+kernel),codeAny_builtin F.entry_type_call ?_⟩
 rw [Around.under_plain (weight_type_call_type "set" [.str x t] []) rfl]
 have h1:=F.called_set.notType
 have h2:=F.called_set.canCreate
 have hct:=F.typeCall_set_1 (.str x t)
 repeat (any_goals (first|assumption|wp_step))
 refine codeAny_mono (c5k (.str x t) (E:=E) (Q₁:=λobj s₁=>obj= .ref s.heap.objs.size/\s₁={s with heap:=s.heap.push (a1M w)}) ⟨rfl,rfl⟩) λr s₁ hr=> ?_
 cases r with
 |error e=>exact hr
 |ok fl=>
  cases fl with
  |ret obj=>
   obtain⟨rfl,rfl⟩:=hr
   have hS:(s.heap.push (a1M w)).get? s.heap.objs.size=ξ (a1M w):=Ae _ rfl
   have hT:Shared.TypeIs {s with heap:=s.heap.push (a1M w)} (.ref s.heap.objs.size) "set":=⟨_,hS,rfl⟩
   have hli:=F.called_set.init.lookup
   have hbi:=F.called_set.init.bind (.ref s.heap.objs.size)
   repeat (any_goals (first|assumption|wp_step))
   refine codeAny_mono (codeAny_call_builtin (R:=wants (λr s₂=>r= .none/\∃h' tk es ep,s₂={s with heap:=h',toks:=tk}/\
    M6 prog w h' s.heap.objs.size es ep/\TxE es (sgs x x.cps.size)/\es.size<=x.cps.size/\
    (∀b o,b<s.heap.objs.size->s.heap.get? b=ξ o->h'.get? b=ξ o)) E) F.called_set.init.plain F.entry_set_init (check_set_init_1 hT ?_)) λr₂ s₂ hr₂=> ?_
   ·have hsls:=b4O
    have hslf:=a6P
    have hne:(Value.type "str"==Value.type "dict")=false:=by decide
    unfold Builtin.«set.__init__» noKeywords Builtin.Frozenset.updateFrom
    generalize hPI:pyIter=PI
    wp_walk
    subst hPI
    refine wpAny_pyIter_str λoI St W hst=> ?_
    refine AG (wpAny_runValue ?_)
    have hh3:A.in1.in1.in1.handled=ζ:=by simp [hh]
    have hSf:s.heap.objs.size∉[(s.heap.push (a1M w)).objs.size]:=by
     rw [Heap.size_push,List.mem_singleton];exact Ac (Nat.lt_succ_self _)
    refine c3V ((W _ hh3).toS) s.heap.objs.size hSf hb (x.cps.size - 0) 0 _ #[] 0 (by lia) (Nat.zero_le _) hst ?hS0 ⟨λe he=>by simp at he,by simp [a88],λy=>by simp [a88,sgs]⟩ (AQ _) ?hR
    case hS0=>
     exact⟨a1M w,_,AY _ hS,⟨rfl,rfl,rfl⟩,rfl,λe he=>by simp at he,by decide,by rfl,rfl,λz=>absurd rfl z⟩
    case hR=>
     intro s' es ep hm hS' hT' hz'
     obtain⟨h',g',d',tk',os'⟩:=s'
     have eg:g'=s.gens:=hm.gens
     have ed:d'=s.drawn:=hm.drawn
     have eo:os'=s.os:=hm.os
     subst eg;subst ed;subst eo
     show AH _ _ _ _ _ _
     refine AN ?_
     show AH _ _ (ret Value.none) _ _ _
     refine AN ⟨rfl,h',tk',es,ep,rfl,hS',hT',hz',λb o hb e=> ?_⟩
     have hb1:b≠s.heap.objs.size:=Ac hb
     have hb2:b≠(s.heap.push (a1M w)).objs.size:=by
      rw [Heap.size_push];exact Ac (Nat.lt_succ_of_lt hb)
     exact hm.heap b o (by simp only [AX,List.mem_singleton,List.not_mem_nil,or_false,not_or];exact⟨hb1,hb2⟩) (AY _ (AY _ e))
   ·cases r₂ with
    |error e=>exact hr₂
    |ok fl₂=>
     cases fl₂ with
     |ret r=>
      obtain⟨rfl,h',tk,es,ep,rfl,hS',hT',hz',hk'⟩:=hr₂
      repeat (any_goals (first|assumption|wp_step))
      exact h _ _ es ep hS' hT' hz' hk'
     |_=>exact hr₂.elim
  |_=>exact hr.elim
end
set_option maxHeartbeats 1000000
theorem z6:Slot "set_iterator" "__next__" "set_iterator.__next__":=
 .of (owner:="set_iterator") (n:="__next__") (by rw [typeLookup_type,builtinLookup_eq_fast];kernel_rfl) (by decide+kernel) (by decide+kernel) (by decide+kernel)
  (by first|exact .inl (by decide+kernel)|exact .inr (by decide+kernel)) (by rw [isSubtype_type];kernel_rfl)
theorem a5m:Slot "set_iterator" "__iter__" "set_iterator.__iter__":=
 .of (owner:="set_iterator") (n:="__iter__") (by rw [typeLookup_type,builtinLookup_eq_fast];kernel_rfl) (by decide+kernel) (by decide+kernel) (by decide+kernel)
  (by first|exact .inl (by decide+kernel)|exact .inr (by decide+kernel)) (by rw [isSubtype_type];kernel_rfl)
theorem T7:entryFor table "set_iterator.__next__"=ξ Builtin.«set_iterator.__next__»:=entryFor_of_tree (by kernel_rfl)
theorem a8U:entryFor table "set_iterator.__iter__"=ξ Builtin.«dict_keyiterator.__iter__»:=entryFor_alias (id':="dict_keyiterator.__iter__") (by kernel_rfl) rfl (by decide+kernel) (by kernel_rfl)
theorem b2d:entryFor table "set.__iter__"=ξ Builtin.«frozenset.__iter__»:=entryFor_alias (id':="frozenset.__iter__") (by kernel_rfl) rfl (by decide+kernel) (by kernel_rfl)
theorem b1s:Manifest.owners.lookup (String.ofList ['r', 'o', 't', 'a', 'r', 'e', 't', 'i', '_', 't', 'e', 's'].reverse)=ξ Manifest.sig_set_iterator:=by kernel_rfl
theorem Y8(a:AA):argsOk "set_iterator.__next__" ⟨[a],[]⟩:=by
 unfold argsOk;rw [signature?_of (id:="set_iterator.__next__") (n:=['_', '_', 't', 'x', 'e', 'n', '_', '_']) (o:=['r', 'o', 't', 'a', 'r', 'e', 't', 'i', '_', 't', 'e', 's']) (by kernel_rfl) b1s];kernel_rfl
theorem b0c(a:AA):argsOk "set_iterator.__iter__" ⟨[a],[]⟩:=by
 unfold argsOk;rw [signature?_of (id:="set_iterator.__iter__") (n:=['_', '_', 'r', 'e', 't', 'i', '_', '_']) (o:=['r', 'o', 't', 'a', 'r', 'e', 't', 'i', '_', 't', 'e', 's']) (by kernel_rfl) b1s];kernel_rfl
def a0f(h:Heap)(it:AB)(first:AA)(i:Nat)(a:AB)(n ep:Nat):Prop:=∃o,h.get? it=ξ o/\o.cls= .type "set_iterator"/\o.data= .fields #[first,.int i 0,.ref a,.int n 0,.int ep 0]
theorem a0f.typeIs{s:AC}{it:AB}{first:AA}{i:Nat}{a:AB}{n ep:Nat}(x:a0f s.heap it first i a n ep):s.TypeIs (.ref it) "set_iterator":=by obtain⟨o,ho,hc,_⟩:=x;exact⟨o,ho,hc⟩
theorem a0f.at'{h h':Heap}{it:AB}{first:AA}{i:Nat}{a:AB}{n ep:Nat}(x:a0f h it first i a n ep)(e:∀o,h.get? it=ξ o->h'.get? it=ξ o):a0f h' it first i a n ep:=by obtain⟨o,ho,r⟩:=x;exact⟨o,e _ ho,r⟩
theorem a5z{α:Type}:∀{l:List α} {i:Nat} (h:i<l.length),(l[i]::l.eraseIdx i).Perm l
 |x::l,0,h=>List.Perm.refl _
 |x::l,i+1,h=>by
  have ih:=a5z (l:=l) (i:=i) (by simpa using h)
  show(l[i]'(by simpa using h)::x::l.eraseIdx i).Perm (x::l)
  exact(List.Perm.swap _ _ _).trans (ih.cons x)
theorem b1x{α:Type}(f:Nat->Nat):∀(n k:Nat) (left:List α) (out:Array α),left.length=n->(pickOrder.go f n k left out).toList.Perm (out.toList++left)
 |0,k,left,out,h=>by
  cases left with
  |nil=>rw [Am];exact List.Perm.refl _
  |cons a l=>cases h
 |n+1,k,left,out,h=>by
  unfold pickOrder.go;have hlt:f k % left.length<left.length:=Nat.mod_lt _ (by lia)
  rw [Ap hlt];dsimp only;refine(b1x f n (k+1) _ _ (by rw [List.length_eraseIdx];split<;>lia)).trans ?_
  rw [Array.toList_push,List.append_assoc];exact List.Perm.append_left _ (a5z hlt)
theorem a1c{α:Type}(f:Nat->Nat)(xs:Array α):(pickOrder f xs).toList.Perm xs.toList:=by
 have:=b1x f xs.size 0 xs.toList #[] (by simp)
 simpa [pickOrder] using this
section
variable {prog:AJ}{w:AI}{A:AK}{E:AA->AC->Prop}{s:AC}{it a:AB}{i ep:Nat}{es:Array (Int×AA)}
theorem b3m{src:Source}{n:Nat}{Q:Nat->AC->Prop}(hn:n≠0)(h:∀i,i<n->Q i {s with drawn:=s.drawn.bump src}):AH (model prog w) A (choose src n) Q E s:=
 λ_ _ _=>⟨hn,h _ (Nat.mod_lt _ (Nat.pos_of_ne_zero hn))⟩
theorem b05{α:Type}:∀(n:Nat) (xs:List α) (s:AC) (Q:List α->AC->Prop),xs.length=n->(∀ys d,ys.Perm xs->Q ys {s with drawn:=d})->AH (model prog w) A (drawOrder n xs) Q E s
 |0,xs,s,Q,h,k=>by
  unfold drawOrder;cases xs with
  |nil=>exact AN (k [] s.drawn (List.Perm.refl _))
  |cons a l=>cases h
 |n+1,[],s,Q,h,k=>by cases h
 |n+1,x::l,s,Q,h,k=>by
  unfold drawOrder;refine AG (b3m (by simp) λi hi=> ?_)
  rw [Ap hi];dsimp only;refine AG (b05 n _ _ _ (by rw [List.length_eraseIdx];split<;>lia) λys d p=> ?_)
  refine AN ?_;exact k _ d ((p.cons _).trans (a5z hi))
theorem b13{Q:Bool->AC->Prop}(h:Q (byT w) s):AH (model prog w) A setsByText Q E s:=by
 unfold setsByText;exact AG (wpAny_askSetting (AN h))
theorem M6.typeIs(x:M6 prog w s.heap a es ep):s.TypeIs (.ref a) "set":=by obtain⟨o,_,ho,hc,_⟩:=x;exact⟨o,ho,hc.1⟩
theorem c2R{sl:Nat}{Q:Υ (AA×Nat)->AC->Prop}(hb:byT w=true)(hS:M6 prog w s.heap a es ep)(h:Q (((pickOrder (w.params.setOrder a ep) es)[i]?).map λe=>(e.2,sl)) s):AH (model prog w) A (setNext a sl i ep) Q E s:=by
 obtain⟨o,t,ho,hex,hd,hel,hz,hf,hl,hpl⟩:=hS;unfold setNext;refine AG (wpAny_setState_of ho hd hf ?_);dsimp only;refine AG (b13 ?_);rw [hb];simp only [↓reduceIte,bne_self_eq_false,Ax];unfold setWalk;refine AG (AG (wpAny_setState_of ho hd hf ?_));dsimp only;refine AG (b13 ?_);rw [hb];simp only [↓reduceIte];refine AG (wpAny_askSetting ?_);exact AN (AN h)
theorem a2b{Q:Array (Int×AA)->AC->Prop}(hS:M6 prog w s.heap a es ep)(h:Q es s):AH (model prog w) A (setEntries a) Q E s:=
 let ⟨_,_,ho,_,hd,_,_,hf,_⟩:=hS;wpAny_setEntries_of ho hd hf h
theorem b4K{sl nxt:Nat}{v:AA}{Q:Υ AA->AC->Prop}(hit:a0f s.heap it (.int sl 0) i a es.size ep)(hS:M6 prog w s.heap a es ep)
 (hN:∀(A:AK) (E:AA->AC->Prop) (Q:Υ (AA×Nat)->AC->Prop),Q (ξ (v,nxt)) s->AH (model prog w) A (setNext a sl i ep) Q E s)
 (hQ:∀h',a0f h' it (.int nxt 0) (i+1) a es.size ep->Heap.SameBut it s.heap h'->Q (ξ v) {s with heap:=h'}):AH (model prog w) A (pyNext (.ref it)) Q E s:=by
 obtain⟨o,ho,hc,hd⟩:=id hit
 unfold pyNext
 refine AG (wpAny_attempt (wpAny_callSpecial?_slot (name:=AD "__next__") hit.typeIs z6 (wpAny_call_entry z6 hit.typeIs T7 ?_ (Y8 _))))
 unfold Builtin.«set_iterator.__next__»
 refine AG (AN ?_)
 refine AG (wpAny_fieldsOf ho hd ?_)
 show AH _ _ (setEntries a>>=_) _ _ s
 refine AG (a2b hS ?_)
 rw [if_neg (by simp)]
 refine AG (hN _ _ _ ?_)
 dsimp only
 refine AG (wpAny_setField ho hd (by simp) ?_)
 have hg1:=Heap.get?_update_self (Obj.mapFields (·.setIfInBounds 0 (rawInt nxt))) ho (Obj.isFreed_of_fields (Obj.data_mapFields hd _))
 have hd1:=Obj.data_mapFields hd (·.setIfInBounds 0 (rawInt nxt))
 refine AG (wpAny_setField hg1 hd1 (by simp) ?_)
 have hg2:=Heap.get?_update_self (Obj.mapFields (·.setIfInBounds 1 (rawInt ((i:Int)+1)))) hg1 (Obj.isFreed_of_fields (Obj.data_mapFields hd1 _))
 have hd2:=Obj.data_mapFields hd1 (·.setIfInBounds 1 (rawInt ((i:Int)+1)))
 refine AN ⟨_,rfl,AN (hQ _ ⟨_,hg2, ?_, ?_⟩ ((Heap.SameBut.update ..).trans (Heap.SameBut.update ..)))⟩
 ·exact(Obj.cls_mapFields ..).trans ((Obj.cls_mapFields ..).trans hc)
 ·rw [hd2];simp [rawInt]
theorem b65{sl:Nat}{Q:Υ AA->AC->Prop}(hh:A.handled=ζ)(hit:a0f s.heap it (.int sl 0) i a es.size ep)(hS:M6 prog w s.heap a es ep)
 (hN:∀(A:AK) (E:AA->AC->Prop) (Q:Υ (AA×Nat)->AC->Prop),Q ζ s->AH (model prog w) A (setNext a sl i ep) Q E s)
 (hQ:∀h',Heap.ExtBut it s.heap h'->Q ζ {s with heap:=h'}):AH (model prog w) A (pyNext (.ref it)) Q E s:=by
 obtain⟨o,ho,hc,hd⟩:=id hit
 unfold pyNext
 refine AG (wpAny_attempt (wpAny_callSpecial?_slot (name:=AD "__next__") hit.typeIs z6 (wpAny_call_entry z6 hit.typeIs T7 ?_ (Y8 _))))
 unfold Builtin.«set_iterator.__next__»
 refine AG (AN ?_)
 refine AG (wpAny_fieldsOf ho hd ?_)
 show AH _ _ (setEntries a>>=_) _ _ s
 refine AG (a2b hS ?_)
 rw [if_neg (by simp)]
 refine AG (hN _ _ _ ?_)
 dsimp only
 refine AG (wpAny_setField ho hd (by simp) ?_)
 refine AG ?_
 simp only [newExc,newTuple];refine AG (wpAny_newObj_type ?_ (by size_fits))
 refine AG (m:=firstArgMember _ _) (wpAny_of_eq (a:=Value.none) (by first|rfl|(simp only [firstArgMember];rfl)) (wpAny_newObj_type ?_ (by size_fits)))
 simp only [raiseNew];refine AG (wpAny_handled ?_);rw [show A.in1.handled=ζ from hh]
 refine AG (AN (wpAny_throw ?_));refine AG (wpAny_isInstance (T:="StopIteration") (b:=true) ⟨_,Ae _ rfl,rfl⟩ isSubtype_stop ?_)
 exact AN (hQ _ (((Heap.SameBut.update ..).extBut.push _).push _))
theorem b8j{ft:AB}{ps:List Nat}{pl:Nat}{v:Int×AA}{Q:Υ AA->AC->Prop}(hit:a0f s.heap it (.ref ft) i a es.size ep)(hS:M6 prog w s.heap a es ep)(hf:IsTup s.heap ft (ps.map λi:Nat=>rawInt i).toArray)
 (hp:ps[i]?=ξ pl) (hv:es[pl]?=ξ v)
 (hQ:∀h',a0f h' it (.ref ft) (i+1) a es.size ep->Heap.SameBut it s.heap h'->Q (ξ v.2) {s with heap:=h'}):AH (model prog w) A (pyNext (.ref it)) Q E s:=by
 obtain⟨o,ho,hc,hd⟩:=id hit
 obtain⟨oq,tq,hoq,hexq,hdq,helq,hzq,hfq,hlq,hplq⟩:=id hS
 obtain⟨of,hof,hcf,nf,hdf⟩:=id hf
 unfold pyNext
 refine AG (wpAny_attempt (wpAny_callSpecial?_slot (name:=AD "__next__") hit.typeIs z6 (wpAny_call_entry z6 hit.typeIs T7 ?_ (Y8 _))))
 unfold Builtin.«set_iterator.__next__»
 refine AG (AN ?_)
 refine AG (wpAny_fieldsOf ho hd ?_)
 show AH _ _ (setEntries a>>=_) _ _ s
 refine AG (a2b hS ?_)
 rw [if_neg (by simp)]
 show AH _ _ (seqItems? (.ref ft)>>=_) _ _ s
 refine AG (wpAny_seqItems hof hdf ?_)
 have hg:((ps.map λi:Nat=>rawInt i).toArray)[i]?=ξ (rawInt pl):=by
  rw [List.getElem?_toArray,Ak,hp];rfl
 dsimp only
 rw [show((i:Int).toNat)=i from BC i,hg]
 show AH _ _ (setNextDrawn a ((pl:Int).toNat) ((ep:Int).toNat)>>=_) _ _ s
 unfold setNextDrawn
 refine AG (AG (wpAny_setState_of hoq hdq hfq ?_))
 dsimp only
 rw [show((ep:Int).toNat)=ep from BC ep,show((pl:Int).toNat)=pl from BC pl,hv]
 simp only [bne_self_eq_false,Ax,↓reduceIte]
 refine AN ?_
 refine AG (wpAny_setField ho hd (by simp) ?_)
 have hg1:=Heap.get?_update_self (Obj.mapFields (·.setIfInBounds 1 (rawInt ((i:Int)+1)))) ho (Obj.isFreed_of_fields (Obj.data_mapFields hd _))
 have hd1:=Obj.data_mapFields hd (·.setIfInBounds 1 (rawInt ((i:Int)+1)))
 refine AN ⟨_,rfl,AN (hQ _ ⟨_,hg1, ?_, ?_⟩ (Heap.SameBut.update ..))⟩
 ·exact(Obj.cls_mapFields ..).trans hc
 ·rw [hd1];simp [rawInt]
theorem c0u{ft:AB}{ps:List Nat}{Q:Υ AA->AC->Prop}(hh:A.handled=ζ)(hit:a0f s.heap it (.ref ft) i a es.size ep)(hS:M6 prog w s.heap a es ep)(hf:IsTup s.heap ft (ps.map λi:Nat=>rawInt i).toArray)
 (hp:ps[i]?=ζ)
 (hQ:∀h',Heap.ExtBut it s.heap h'->Q ζ {s with heap:=h'}):AH (model prog w) A (pyNext (.ref it)) Q E s:=by
 obtain⟨o,ho,hc,hd⟩:=id hit
 obtain⟨of,hof,hcf,nf,hdf⟩:=id hf
 unfold pyNext
 refine AG (wpAny_attempt (wpAny_callSpecial?_slot (name:=AD "__next__") hit.typeIs z6 (wpAny_call_entry z6 hit.typeIs T7 ?_ (Y8 _))))
 unfold Builtin.«set_iterator.__next__»
 refine AG (AN ?_)
 refine AG (wpAny_fieldsOf ho hd ?_)
 show AH _ _ (setEntries a>>=_) _ _ s
 refine AG (a2b hS ?_)
 rw [if_neg (by simp)]
 show AH _ _ (seqItems? (.ref ft)>>=_) _ _ s
 refine AG (wpAny_seqItems hof hdf ?_)
 have hg:((ps.map λi:Nat=>rawInt i).toArray)[i]?=ζ:=by
  rw [List.getElem?_toArray,Ak,hp];rfl
 dsimp only
 rw [show((i:Int).toNat)=i from BC i,hg]
 dsimp only
 refine AG (wpAny_setField ho hd (by simp) ?_)
 have hg1:=Heap.get?_update_self (Obj.mapFields (·.setIfInBounds 0 (rawInt 0))) ho (Obj.isFreed_of_fields (Obj.data_mapFields hd _))
 have hd1:=Obj.data_mapFields hd (·.setIfInBounds 0 (rawInt 0))
 refine AG (wpAny_setField hg1 hd1 (by simp) ?_)
 refine AG ?_
 simp only [newExc,newTuple];refine AG (wpAny_newObj_type ?_ (by size_fits))
 refine AG (m:=firstArgMember _ _) (wpAny_of_eq (a:=Value.none) (by first|rfl|(simp only [firstArgMember];rfl)) (wpAny_newObj_type ?_ (by size_fits)))
 simp only [raiseNew];refine AG (wpAny_handled ?_);rw [show A.in1.handled=ζ from hh]
 refine AG (AN (wpAny_throw ?_));refine AG (wpAny_isInstance (T:="StopIteration") (b:=true) ⟨_,Ae _ rfl,rfl⟩ isSubtype_stop ?_)
 exact AN (hQ _ ((((Heap.SameBut.update ..).trans (Heap.SameBut.update ..)).extBut.push _).push _))
theorem a9O{first:AA}{n:Nat}{Q:AA->AC->Prop}(hit:a0f s.heap it first i a n ep)(h:Q (.ref it) s):AH (model prog w) A (pyIter (.ref it)) Q E s:=by
 refine wpAny_pyIter_slot hit.typeIs a5m (wpAny_call_entry a5m hit.typeIs a8U ?_ (b0c _));show AH _ _ (ret (.ref it)) _ _ s;exact AN ⟨_,rfl,"set_iterator",_,hit.typeIs,z6.lookup,h⟩
end
section
variable {prog:AJ}{w:AI}{A:AK}{E:AA->AC->Prop}{s:AC}{a:AB}{ep:Nat}{es:Array (Int×AA)}
def PlX(h:Heap)(a:AB)(es:Array (Int×AA))(ep:Nat)(pl:Array Nat):Prop:=∃o t,h.get? a=ξ o/\o.data= .set es ep t/\t.place=pl
theorem b9J{i sl:Nat}{pl:Array Nat}{Q:Υ (AA×Nat)->AC->Prop}(hb:byT w=false)(hS:M6 prog w s.heap a es ep)(hP:PlX s.heap a es ep pl)(h1:es.size<=1)
 (h:Q (match es[SetTable.below pl sl]?,pl[SetTable.below pl sl]? with|some (_,x),ξ j=>ξ (x,j+1)|_,_=>ζ) s):AH (model prog w) A (setNext a sl i ep) Q E s:=by
 obtain⟨o,t,ho,hex,hd,hel,hz,hf,hl,hpl⟩:=hS
 obtain⟨o',t',ho',hd',ep'⟩:=hP
 rw [ho] at ho';cases ho'
 rw [hd] at hd';cases hd'
 subst ep'
 rw [hb] at hl
 unfold setNext
 refine AG (wpAny_setState_of ho hd hf ?_)
 dsimp only
 refine AG (b13 ?_)
 rw [hb]
 simp only [Ax,↓reduceIte]
 show AH _ _ (if(!t.plain && decide (es.size>1))=true then _ else _) _ _ s
 rw [if_neg (by simp;lia)]
 show AH _ _ ((if(!t.led && !es.isEmpty)=true then _ else _)>>=_) _ _ s
 rw [hl]
 refine AG (AN ?_)
 exact AN h
theorem c3a(j:Nat):SetTable.below #[j] 0=0:=by simp [SetTable.below,SetTable.below.go]
theorem c3b(j:Nat):SetTable.below #[j] (j+1)=1:=by simp [SetTable.below,SetTable.below.go]
theorem c4W(hb:byT w=true)(hh:A.handled=ζ)(I:AB)(hne:a≠I):Walks prog w A I [I,a] [I] es.size (λi v=>((pickOrder (w.params.setOrder a ep) es).toList.map (·.2))[i]?=ξ v) (λi h=>a0f h I (.int (0:Nat) 0) i a es.size ep/\M6 prog w h a es ep) where
 sub:=λb hb=>by simp at hb;simp [hb]
 frame:=λ_ _ _ st hk=>⟨st.1.at' λo e=>hk I (by simp) o e,st.2.at' λo e=>hk a (by simp) o e⟩
 item:=λi s Q E hi st hQ=>by
  have hz:(pickOrder (w.params.setOrder a ep) es).size=es.size:=by
   have:=(a1c (w.params.setOrder a ep) es).length_eq
   simpa using this
  have hi':i<(pickOrder (w.params.setOrder a ep) es).size:=by lia
  refine b4K (nxt:=0) (v:=(pickOrder (w.params.setOrder a ep) es)[i].2) st.1 st.2 (λA E Q q=>c2R hb st.2 (by rw [getElem?_pos _ i hi'];exact q)) λh' hit' hs'=>hQ _ h' s.toks ?_ ⟨hit',st.2.at' λo e=>hs'.extBut a o hne e⟩ λb o hb e=>hs'.extBut b o (λh=>hb (by simp [h])) e
  rw [Ak,Array.getElem?_toList,getElem?_pos _ i hi'];rfl
 done:=λs Q E st hQ=>by
   have hz:(pickOrder (w.params.setOrder a ep) es).size=es.size:=by
    have:=(a1c (w.params.setOrder a ep) es).length_eq
    simpa using this
   exact b65 hh st.1 st.2 (λA E Q q=>c2R hb st.2 (by rw [getElem?_neg _ es.size (by lia)];exact q)) λh' he'=>hQ h' s.toks λb o hb e=>he' b o (λh=>hb (by simp [h])) e
 self:=λ_ _ _ _ st hQ=>a9O st.1 hQ
theorem c4U(hb:byT w=false)(h1:es.size<=1)(hh:A.handled=ζ)(I:AB)(hne:a≠I){pl:Array Nat}(hp:pl.size=es.size):
 Walks prog w A I [I,a] [I] es.size (λi v=>(es.toList.map (·.2))[i]?=ξ v) (λi h=>∃sl:Nat,a0f h I (.int sl 0) i a es.size ep/\M6 prog w h a es ep/\PlX h a es ep pl/\(i=0->sl=0)/\(i≠0->sl=pl.getD 0 0+1)) where
 sub:=λb hb=>by simp at hb;simp [hb]
 frame:=λ_ _ _ ⟨sl,st1,st2,⟨o,t,ho,r⟩,st4,st5⟩ hk=>⟨sl,st1.at' λo e=>hk I (by simp) o e,st2.at' λo e=>hk a (by simp) o e,⟨o,t,hk a (by simp) o ho,r⟩,st4,st5⟩
 item:=λi s Q E hi ⟨sl,st1,st2,st3,st4,st5⟩ hQ=>by
  have hi0:i=0:=by lia
  subst hi0;cases st4 rfl;have hs1:es.size=1:=by lia
  obtain⟨j,rfl⟩:∃j,pl= #[j]:=by
   obtain⟨l⟩:=pl;cases l with
   |nil=>simp at hp;lia
   |cons j l=>
    cases l with
    |nil=>exact⟨j,rfl⟩
    |cons k l=>simp at hp;lia
  have h0:0<es.size:=by lia
  refine b4K (nxt:=j+1) (v:=es[0].2) st1 st2 (λA E Q q=>b9J hb st2 st3 h1 (by rw [c3a,getElem?_pos _ 0 h0];exact q)) λh' hit' hs'=>hQ _ h' s.toks ?_ ⟨j+1,hit',st2.at' λo e=>hs'.extBut a o hne e, ?_,λz=>absurd z (Nat.succ_ne_zero 0),λ_=>rfl⟩ λb o hb e=>hs'.extBut b o (λh=>hb (by simp [h])) e
  ·rw [Ak,Array.getElem?_toList,getElem?_pos _ 0 h0];rfl
  ·obtain⟨o,t,ho,r⟩:=st3;exact⟨o,t,hs'.extBut a o hne ho,r⟩
 done:=λs Q E ⟨sl,st1,st2,st3,st4,st5⟩ hQ=>by
   refine b65 hh st1 st2 (λA E Q q=>b9J hb st2 st3 h1 ?_) λh' he'=>hQ h' s.toks λb o hb e=>he' b o (λh=>hb (by simp [h])) e
   by_cases h0:es.size=0
   ·have e0:es[SetTable.below pl sl]?=ζ:=getElem?_neg _ _ (by lia)
    rw [e0];exact q
   ·cases st5 h0;obtain⟨j,rfl⟩:∃j,pl= #[j]:=by
     obtain⟨l⟩:=pl;cases l with
     |nil=>simp at hp;lia
     |cons j l=>
      cases l with
      |nil=>exact⟨j,rfl⟩
      |cons k l=>simp at hp;lia
    have e1:SetTable.below #[j] ((#[j]:Array Nat).getD 0 0+1)=1:=c3b j;rw [e1,getElem?_neg _ 1 (by lia)];exact q
 self:=λ_ _ _ _ ⟨_,st,_⟩ hQ=>a9O st hQ
theorem c4V(hh:A.handled=ζ)(I ft:AB)(hne:a≠I)(hnf:ft≠I){ps:List Nat}(hp:ps.Perm (AZ es.size)):
 Walks prog w A I [I,a,ft] [I] es.size (λi v=>(ps.map λp:Nat=>(es[p]?.map (·.2)).getD .none)[i]?=ξ v) (λi h=>a0f h I (.ref ft) i a es.size ep/\M6 prog w h a es ep/\IsTup h ft (ps.map λi:Nat=>rawInt i).toArray) where
 sub:=λb hb=>by simp at hb;simp [hb]
 frame:=λ_ _ _ ⟨st1,st2,⟨o,ho,r⟩⟩ hk=>⟨st1.at' λo e=>hk I (by simp) o e,st2.at' λo e=>hk a (by simp) o e,⟨o,hk ft (by simp) o ho,r⟩⟩
 item:=λi s Q E hi ⟨st1,st2,st3⟩ hQ=>by
  have hl:ps.length=es.size:=by have:=hp.length_eq;simpa using this
  have hi':i<ps.length:=by lia
  have hm:ps[i]<es.size:=List.mem_range.mp (hp.mem_iff.mp (List.getElem_mem hi'));refine b8j (pl:=ps[i]) (v:=es[ps[i]]) st1 st2 st3 (Ap hi') (getElem?_pos es ps[i] hm) λh' hit' hs'=>hQ _ h' s.toks ?_ ⟨hit',st2.at' λo e=>hs'.extBut a o hne e, ?_⟩ λb o hb e=>hs'.extBut b o (λh=>hb (by simp [h])) e
  ·rw [Ak,Ap hi',BB,getElem?_pos es ps[i] hm];rfl
  ·obtain⟨o,ho,r⟩:=st3;exact⟨o,hs'.extBut ft o hnf ho,r⟩
 done:=λs Q E ⟨st1,st2,st3⟩ hQ=>by
   have hl:ps.length=es.size:=by have:=hp.length_eq;simpa using this
   exact c0u hh st1 st2 st3 (List.getElem?_eq_none (by lia)) λh' he'=>hQ h' s.toks λb o hb e=>he' b o (λh=>hb (by simp [h])) e
 self:=λ_ _ _ _ st hQ=>a9O st.1 hQ
theorem b4x{es:Array (Int×AA)}{ps:List Nat}(hp:ps.Perm (AZ es.size)):(ps.map λp:Nat=>(es[p]?.map (·.2)).getD .none).Perm (es.toList.map (·.2)):=by
 refine(hp.map _).trans ?_;have:(AZ es.size).map (λp:Nat=>(es[p]?.map (·.2)).getD .none)=es.toList.map (·.2):=by
  apply List.ext_getElem
  ·simp
  ·intro i h1 h2;simp only [AT,Au] at h1;simp [h1]
 rw [this]
theorem c00{Q:Bool->AC->Prop}(hS:M6 prog w s.heap a es ep)(h:∀t:SetTable,(es.size≠0->t.plain=false)->Q (!byT w &&(!t.plain && decide (es.size>1))) s):AH (model prog w) A (setDrawn a) Q E s:=by
 obtain⟨o,t,ho,hex,hd,hel,hz,hf,hl,hpl⟩:=hS;unfold setDrawn;refine AG (wpAny_setState_of ho hd hf ?_);dsimp only;refine AG (b13 ?_);exact AN (h t hpl)
theorem b6o{Q:Nat->AC->Prop}(hS:M6 prog w s.heap a es ep)(h:Q ep s):AH (model prog w) A (setEpoch a) Q E s:=
 let ⟨_,_,ho,_,hd,_,_,hf,_⟩:=hS;wpAny_setEpoch_of ho hd hf h
theorem c3J{Q:AA->AC->Prop}(hS:M6 prog w s.heap a es ep)
 (h:∀(h':Heap) d I fp (St:Nat->Heap->Prop) (ord:List AA),(∀b o,s.heap.get? b=ξ o->h'.get? b=ξ o)->s.heap.objs.size<=I->(∀b∈fp,s.heap.objs.size<=b\/b=a)->ord.Perm (es.toList.map (·.2))->
  (∀A':AK,A'.handled=ζ->Walks prog w A' I fp [I] es.size (λi v=>ord[i]?=ξ v) St)->St 0 h'->Q (.ref I) {s with heap:=h',drawn:=d}):AH (model prog w) A (pyIter (.ref a)) Q E s:=by
 have hlt:a<s.heap.objs.size:=by obtain⟨_,_,ho,_⟩:=hS;exact Aa ho
 refine wpAny_pyIter_slot hS.typeIs F.slot_set_iter (wpAny_call_entry F.slot_set_iter hS.typeIs b2d ?_ (F.args_set_iter_1 _))
 unfold Builtin.«frozenset.__iter__»
 refine AG (AN ?_)
 show AH _ _ (Builtin.Frozenset.sizeOf a>>=_) _ _ s
 unfold Builtin.Frozenset.sizeOf
 refine AG (AG (a2b hS (AN ?_)))
 refine AG (c00 hS λt ht=> ?_)
 by_cases hd:(!byT w &&(!t.plain && decide (es.size>1)))=true
 ·rw [if_pos hd]
  simp only [χ,Bool.not_eq_true',decide_eq_true_eq] at hd
  refine AG (b05 es.size (AZ es.size) s _ (by simp) λps d hp=> ?_)
  simp only [newTuple]
  refine AG (wpAny_newObj_type ?_ ?_)
  ·have hk:∀b o,s.heap.get? b=ξ o->(s.heap.push {cls:= .type "tuple",data:= .seq (ps.map λi:Nat=>rawInt i).toArray}).get? b=ξ o:=λb o e=>AY _ e
   refine AG (b6o (hS.at' λo e=>hk a o e) ?_)
   simp only [newFields]
   refine AG (wpAny_newObj_type ?_ (by size_fits))
   refine AN ⟨_,rfl,"set_iterator",_,⟨_,Ae _ rfl,rfl⟩,z6.lookup, ?_⟩
   refine h _ d _ [s.heap.objs.size+1,a,s.heap.objs.size] (λi h=>a0f h (s.heap.objs.size+1) (.ref s.heap.objs.size) i a es.size ep/\M6 prog w h a es ep/\IsTup h s.heap.objs.size (ps.map λi:Nat=>rawInt i).toArray) _ (λb o e=>AY _ (hk b o e)) (by rw [Heap.size_push];exact Nat.le_succ _) (λb hb=> ?_) (b4x hp) (λA' hA=> ?_) ?_
   rotate_left
   ·have:=c4V (prog:=prog) (w:=w) (ep:=ep) hA (s.heap.objs.size+1) s.heap.objs.size (Ac (Nat.lt_succ_of_lt hlt)) (Ac (Nat.lt_succ_self _)) hp
    rw [Heap.size_push]
    exact this
   ·have e1:(s.heap.push {cls:= .type "tuple",data:= .seq (ps.map λi:Nat=>rawInt i).toArray}).objs.size=s.heap.objs.size+1:=Heap.size_push ..
    refine⟨⟨{cls:= .type "set_iterator",data:= .fields [.ref s.heap.objs.size,rawInt 0,.ref a,rawInt es.size,rawInt ep].toArray}, ?_,rfl,rfl⟩,hS.at' λo e=>AY _ (hk a o e),_,AY _ (Ae _ rfl),rfl,_,rfl⟩
    rw [<-e1]
    exact Ae _ rfl
   ·simp only [AX,List.not_mem_nil,or_false] at hb
    rcases hb with rfl|rfl|rfl
    ·exact .inl (Nat.le_succ _)
    ·exact .inr rfl
    ·exact .inl (AQ _)
  ·have hz:es.size<scanBound:=by obtain⟨_,_,_,_,_,_,hz,_⟩:=hS;exact hz
   have hl:ps.length=es.size:=by have:=hp.length_eq;simpa using this
   have hsl:=sizeLine_eq
   unfold scanBound at hz
   show(ps.map λi:Nat=>rawInt i).toArray.size<=AO
   simp [hl]
   lia
 ·rw [if_neg hd]
  refine AG (AN ?_)
  refine AG (b6o hS ?_)
  simp only [newFields]
  refine AG (wpAny_newObj_type ?_ (by size_fits))
  refine AN ⟨_,rfl,"set_iterator",_,⟨_,Ae _ rfl,rfl⟩,z6.lookup, ?_⟩
  have hit:a0f (s.heap.push {cls:= .type "set_iterator",data:= .fields [rawInt 0,rawInt 0,.ref a,rawInt es.size,rawInt ep].toArray}) s.heap.objs.size (.int (0:Nat) 0) 0 a es.size ep:=⟨_,Ae _ rfl,rfl,rfl⟩
  have hS':=hS.at' (h':=s.heap.push {cls:= .type "set_iterator",data:= .fields [rawInt 0,rawInt 0,.ref a,rawInt es.size,rawInt ep].toArray}) λo e=>AY _ e
  have hfp:∀b∈[s.heap.objs.size,a],s.heap.objs.size<=b\/b=a:=λb hb=>by
   simp only [AX,List.not_mem_nil,or_false] at hb;rcases hb with rfl|rfl
   ·exact .inl (AQ _)
   ·exact .inr rfl
  cases hb:byT w with
  |true=>exact h _ s.drawn _ [s.heap.objs.size,a] _ _ (λb o e=>AY _ e) (AQ _) hfp ((a1c (w.params.setOrder a ep) es).map _) (λA' hA=>c4W hb hA _ (Ac hlt)) ⟨hit,hS'⟩
  |false=>
   have h1:es.size<=1:=by
    rw [hb] at hd
    by_cases hz:es.size<=1
    ·exact hz
    ·exfalso
     rw [ht (by lia)] at hd
     simp at hd
     lia
   obtain⟨o,t',ho,hex,hdd,hel,hzz,hf,hl,hpl⟩:=id hS
   have hps:t'.place.size=es.size:=by
    simp only [SetTable.fits,χ,beq_iff_eq] at hf;exact hf.1
   exact h _ s.drawn _ [s.heap.objs.size,a] _ _ (λb o e=>AY _ e) (AQ _) hfp (List.Perm.refl _) (λA' hA=>c4U hb h1 hA _ (Ac hlt) hps) ⟨0,hit,hS',⟨o,t',AY _ ho,hdd,rfl⟩,λ_=>rfl,λz=>absurd rfl z⟩
theorem b9l{r:AB}{Q:Bool->AC->Prop}(hT:s.TypeIs (.ref r) "set")(h:Q false s):AH (model prog w) A (Builtin.List.listLengthHint (.ref r)) Q E s:=by
 unfold Builtin.List.listLengthHint;refine AG (wpAny_specialOf hT PySem.F.slot_set_len.lookup ?_);generalize hid:("set.__len__":String)=id0
 wp_delta
 rw [show splitId id0=ξ ("set","__len__") from by subst hid;decide+kernel]
 subst hid;refine AG (wpAny_isInstance (T:="set") (b:=true) hT (by rw [isSubtype_type];kernel_rfl) ?_)
 refine wpAny_ite_split (λhab=>absurd hab (by decide)) (λ_=> ?_)
 refine wpAny_ite_split (λ_=> ?_) (λhab=>absurd (by decide+kernel) hab)
 refine AG (wpAny_typeOf hT ?_);exact AN h
theorem b7r{Q:List AA->AC->Prop}(hh:A.handled=ζ)(hS:M6 prog w s.heap a es ep)
 (hQ:∀h' tk d ord,(∀b o,s.heap.get? b=ξ o->h'.get? b=ξ o)->ord.Perm (es.toList.map (·.2))->Q ord {s with heap:=h',toks:=tk,drawn:=d}):AH (model prog w) A (collect (.ref a)) Q E s:=by
 have hlt:a<s.heap.objs.size:=by obtain⟨_,_,ho,_⟩:=hS;exact Aa ho
 have hn:es.size<=AO:=by
  have hz:es.size<scanBound:=by obtain⟨_,_,_,_,_,_,hz,_⟩:=hS;exact hz
  have hsl:=sizeLine_eq;unfold scanBound at hz
  lia
 unfold collect
 refine AG (wpAny_runValue (codeAny_builtin F.entry_proto_collect ?_));rw [Around.under_plainId F.plain_proto_collect _]
 show AH _ A.in1 (newList []>>=λl=>again (.builtin "list.__iadd__" ⟨[l,.ref a],[]⟩)) _ _ s;refine AG (wpAny_newObj_type ?_)
 refine AN ⟨plainId_quiet F.plain_list_iadd _,codeAny_builtin F.entry_list_iadd ?_⟩;rw [Around.under_plainId F.plain_list_iadd _]
 show AH _ A.in1 (Builtin.List.listExtendWith (.ref s.heap.objs.size) (.ref a) (.ref s.heap.objs.size)) _ _ _
 have hS0:(s.heap.push {cls:= .type "list",data:= .seq ([]:List AA).toArray}).get? s.heap.objs.size=ξ {cls:= .type "list",data:= .seq ([]:List AA).toArray}:=Ae _ rfl
 have hSX:=hS.at' (h':=s.heap.push {cls:= .type "list",data:= .seq ([]:List AA).toArray}) λo e=>AY _ e
 have hk0:∀b o,s.heap.get? b=ξ o->(s.heap.push {cls:= .type "list",data:= .seq ([]:List AA).toArray}).get? b=ξ o:=λb o e=>AY _ e
 have hsz:(s.heap.push {cls:= .type "list",data:= .seq ([]:List AA).toArray}).objs.size=s.heap.objs.size+1:=Heap.size_push ..
 generalize hH:s.heap.push {cls:= .type "list",data:= .seq ([]:List AA).toArray}=H at hS0 hSX hk0 hsz ⊢
 unfold Builtin.List.listExtendWith
 refine AG (wpAny_typeOf (T:="set") hSX.typeIs ?_)
 have hne:s.heap.objs.size≠a:=Nat.ne_of_gt hlt
 have h1:Builtin.List.listSameRef (.ref s.heap.objs.size) (.ref a)=false:=by simp [Builtin.List.listSameRef,hne]
 have h2:(Value.type "set"==Value.type "list")=false:=by decide
 have h3:(Value.type "set"==Value.type "tuple")=false:=by decide
 simp only [h1,h2,h3,Bool.or_false,Ax,if_false]
 refine AG (c3J hSX λh' d I fp St ord hk hI hfp hp W hst=> ?_)
 refine AG (wpAny_holding (b9l (hSX.at' λo e=>hk _ _ e).typeIs ?_))
 have hSf:s.heap.objs.size∉fp:=λhb=>by
  rcases hfp _ hb with h|h
  ·rw [hsz] at h;exact absurd h (Nat.not_le.mpr (Nat.lt_succ_self _))
  ·exact hne h
 have hIlt:s.heap.objs.size<I:=by
  have hI':s.heap.objs.size+1<=I:=by rw [<-hsz];exact hI
  exact hI'
 have key:∀(h2:Heap) (c₁:Nat),St 0 h2->(∀b o,b≠s.heap.objs.size->s.heap.get? b=ξ o->h2.get? b=ξ o)->h2.get? s.heap.objs.size=ξ {cls:= .type "list",data:= .seq #[] c₁}->
  codeAny (model prog w) A (.builtin "list.extend.loop" ⟨[.ref s.heap.objs.size,.ref I,.ref s.heap.objs.size],[]⟩) (λr s'=>match r with| .ok (.ret v)=>AH (model prog w) A (match v with| .ref a=>(do let o<-load a;match o.data with| .seq xs _=>pure xs.toList|_=>unsupported "internal:collect")|_=>unsupported "internal:collect") Q E s'| .ok _=>False| .error e=>E e s') {s with heap:=h2,drawn:=d}:=by
  intro h2 c₁ hst2 hk2 hS2
  refine codeAny_extend_loopS (W A.in1 hh).toS hn s.heap.objs.size hSf _ es.size 0 _ #[] c₁ rfl (Nat.zero_le _) hst2 hS2 (ItemsOf.nil _) λs' acc' c' hm hS' hacc=> ?_
  show AH _ A (load s.heap.objs.size>>=_) _ _ _
  refine AG (wpAny_load hS' ?_)
  have e:acc'.toList=ord:=by
   have hl:ord.length=es.size:=by have:=hp.length_eq;simpa using this
   apply List.ext_getElem?;intro j
   by_cases hj:j<acc'.size
   ·have h1:j<acc'.size:=hj;have:=hacc.2 j acc'[j] (by simp [h1])
    rw [this,Array.getElem?_toList,getElem?_pos acc' j h1]
   ·rw [Array.getElem?_toList,getElem?_neg acc' j hj,List.getElem?_eq_none (by rw [hl,<-hacc.1];lia)]
  refine AN ?_
  obtain⟨h3,g3,d3,tk3,os3⟩:=s'
  have eg:g3=s.gens:=hm.gens
  have ed:d3=d:=hm.drawn
  have eo:os3=s.os:=hm.os
  subst eg;subst ed;subst eo
  show Q acc'.toList _
  rw [e]
  refine hQ h3 tk3 d3 ord (λb o q=> ?_) hp
  have hblt:=Aa q
  refine hm.heap b o (λhb=> ?_) (hk2 b o (Ac hblt) q)
  rcases AX.mp hb with h|h
  ·exact absurd hblt (by rw [h];exact Nat.lt_irrefl _)
  ·rw [List.mem_singleton.mp h] at hblt;exact absurd hblt (Nat.not_lt.mpr (Ay hIlt))
 refine wpAny_ite_split (λ_=> ?_) (λ_=>AN ⟨plainId_quiet PySem.F.plain_extend_loop _,key _ _ hst (λb o hb q=>hk _ _ (hk0 _ _ q)) (hk _ _ hS0)⟩)
 refine AG (wpAny_rule ?_)
 refine AG ?_
 show AH _ _ (updateSeq s.heap.objs.size (·.push .none)>>=λ_=>updateSeq s.heap.objs.size (·.pop)) _ _ _
 have hS1:=hk _ _ hS0
 refine AG (wpAny_updateSeq hS1 rfl ?_)
 have hS₂:=Heap.get?_update_self (Obj.mapSeq (·.push Value.none)) hS1 rfl
 refine wpAny_updateSeq (hz:=by seq_fits) hS₂ rfl ?_
 have hS₃:=Heap.get?_update_self (Obj.mapSeq (·.pop)) hS₂ rfl
 refine AN ⟨plainId_quiet PySem.F.plain_extend_loop _,key _ _ ?_ (λb o hb e=> ?_) hS₃⟩
 ·refine(W A.in1 hh).frame 0 _ _ hst λb hb o e=> ?_
  have hbS:b≠s.heap.objs.size:=λh=>hSf (h▸hb)
  exact(Heap.get?_update_other _ _ (Ne.symm hbS)).trans ((Heap.get?_update_other _ _ (Ne.symm hbS)).trans e)
 ·exact(Heap.get?_update_other _ _ (Ne.symm hb)).trans ((Heap.get?_update_other _ _ (Ne.symm hb)).trans (hk _ _ (hk0 _ _ e)))
theorem b4L{l:AA}{C:List AA->Prop}{Q:AA->AC->Prop}
 (hcol:∀(Q':List AA->AC->Prop) (E':AA->AC->Prop),(∀h1 tk d vs,(∀b o,s.heap.get? b=ξ o->h1.get? b=ξ o)->C vs->Q' vs {s with heap:=h1,toks:=tk,drawn:=d})->AH (model prog w) A.in1 (collect l) Q' E' s)
 (hC:∀vs,C vs->vs.length<64/\∃ss,StrsAre vs ss)
 (h:∀(h1 h':Heap) (tk:Tok) d (e:Nat) (vs us:List AA) (ss:List Str),(∀b o',s.heap.get? b=ξ o'->h1.get? b=ξ o')->(∀b o',h1.get? b=ξ o'->h'.get? b=ξ o')->C vs->StrsAre vs ss->StrsAre us (a73 ss)->
  h'.get? h1.objs.size=ξ (seqObj "list" us.toArray e)->Q (.ref h1.objs.size) {s with heap:=h',toks:=tk,drawn:=d}):
 AH (model prog w) A (call (.builtin "sorted") [l]) Q E s:=by
 refine Calls.call_function_entry kind_sorted plain_sorted entry_sorted (args_sorted1 _) ?_
 unfold Builtin.«sorted»
 refine AG (m:=checkCount "sorted" 1 1 _) (AN ?_)
 refine AG (hcol _ _ λh1 tk d vs k1 hv=> ?_)
 obtain⟨h64,ss,hS⟩:=hC vs hv
 refine AG (wpAny_newList ?_ (by rw [sizeLine_eq];lia))
 have hoL:(h1.push (seqObj "list" vs.toArray 0)).get? h1.objs.size=ξ (seqObj "list" vs.toArray 0):=Ae _ rfl
 show AH _ _ _ _ _ {s with heap:=h1.push (seqObj "list" vs.toArray 0),toks:=tk,drawn:=d}
 refine AG (wpAny_holding (wpAny_call_entry slot_list_sort ⟨_,hoL,rfl⟩ entry_list_sort (list_sort_treeK strKind_oneLt hoL hS.keysOf (λv₁ v₂ rest e=>keyKind_strs (by rw [<-e];exact hS)) h64 λst' a1 a2=>⟨_,rfl, ?_⟩) (args_list_sort _)))
 obtain⟨ss',g1,g2,g3⟩:=sorted_out_str hS a1 a2
 have e1:ss'=a73 ss:=a4B (b54 g3) (a29 ss) (g2.trans (a28 ss).symm)
 subst e1
 obtain⟨e,he⟩:=sortedHeap_at (out:=(arrOf st').map (·.2)) hoL
 refine AN ⟨_,rfl,h h1 _ tk d e vs _ ss k1 (λb o' hb1=> ?_) hv hS g1 (by rw [Array.toArray_toList];exact he)⟩
 have hlt:=Aa hb1
 rw [sortedHeap_old (Ac hlt) (by rw [size_push'];exact Nat.lt_succ_of_lt hlt),Heap.get?_push_ne _ _ _ (Ac hlt)]
 exact hb1
end
def b5v(x:Str):List Str->List Str
 |[]=>[x]
 |y::r=>if x=y then y::r else if y.cps.toList<x.cps.toList then y::b5v x r else x::y::r
def a0z:List Str->List Str
 |[]=>[]
 |x::r=>b5v x (a0z r)
theorem a82(x z:Str):∀l:List Str,z∈b5v x l↔z=x\/z∈l
 |[]=>by simp [b5v]
 |y::r=>by
  unfold b5v;split
  ·rename_i c;subst c;rw [AX];exact⟨λh=> .inr h,λh=>h.elim .inl id⟩
  ·split
   ·rw [AX,a82 x z r,AX];exact⟨λh=>h.elim (λh=> .inr (.inl h)) λh=>h.elim .inl λh=> .inr (.inr h),λh=>h.elim (λh=> .inr (.inl h)) λh=>h.elim .inl λh=> .inr (.inr h)⟩
   ·rw [AX]
theorem a7r(z:Str):∀l:List Str,z∈a0z l↔z∈l
 |[]=>Iff.rfl
 |x::r=>by unfold a0z;rw [a82,a7r z r,AX]
def ltS(a b:Str):Prop:=a.cps.toList<b.cps.toList
theorem b7W{a b c:Str}(h:ltS a b)(g:ltS b c):ltS a c:=List.lt_trans h g
theorem b6F(x:Str):∀{l:List Str},l.Pairwise ltS->(b5v x l).Pairwise ltS
 |[],_=>List.pairwise_singleton _ _
 |y::r,h=>by
  unfold b5v;have h':=List.pairwise_cons.mp h;split
  ·exact h
  ·rename_i c;split
   ·rename_i c2;refine List.pairwise_cons.mpr ⟨λz hz=> ?_,b6F x h'.2⟩;rcases(a82 x z r).mp hz with e|e
    ·subst e;exact c2
    ·exact h'.1 z e
   ·rename_i c2;have hxy:ltS x y:=by
     have h1:leS x y:=c2;rcases Classical.em (ltS x y) with h|h
     ·exact h
     ·exact absurd (b35 h1 h) c
    refine List.pairwise_cons.mpr ⟨λz hz=> ?_,h⟩;rcases AX.mp hz with e|e
    ·subst e;exact hxy
    ·exact b7W hxy (h'.1 z e)
theorem a6N:∀l:List Str,(a0z l).Pairwise ltS
 |[]=>List.Pairwise.nil
 |x::r=>b6F x (a6N r)
theorem c1v(a:Str):¬ltS a a:=List.lt_irrefl _
theorem b4T{l:List Str}(h:l.Pairwise ltS):l.Nodup:=h.imp λ {a b} c e=>by subst e;exact c1v a c
theorem c5V{l:List Str}(h:l.Pairwise ltS):l.Pairwise leS:=h.imp λ {a b} c=>List.lt_asymm c
theorem b53{l zs:List Str}(h:l.Pairwise leS)(nd:l.Nodup)(m:∀x,x∈l↔x∈zs):l=a0z zs:=
 a4B h (c5V (a6N zs)) ((List.perm_ext_iff_of_nodup nd (b4T (a6N zs))).mpr λx=>(m x).trans (a7r x zs).symm)
def M4(z:Str):List Str:=z.cps.toList.map λc=>(⟨#[c]⟩:Str)
theorem c2i(z x:Str):x∈sgs z z.cps.size↔x∈M4 z:=by
 unfold sgs M4;rw [List.mem_reverse,Ag,Ag];constructor
 ·rintro⟨i,hi,rfl⟩;have hi:=List.mem_range.mp hi;refine⟨z.cps[i],by simp, ?_⟩
  unfold b8i;rw [Array.getD_eq_getD_getElem?,getElem?_pos z.cps i hi];rfl
 ·rintro⟨c,hc,rfl⟩;obtain⟨i,hi,rfl⟩:=List.getElem_of_mem hc;have hi':i<z.cps.size:=by simpa using hi
  refine⟨i,List.mem_range.mpr hi', ?_⟩;unfold b8i;rw [Array.getD_eq_getD_getElem?,getElem?_pos z.cps i hi'];rfl
def a2g(x:d5):Υ d5:=match x with
 | .v (.str z)=>if z.length+1<4096/\(a0z (M4 z)).length<64 then ξ (.own ((a0z (M4 z)).map .str)) else ζ
 |_=>ζ
theorem a9T:∀{vs:List AA},(∀v∈vs,∃x t,v= .str x t)->StrsAre vs (vs.map sOf)
 |[],_=> .nil
 |v::r,h=>by
  obtain⟨x,t,rfl⟩:=h v AU;exact .cons x t (a9T λu hu=>h u (Ab _ hu))
theorem a74:∀{vs:List AA} {ss:List Str},StrsAre vs ss->ss=vs.map sOf
 |_,_,.nil=>rfl
 |_,_,.cons x t h=>by rw [AM,<-a74 h];rfl
section
variable {X:Cx}{pins:List (AB×Obj)}{σ:L2.St}{H:Hp}{s:AC}
theorem c1m(I:l8 X pins σ H s)(d:Drawn):l8 X pins σ H {s with drawn:=d}:=⟨I.ok,I.os,I.bare,I.base,I.loc,I.cell,I.free,I.freeC,I.pin,I.hok,I.len⟩
def c5A(X:Cx):List V->Hp->VK->Prop:=λxs H Q=>∃z:Str,xs=[.str z]/\z.length+1<4096/\∀p es ep,H p=ζ->TxE es (M4 z)->es.size<=z.length->Q (.ref p) (t8 H p (.ext λh=>M6 X.prog X.w h p es ep))
theorem b7p(hc:X.calm=true):M8 X (.type "set") (c5A X):=by
 intro pins s σ H xs us Q I rv h;obtain⟨z,rfl,hz,q⟩:=h
 ext s
 obtain⟨t,rfl⟩:=ru;refine c5G (I.ok.hd hc) (by unfold scanBound;exact hz) λh' tk es ep hS hT hle hk=> ?_
 refine⟨.ref s.heap.objs.size,_,I.laid (a:=s.heap.objs.size) (t':=tk) (o:= .ext λh=>M6 X.prog X.w h s.heap.objs.size es ep) (λb o e=>hk b o (Aa e) e) (AQ _) ⟨hS, ?_, ?_⟩,rfl,q _ es ep (I.hok.fresh (AQ _)) ⟨hT.all,hT.nd,λx=>(hT.mem x).trans (c2i z x)⟩ hle⟩
 ·obtain⟨o,_,ho,_⟩:=hS;exact⟨o,ho⟩
 ·exact λh1 h2 p k=>p.at' k
def c4A(X:Cx):List V->Hp->VK->Prop:=λxs H Q=>∃p es ep zs,xs=[.ref p]/\H p=ξ (.ext λh=>M6 X.prog X.w h p es ep)/\TxE es zs/\(a0z zs).length<64/\∀q,H q=ζ->Q (.ref q) (t8 H q (.lst ((a0z zs).map V.str)))
theorem b5g(hc:X.calm=true):M8 X (.builtin "sorted") (c4A X):=by
 intro pins s σ H xs us Q I rv h;obtain⟨p,es,ep,zs,rfl,hp,hT,h64,q⟩:=h
 ext s
 cases ru;obtain⟨hS,_,_⟩:=(show G3 X.prog X.w H s.heap p (.ext λh=>M6 X.prog X.w h p es ep) from I.hok p _ hp);have facts:∀vs:List AA,vs.Perm (es.toList.map (·.2))->StrsAre vs (vs.map sOf)/\a73 (vs.map sOf)=a0z zs:=λvs pm=>by
  refine⟨a9T λv hv=> ?_, ?_⟩
  ·obtain⟨e,he,rfl⟩:=Ag.mp (pm.mem_iff.mp hv);exact hT.all e he
  ·have pk:(a73 (vs.map sOf)).Perm (a88 es):=by
    refine(a28 _).trans ?_;have:=pm.map sOf;rw [Aj] at this;exact this
   exact b53 (a29 _) (pk.nodup_iff.mpr hT.nd) λx=>(pk.mem_iff).trans (hT.mem x)
 refine b4L (C:=λvs=>vs.Perm (es.toList.map (·.2))) (λQ' E' hq=>b7r (A:=X.A.in1) (I.ok.hd hc) hS λh' tk d ord kp pm=>hq h' tk d ord kp pm) (λvs pm=> ?_) λhp1 hp2 tk d en vs us ss k1 k2 pm hs hu he=> ?_
 ·obtain⟨f1,f2⟩:=facts vs pm;refine⟨?_,_,f1⟩;have:=(a28 (vs.map sOf)).length_eq;rw [f2,AT] at this
  lia
 ·obtain⟨f1,f2⟩:=facts vs pm;cases a74 hs;rw [f2] at hu;have I1:l8 X pins σ H {s with heap:=hp1,toks:=tk,drawn:=d}:=c1m (I.kept (t':=tk) k1) d
  have hf:H hp1.objs.size=ζ:=I1.hok.fresh (AQ _);exact⟨.ref hp1.objs.size,_,I1.laid (t':=tk) (h':=hp2) (o:= .lst ((a0z zs).map V.str)) k2 (AQ _) ⟨by rw [AT,sizeLine_eq];lia,us,en,b1I hu,he⟩,rfl,q _ hf⟩
theorem b5k{e:AF}{m:M}{p p2 pos pos2:Pos}(hc:X.calm=true)(hg:Gl X "sorted")(hm:X.mg "sorted"=ζ)(hg2:Gl X "set")(hm2:X.mg "set"=ζ)(ha:EE X e m)
 (hv:bootBuiltins "sorted"=ξ (.builtin "sorted"):=by rfl) (hv2:bootBuiltins "set"=ξ (.type "set"):=by rfl)
 (hs:AL [e] X.env=(false,eval e X.env)::AL [] X.env:=by rfl) (hpl:(backTo pos2 (AL [] X.env)).any (·.1)=false:=by rfl)
 (hs2:AL [.Call (.Name "set" p2) [e] [] pos2] X.env=(false,eval (.Call (.Name "set" p2) [e] [] pos2) X.env)::AL [] X.env:=by rfl) (hpl2:(backTo pos (AL [] X.env)).any (·.1)=false:=by rfl):
 EE X (.Call (.Name "sorted" p) [.Call (.Name "set" p2) [e] [] pos2] [] pos) (m1 a2g m):=
 A2 (a2m (b5g hc) hg hm hv (D8 (b1v (b7p hc) hg2 hm2 hv2 (D8 ha X5 hs) (by decide) (by decide) hs hpl) X5 hs2) (by decide) (by decide) hs2 hpl2) λσ H Q h0=>y6 h0 λF ρ r en em k=>by
  obtain⟨rx,e1,e2⟩:=bind_some em;refine⟨F,ρ,rx,en,e1,λv F1 H1 o1=> ?_⟩;unfold a2g at e2;split at e2
  ·rename_i z;split at e2
   ·rename_i c;cases e2;refine⟨z,by rw [show v=V.str z from o1.rep],c.1,λp es ep hp hT hle=> ?_⟩
    refine⟨p,es,ep,M4 z,rfl,j1,hT,c.2,λq hq=>k _ F1 _ ?_⟩;have s1:n0 F1 (t8 H1 p (.ext λh=>M6 X.prog X.w h p es ep)):=o1.x.fh.trans (O1 hp);have x1:Ext F1 H1 F1 (t8 H1 p (.ext λh=>M6 X.prog X.w h p es ep)):=Ext.layH o1.x.fh hp;exact A7.trans (o1.x.trans x1) (A7.lst x1.fh hq (b1B _))
   ·cases e2
  ·cases e2
end
theorem b5r(z:Str):a2g (.v (.str z))=if z.length+1<4096/\(a0z (M4 z)).length<64 then ξ (.own ((a0z (M4 z)).map .str)) else ζ:=ω
open L2
theorem a16(k:n4):∀xs:List (n4×V),a1r (xs.map s1) [k]=a1r xs k
 |[]=>rfl
 |x::r=>by
  rw [AM]
  by_cases c:x.1=k
  ·rw [a2p (p:=x) c,a2p (p:=s1 x) (by show [x.1]=[k];rw [c])];rfl
  ·rw [a2o (p:=x) c,a2o (p:=s1 x) (by show ¬[x.1]=[k];intro h;exact c (List.cons.inj h).1),a16 k r]
theorem b8x(k:n4):∀xs:List (n4×V),((xs.map s1).any λkv=>decide (kv.1=[k]))=(xs.any λkv=>decide (kv.1=k))
 |[]=>rfl
 |x::r=>by
  rw [AM,List.any_cons,List.any_cons,b8x k r]
  congr 1
  show decide ([x.1]=[k])=decide (x.1=k);simp
theorem b6Z(k:n4)(v:V):∀xs:List (n4×V),(xs.map λkv=>if kv.1=k then(kv.1,v) else kv).map s1=(xs.map s1).map λkv=>if kv.1=[k] then(kv.1,v) else kv
 |[]=>rfl
 |x::r=>by
  rw [AM,AM,AM,AM,b6Z k v r]
  congr 1
  by_cases c:x.1=k
  ·rw [if_pos c,if_pos (show(s1 x).1=[k] by show [x.1]=[k];rw [c])];rfl
  ·rw [if_neg c,if_neg (show ¬(s1 x).1=[k] by show ¬[x.1]=[k];intro h;exact c (List.cons.inj h).1)]
theorem c4y(k:n4)(v:V)(xs:List (n4×V)):(a4U xs k v).map s1=a4U (xs.map s1) [k] v:=by
 unfold a4U;rw [b8x];split
 ·exact b6Z k v xs
 ·rw [Ao];rfl
theorem A7.txt{K:AE}{F H:Hp}{a:AB}(s:n0 F H)(n:H a=ζ):A7 K F H F (t8 H a (.dK [])) (.ref a) (.ow (.txt [])):=
 ⟨Ext.layH s n,⟨a,[],rfl,s.free n,j1,rfl⟩,λ_ _ _ e=>by cases e;exact n⟩
theorem a2i{K:AE}{F H:Hp}{r:d5}{x:Str}{v:V}(e:b0r r=ξ x)(h:R6 K F H v r):v=kV (.inr x):=by
 unfold b0r at e;split at e
 ·cases e;exact h
 ·cases e
section
variable {X:Cx}
def b2D:M:=λ_=>ξ (.ow (.txt []))
theorem a3O{pos:Pos}:EE X (.Dict [] [] pos) b2D:=
 A2 b91 λσ H Q h0=>y6 h0 λF ρ r en e k=>by
  cases e;exact λd hd=>k _ _ _ (A7.txt en.fh hd)
def b1K(i:Nat)(ρ:b7)(p:PV)(x:Str):Υ Fl:=match ρ[i]? with
 |some (ξ (.ow (.txt kvs)))=>if kvs.length<AO then ξ (.nx (ρ.set i (ξ (.ow (.txt (b5T kvs [.inr x] p)))))) else ζ
 |_=>ζ
def V3(i:Nat)(mk mv:M):MS:=λρ=>((mv ρ).bind d5.toVal).bind λp=>((mk ρ).bind b0r).bind (b1K i ρ p)
theorem a0E(i:Nat){x:Str}{p tp2 pos:Pos}{ek e:AF}{mk mv:M}(hu:X.A.units+64<cLine)(hx:PE X (.Name x p) (a0o i))(hi:EE X ek mk)(he:EE X e mv)
 (hs:swapsWith e (ξ (.Subscript (.Name x p) ek tp2)) pos.line X.env=pure false:=by rfl):ES X (.Assign [.Subscript (.Name x p) ek tp2] e pos) (V3 i mk mv):=
 L6 (c11 (by lia) hx hi he hs) λD σ H h0=>J4 h0 λF0 H0 F ρ fl so e fin=>by
  obtain⟨q,e1,e⟩:=bind_some e;obtain⟨r,e2,e3⟩:=bind_some e1;obtain⟨k,e4,e⟩:=bind_some e;obtain⟨rk,e4,e5⟩:=bind_some e4;refine⟨F,ρ,r,so.e,e2,λv F1 H1 o=> ?_⟩;obtain⟨F2,o2⟩:=o.toVal e3;have so2:=so.ext o2.x;unfold b1K at e;split at e
  ·rename_i kvs eo;split at e
   ·rename_i hl;cases e;obtain⟨w,hw1,a,xs,rfl,fa,ha',rl⟩:=so2.e.at_ i _ eo;refine⟨.ref a,hw1,F2,ρ,rk,so2.e,e4,λy F3 H3 o3=> ?_⟩;cases a2i e5 o3.rep;have ha3:=o3.x.h _ _ ha';have so3:=so2.ext o3.x;have hlen:xs.length=kvs.length:=by have:=rl.length;rwa [AT] at this
    refine⟨a,_,rfl,b8o.k (k:= .inr k) ha3 (by rw [hlen];exact hl), ?_⟩
    refine fin σ _ _ (o2.x.f.trans o3.x.f) (so3.putT eo hw1 ?_);rw [c4y];exact(B1.mono o3.x.f _ rl).put (E7.mono o3.x.f _ o2.rep)
   ·cases e
  ·cases e
def c5S(neg:Bool)(i:Nat)(ρ:b7)(x:Str):Υ d5:=match ρ[i]? with
 |some (ξ (.ow (.txt kvs)))=>ξ (.v (.bool (if neg then !(D6 kvs [.inr x]).isSome else(D6 kvs [.inr x]).isSome)))
 |_=>ζ
def b0v(neg:Bool)(i:Nat)(mk:M):M:=λρ=>((mk ρ).bind b0r).bind (c5S neg i ρ)
theorem b7e{i:Nat}{mk:M}{neg:Bool}{σ:L2.St}{H:Hp}{Q:VK}(h:tM X.K (b0v neg i mk) σ H Q):
 tM X.K mk σ H λy H1=>a0o i σ H1 λx H2=>∃a o,x= .ref a/\a2q H2 a y o/\Q (.bl (if neg then !o.isSome else o.isSome)) H2:=by
 obtain⟨F,ρ,r,en,e,k⟩:=h
 obtain⟨kk,e4,e⟩:=bind_some e
 obtain⟨rk,e4,e5⟩:=bind_some e4
 unfold c5S at e
 split at e
 ·rename_i kvs eo
  cases e
  refine⟨F,ρ,rk,en,e4,λy F3 H3 o3=> ?_⟩
  cases a2i e5 o3.rep
  obtain⟨w,hw1,a,xs,rfl,fa,ha',rl⟩:=(en.ext o3.x).at_ i _ eo
  refine⟨.ref a,hw1,a,a1r xs (.inr kk),rfl,a2q.k ha', ?_⟩
  have:=rl.isSome (k:=[.inr kk])
  rw [a16] at this
  rw [this]
  exact k _ _ _ (A7.val o3.x rfl)
 ·cases e
theorem c3t(i:Nat){x:Str}{p pos:Pos}{ek:AF}{mk:M}(hu:X.A.units+64<cLine)(hx:PE X (.Name x p) (a0o i))(hi:EE X ek mk)(hm:behindInMarks .In (.Name x p)=false):ET X (.Compare ek [.In] [.Name x p] pos) (u5 (b0v false i mk)):=
 a7n (b5S (c4i (by lia) hi hx) hm) λσ H Q h=>c0C (λ_ _ _ h=>b7e h) h
theorem b7C(i:Nat){x:Str}{p pos:Pos}{ek:AF}{mk:M}(hu:X.A.units+64<cLine)(hx:PE X (.Name x p) (a0o i))(hi:EE X ek mk)(hm:behindInMarks .NotIn (.Name x p)=false):ET X (.Compare ek [.NotIn] [.Name x p] pos) (u5 (b0v true i mk)):=
 a7n (b5S (b1u (by lia) hi hx) hm) λσ H Q h=>c0C (λ_ _ _ h=>b7e h) h
def b3i(i:Nat)(ρ:b7)(x:Str)(d:PV):Υ d5:=match ρ[i]? with
 |some (ξ (.ow (.txt kvs)))=>ξ (.v ((D6 kvs [.inr x]).getD d))
 |_=>ζ
def a9g(i:Nat)(mk md:M):M:=λρ=>((mk ρ).bind b0r).bind λx=>((md ρ).bind d5.toVal).bind λd=>b3i i ρ x d
theorem b3P(i:Nat){x:Str}{p apos cpos:Pos}{ek f:AF}{mk:M}{md:M}(hu:X.A.units+64<cLine)(hx:PE X (.Name x p) (a0o i))(hi:EE X ek mk)(hf:EE X f md)
 (m:M2 X (.Name x p) "get" apos ek f cpos:=by exact⟨rfl,rfl,rfl,rfl⟩):EE X (.Call (.Attribute (.Name x p) "get" apos) [ek,f] [] cpos) (a9g i mk md):=
 A2 (b4v (by lia) hx hi hf m) λσ H Q h0=>y6 h0 λF ρ r en e k=>by
  obtain⟨kk,e4,e⟩:=bind_some e;obtain⟨rk,e4,e5⟩:=bind_some e4;obtain⟨d,e6,e⟩:=bind_some e;obtain⟨rd,e6,e7⟩:=bind_some e6;unfold b3i at e;split at e
  ·rename_i kvs eo;cases e;obtain⟨w,hw1,a,xs,rfl,fa,ha',rl⟩:=en.at_ i _ eo;refine⟨.ref a,hw1,a,rfl,.inl ⟨xs,.inl ha'⟩,F,ρ,rk,en,e4,λy F3 H3 o3=> ?_⟩;cases a2i e5 o3.rep;refine⟨_,ρ,rd,en.ext o3.x,e6,λz F4 H4 o4=> ?_⟩;obtain⟨F5,o5⟩:=o4.toVal e7;have x5:=o3.x.trans o5.x;refine⟨_,a2q.k (k:= .inr kk) (o5.x.h _ _ (o3.x.h _ _ ha')),k _ _ _ (A7.val x5 ?_)⟩;cases hv:D6 kvs [.inr kk] with
   |none=>
    have:=(rl.val (k:=[.inr kk])).2 hv;rw [a16] at this;rw [this];exact o5.rep
   |some q=>
    obtain⟨y,hy,ry⟩:=(rl.val (k:=[.inr kk])).1 q hv;rw [a16] at hy;rw [hy];exact E7.mono x5.f _ ry
  ·cases e
end
section
variable {prog:AJ}{w:AI}{K:Type}[DecidableEq K]{knd:KeyKind prog w K}{A:AK}{E:AA->AC->Prop}{s:AC}
end
section
variable {prog:AJ}{w:AI}{A:AK}{E:AA->AC->Prop}{s:AC}
end
end PU
namespace TS
open L2 PU
section
variable {prog:AJ}{w:AI}{A:AK}{E:AA->AC->Prop}{s:AC}
variable {κ:SortKind}{S:Heap->Keyed->Prop}{R:Heap->Keyed->Keyed->Bool}
end
end TS
namespace PU
open L2 PySem.W
section
variable {X:Cx}{pins:List (AB×Obj)}{σ:L2.St}{H H':Hp}{s:AC}{h':Heap}
end
theorem b34{k:n4}{u:AA}(h:a32 k u=true):u0 (kV k) u:=by
 rcases C2 h with⟨i,t,rfl,rfl⟩|⟨x,t,rfl,rfl⟩
 ·exact⟨t,rfl⟩
 ·exact⟨t,rfl⟩
section
variable {X:Cx}
theorem b4e:MtR X "dict.items" (λx xs H Q=>∃a kvs,x= .ref a/\xs=[]/\H a=ξ (.dK kvs)/\∀p,H p=ζ->Q (.ref p) (t8 H p (.ext λh=>h.IsItemsView p a))):=by
 intro pins s σ H x xs v us Q I rx rv h;obtain⟨a,kvs,rfl,rfl,ha,q⟩:=h;cases rx;cases rv;obtain⟨z,hd,vs,rel,dd⟩:=a6c I.hok ha;refine call_meetsIn PySem.F.slot_dict_items dd.typeIs PySem.F.entry_dict_items (PySem.F.args_dict_items_1 _) (meets_dict_items (r8 X.prog X.w) a hd) ⟨⟨vs,dd⟩, ?_⟩;refine⟨.ref s.heap.objs.size,_,I.laid (a:=s.heap.objs.size) (t':=s.toks) (o:= .ext λh=>h.IsItemsView s.heap.objs.size a) (λb o e=>AY _ e) (AQ _) ⟨⟨_,Ae _ rfl,rfl,rfl⟩,⟨_,Ae _ rfl⟩,λh1 h2 p k=> ?_⟩,rfl,q _ (I.hok.fresh (AQ _))⟩;obtain⟨o,ho,r⟩:=p;exact⟨o,k _ ho,r⟩
end
open L2
section
variable {X:Cx}{pins:List (AB×Obj)}{σ:L2.St}{H:Hp}{s:AC}{a:AB}{kvs:List (n4×V)}{k:n4}{v:V}{u r:AA}{A:AK}{E:AA->AC->Prop}
end
section
variable {X:Cx}{pins:List (AB×Obj)}{σ:L2.St}{A:AK}{R:Result->AC->Prop}
end
section
variable {X:Cx}
end
abbrev tv(kvs:Γ):PV:= .dict (kvs.map λkv=>(PyData.tuple (kv.1.map kP),kv.2))
def b4t(kvs:Γ):Bool:=kvs.all λkv=>kv.1.length==1
def tvw(i:Nat)(ρ:b7):Υ (Γ):=match ρ[i]? with
 |some (ξ (.v (.dict es)))=>(unE es).bind λkvs=>if b4t kvs=true then ξ kvs else ζ
 |_=>ζ
theorem a90{i:Nat}{ρ:b7}{kvs:Γ}(h:ρ[i]?=ξ (ξ (.v (tv kvs))))(ho:b4t kvs=true):tvw i ρ=ξ kvs:=by
 unfold tvw;rw [h];show(unE _).bind _=_;rw [b6a,AR,if_pos ho]
theorem b3k{K:AE}{F H:Hp}{σ:L2.St}{ρ:b7}(en:M9 K F H σ ρ){i:Nat}{kvs:Γ}(h:tvw i ρ=ξ kvs):∃a xs,σ[i]?=ξ (ξ (.ref a))/\F a=ξ (.dK xs)/\B1 K F kvs (xs.map s1):=by
 unfold tvw at h;split at h
 ·rename_i es eo;obtain⟨kvs',e1,h⟩:=bind_some h;split at h
  ·rename_i ho;cases h;obtain⟨v,hv,hr⟩:=en.at_ i _ eo;rcases hr with⟨a,ys,rfl,ha,hr⟩|⟨a,xs,rfl,ha,hr⟩|⟨x,t,e,_⟩|⟨x,m,fs,_,hr⟩
   ·ext ag
    exact⟨a,ys,hv,ha,h2⟩
   ·exfalso
    ext ag
    cases kvs with
    |nil=>cases h2
    |cons f fs=>
     obtain⟨k,p⟩:=f;obtain⟨v,t,e,_⟩:=h2;cases e;simp [b4t] at ho
   ·subst e;simp [unE] at e1
   ·cases es with
    |nil=>cases hr
    |cons f es=>obtain⟨k,p⟩:=f;obtain⟨_,_,_,_,z,_⟩:=hr;subst z;simp [unE] at e1
  ·cases h
 ·cases h
section
variable {X:Cx}
def a2S(i:Nat)(mk:M):M:=λρ=>((mk ρ).bind b0r).bind λx=>(tvw i ρ).bind λkvs=>(D6 kvs [.inr x]).map .v
theorem a8T(i:Nat){x:Str}{p pos:Pos}{ek:AF}{mk:M}(hu:X.A.units+64<cLine)(hx:PE X (.Name x p) (a0o i))(hi:EE X ek mk)(hs:c25 ek:=by intro _ _;rfl):EE X (.Subscript (.Name x p) ek pos) (a2S i mk):=
 A2 (b23 (by lia) hx hi hs) λσ H Q h0=>y6 h0 λF ρ r en e k=>by
  obtain⟨kk,e4,e⟩:=bind_some e;obtain⟨rk,e4,e5⟩:=bind_some e4;obtain⟨kvs,e3,e⟩:=bind_some e;cases hv:D6 kvs [.inr kk] with
  |none=>rw [hv] at e;cases e
  |some q=>
   rw [hv] at e;cases e;obtain⟨a,xs,hw1,ha',rl⟩:=b3k en e3;obtain⟨y,hy,ry⟩:=(rl.val (k:=[.inr kk])).1 q hv;rw [a16] at hy;refine⟨.ref a,hw1,F,ρ,rk,en,e4,λz F3 H3 o3=> ?_⟩;cases a2i e5 o3.rep;exact⟨a,y,rfl,by rw [<-hy];exact a2q.k (o3.x.h _ _ (en.fh _ _ ha')),k _ _ _ (A7.val o3.x (E7.mono o3.x.f _ ry))⟩
end
mutual
def nk:PV->Bool
 | .list ps=>nkL ps
 | .tuple ps=>nkL ps
 | .dict _=>false
 |_=>true
def nkL:List PV->Bool
 |[]=>true
 |p::ps=>nk p && nkL ps
end
def nkD:Γ->Bool
 |[]=>true
 |(_,p)::r=>nk p && nkD r
def d5.noK:d5->Bool
 | .v p=>nk p
 | .ow (.lst ps)=>nkL ps
 | .ow (.dct kvs)=>nkD kvs
 | .ow (.txt kvs)=>nkD kvs
 | .bo _=>false
section
variable {K:AE}{F:Hp}{a:AB}{xs:List (n4×V)}
mutual
theorem a9H(ha:F a=ξ (.dK xs)):∀(p:PV) {v:V},E7 K F p v->nk p=true->E7 K (drp F a) p v
 | .none,_,h,_=>h
 | .bool _,_,h,_=>h
 | .int _,_,h,_=>h
 | .str _,_,h,_=>h
 | .list ps,_,⟨b,ys,e,q,r⟩,n=>⟨b,ys,e,(by
  rcases q with(q|⟨o,q⟩)|q
  ·exact .inl (.inl (by rw [a5y (a2k q ha (λz=>nomatch z))];exact q))
  ·exact .inl (.inr ⟨o,by rw [a5y (a2k q ha (λz=>nomatch z))];exact q⟩)
  ·exact .inr q),a4O ha ps r (by simpa [nk] using n)⟩
 | .tuple ps,_,⟨b,ys,e,q,r⟩,n=>⟨b,ys,e,(by
  rcases q with q|q
  ·exact .inl (by rw [a5y (a2k q ha (λz=>nomatch z))];exact q)
  ·exact .inr q),a4O ha ps r (by simpa [nk] using n)⟩
 | .dict kvs,_,h,n=>by simp [nk] at n
theorem a4O(ha:F a=ξ (.dK xs)):∀(ps:List PV) {vs:List V},n6 K F ps vs->nkL ps=true->n6 K (drp F a) ps vs
 |[],_,h,_=>h
 |p::ps,_,⟨v,r,e,q,t⟩,n=>by
  simp only [nkL,χ] at n;exact⟨v,r,e,a9H ha p q n.1,a4O ha ps t n.2⟩
end
theorem a7o(ha:F a=ξ (.dK xs)):∀(kvs:Γ) {ys:List (List n4×V)},B1 K F kvs ys->nkD kvs=true->B1 K (drp F a) kvs ys
 |[],_,h,_=>h
 |(k,p)::r,_,⟨v,t,e,q,h⟩,n=>by
  simp only [nkD,χ] at n;exact⟨v,t,e,a9H ha p q n.1,a7o ha r h n.2⟩
theorem b8c{H:Hp}{v:V}(ha:F a=ξ (.dK xs)):∀{r:d5},R6 K F H v r->r.noK=true->R6 K (drp F a) H v r
 | .v p,h,n=>a9H ha p h n
 | .ow (.lst ps),⟨b,ys,e,f,q,r⟩,n=>⟨b,ys,e,a8P f,q,a4O ha ps r n⟩
 | .ow (.dct kvs),⟨b,ys,e,f,q,r⟩,n=>⟨b,ys,e,a8P f,q,a7o ha kvs r n⟩
 | .ow (.txt kvs),⟨b,ys,e,f,q,r⟩,n=>⟨b,ys,e,a8P f,q,a7o ha kvs r n⟩
 | .bo _,_,n=>nomatch n
end
theorem a9a{K:AE}{F2 H1 F3 H3:Hp}{a:AB}{xs:List (n4×V)}{u:V}{r:d5}(fa:F2 a=ζ)(o3:A7 K (t8 F2 a (.dK xs)) H1 F3 H3 u r)(c:r.noK=true):A7 K F2 H1 (drp F3 a) H3 u r:=by
 have up:n0 F2 (t8 F2 a (.dK xs)):=O1 fa;refine⟨⟨λb o z=> ?_,o3.x.h,λb o z=> ?_,λb o z y t=> ?_,λb w u z=> ?_⟩,b8c (o3.x.f _ _ j1) o3.rep c,o3.fr⟩
 ·have hb:b≠a:=m6 z fa;rw [a5y hb];exact o3.x.f _ _ (up _ _ z)
 ·by_cases hb:b=a
  ·subst hb;rw [a8Q] at z;cases z
  ·rw [a5y hb] at z;exact o3.x.fh _ _ z
 ·by_cases hb:b=a
  ·subst hb;exact a8Q
  ·rw [a5y hb];exact o3.x.nw b o (by rw [i6 hb];exact z) y t
 ·by_cases hb:b=a
  ·subst hb;rw [a8Q] at z;cases z
  ·rw [a5y hb] at z;have:=o3.x.nf _ _ _ z;rw [i6 hb] at this;exact this
theorem b9y{F2 H1:Hp}{a:AB}{xs:List (n4×V)}(fh:n0 F2 H1)(ha:H1 a=ξ (.dK xs)):n0 (t8 F2 a (.dK xs)) H1:=λb o z=>by
 by_cases hb:b=a
 ·subst hb;rw [j1] at z;cases z;exact ha
 ·rw [i6 hb] at z;exact fh _ _ z
theorem b1m{K:AE}{F2:Hp}{a:AB}{xs:List (n4×V)}{kvs:Γ}(fa:F2 a=ζ)(rl:B1 K F2 kvs (xs.map s1)):E7 K (t8 F2 a (.dK xs)) (tv kvs) (.ref a):=Or.inl ⟨a,xs,rfl,j1,a2v.of (O1 fa) rl⟩
def V1(g:Λ)(i:Nat)(m:M):M:=λρ=>((m ρ).bind d5.toVal).bind λp=>match ρ[i]? with
 |some (ξ (.ow (.txt kvs)))=>(g [p,tv kvs]).bind λr=>if r.noK=true then ξ r else ζ
 |_=>ζ
section
variable {X:Cx}
theorem a8S(i:Nat){k k':Nat}{pa pb:Str}{g:Λ}{x y:Str}{p py pos:Pos}{e:AF}{m:M}
 (d:p8 X.prog X.w X.K X.mg X.base x [pa,pb] k g) (hr:M5 k' X.A) (hk:k<=k') (hg:Gl X x) (ha:EE X e m) (hy:PE X (.Name y py) (a0o i))
 (hdb:Δ x:=by decide) (he:AL [e,.Name y py] X.env=(false,eval e X.env)::AL [.Name y py] X.env:=by rfl) (he2:AL [.Name y py] X.env=(false,eval (.Name y py) X.env)::AL [] X.env:=by rfl)
 (hpl:(backTo pos (AL [.Name y py] X.env)).any (·.1)=false:=by rfl):
 EE X (.Call (.Name x p) [e,.Name y py] [] pos) (V1 g i m):=by
 obtain⟨f,fd,G,h1,h2,h3⟩:=d
 refine A2 (b6Q G (hr.mono hk) hg h1 h2 h3 .nil b1t (D8 ha (D8 hy X5 he2) he) hdb he hpl) λσ H Q h0=>y6 h0 λF ρ r en hm kq=> ?_
 obtain⟨q,e1,hm⟩:=bind_some hm
 obtain⟨rq,e2,e3'⟩:=bind_some e1
 split at hm
 ·rename_i kvs eo
  obtain⟨r',e7,hm⟩:=bind_some hm
  split at hm
  ·rename_i c
   cases hm
   refine⟨F,ρ,rq,en,e2,λv F1 H1 o1=> ?_⟩
   obtain⟨F2,o2⟩:=o1.toVal e3'
   have en2:=en.ext o2.x
   obtain⟨w,hw,a,xs,rfl,fa,ha',rl⟩:=en2.at_ i _ eo
   refine⟨.ref a,hw, ?_⟩
   show spP X.K 2 g ([v,.ref a]++[]) H1 Q E0
   rw [Am]
   have up:n0 F2 (t8 F2 a (.dK xs)):=O1 fa
   exact⟨t8 F2 a (.dK xs),[q,tv kvs],_,b9y o2.x.fh ha',⟨v,[.ref a],rfl,E7.mono up _ o2.rep,.ref a,[],rfl,b1m fa rl,rfl⟩,rfl,e7,λu F5 H5 o5=>kq u (drp F5 a) H5 (A7.trans o2.x (a9a fa o5 c))⟩
  ·cases hm
 ·cases hm
end
theorem b37(g:Λ)(i:Nat)(m:M)(ρ:b7)(kvs:Γ)(h:ρ[i]?=ξ (ξ (.ow (.txt kvs)))):V1 g i m ρ=((m ρ).bind d5.toVal).bind λp=>(g [p,tv kvs]).bind λr=>if r.noK=true then ξ r else ζ:=by unfold V1;rw [h]
section
variable {prog:AJ}{w:AI}{A:AK}{E:AA->AC->Prop}{s:AC}{z TI TO i1 i2:AB}{n1 n2 i:Nat}{P1 P2:Nat->AA->Prop}{St1 St2:Nat->Heap->Prop}{a b:AA}
end
section
variable {X:Cx}
end
section
variable {prog:AJ}{w:AI}{K:Type}[DecidableEq K]{knd:KeyKind prog w K}{A:AK}{E:AA->AC->Prop}{s:AC}
end
section
variable {X:Cx}
end
theorem l8.retold{X:Cx}{pins:List (AB×Obj)}{σ:L2.St}{H H':Hp}{s:AC}(I:l8 X pins σ H s)(hn:∀b,H b=ζ->H' b=ζ)(tups:∀b xs,H b=ξ (.tup xs)->H' b=ξ (.tup xs))
 (frzs:∀b o u,X.H₀ b=ξ (.frz o u)->H' b=ξ (.frz o u)) (tbls:∀b ps,H b=ξ (.tbl ps)->H' b=ξ (.tbl ps)) (hok:HOk X.prog X.w H' s.heap):l8 X pins σ H' s:=
 ⟨I.ok,I.os,I.bare,⟨I.base.keep,I.base.slot,λb o e n hx=>hn b (I.base.free b o e n hx),I.base.there,λb xs e=>tups b xs (I.base.tups b xs e),frzs,λb ps e=>let ⟨m,q⟩:=I.base.tbls b ps e;⟨m,tbls _ _ q⟩⟩,
  I.loc,I.cell,hn _ I.free,λx c e=>hn _ (I.freeC x c e),λp hp=>let ⟨a,b,c⟩:=I.pin p hp;⟨a,hn _ b,c⟩,hok,I.len⟩
theorem l8.frzD{X:Cx}{pins:List (AB×Obj)}{σ:L2.St}{H:Hp}{s:AC}{a:AB}{xs:List (n4×V)}(I:l8 X pins σ H s)(ha:H a=ξ (.dK xs)):∃o,l8 X pins σ (t8 H a (.frz o (.dK xs))) s:=by
 have hd:=I.hok a _ ha;obtain⟨o,ho⟩:∃o,s.heap.get? a=ξ o:=by obtain⟨_,_,_,_,o,_,_,e,_⟩:=hd;exact⟨o,e⟩
 refine⟨o,l8.retold I (λb q=> ?_) (λb ys q=> ?_) (λb o' u q=> ?_) (λb ps q=> ?_) (λb u q=> ?_)⟩
 ·rw [i6 (λz=>by rw [z,ha] at q;cases q)];exact q
 ·rw [i6 (a2k q ha (λz=>nomatch z))];exact q
 ·have:=I.base.frzs b o' u q;rw [i6 (a2k this ha (λz=>nomatch z))];exact this
 ·rw [i6 (a2k q ha (λz=>nomatch z))];exact q
 ·have st:∀c w,H c=ξ w->G3 X.prog X.w (t8 H a (.frz o (.dK xs))) s.heap c w:=λc w q=>(I.hok c w q).stay (λ_ _ _ e=>e) (λd z=>by rw [i6 (a2k z ha (λz=>nomatch z))];exact z) λd ys z=>by rw [i6 (a2k z ha (λz=>nomatch z))];exact z
  by_cases hb:b=a
  ·subst hb;rw [j1] at q;cases q;exact⟨ho,st _ _ ha⟩
  ·rw [i6 hb] at q;exact st _ _ q
theorem l8.unfrz{X:Cx}{pins:List (AB×Obj)}{σ:L2.St}{H:Hp}{s:AC}{a:AB}{o:Obj}{xs:List (n4×V)}(I:l8 X pins σ H s)(ha:H a=ξ (.frz o (.dK xs)))(h0:∀o u,X.H₀ a≠ξ (.frz o u)):l8 X pins σ (t8 H a (.dK xs)) s:=by
 have st:∀c w,H c=ξ w->G3 X.prog X.w (t8 H a (.dK xs)) s.heap c w:=λc w q=>(I.hok c w q).stay (λ_ _ _ e=>e) (λd z=>by rw [i6 (a2k z ha (λz=>nomatch z))];exact z) λd ys z=>by rw [i6 (a2k z ha (λz=>nomatch z))];exact z
 refine l8.retold I (λb q=> ?_) (λb ys q=> ?_) (λb o' u q=> ?_) (λb ps q=> ?_) (λb u q=> ?_)
 ·rw [i6 (λz=>by rw [z,ha] at q;cases q)];exact q
 ·rw [i6 (a2k q ha (λz=>nomatch z))];exact q
 ·rw [i6 (λz=>by rw [z] at q;exact h0 _ _ q)];exact I.base.frzs b o' u q
 ·rw [i6 (a2k q ha (λz=>nomatch z))];exact q
 ·by_cases hb:b=a
  ·subst hb;rw [j1] at q;cases q;exact(st _ _ ha).2
  ·rw [i6 hb] at q;exact st _ _ q
def Itk(a:AB)(o:Obj)(xs:List (n4×V)):It:=⟨λi H=>H a=ξ (.frz o (.dK xs))/\i<xs.length,λi H v H'=>H'=H/\∃p,xs[i]?=ξ p/\v=kV p.1,λi H=>H a=ξ (.frz o (.dK xs))/\xs.length=i⟩
def epO(o:Obj):Nat:=match o.data with
 | .dict _ ep=>ep
 |_=>0
theorem b04{X:Cx}{pins:List (AB×Obj)}{σ:L2.St}{H:Hp}{s:AC}{a:AB}{o:Obj}{xs:List (n4×V)}(I:l8 X pins σ H s)(ha:H a=ξ (.frz o (.dK xs))):(a==sysModules)=false/\∃vs,KV xs vs/\s.heap.DictAt (r8 X.prog X.w) a vs (epO o):=by
 obtain⟨ho,z,hd,vs,rel,o2,es,ep,e,c,d,r⟩:=(show G3 X.prog X.w H s.heap a (.frz o (.dK xs)) from I.hok a _ ha);have:o2=o:=by rw [ho] at e;exact(Option.some.inj e).symm
 subst this;refine⟨hd,vs,rel,o2,es,e,c, ?_,r⟩;rw [d];unfold epO;rw [d]
theorem c4t{α β:Type}{F:α->β->Prop}:∀{l₁:List α} {l₂:List β} {i:Nat} {a:α},Paired F l₁ l₂->l₁[i]?=ξ a->∃b,l₂[i]?=ξ b/\F a b
 |_,_,_,_,.nil,h=>by simp at h
 |_,_,0,_,.cons r t,h=>by cases h;exact⟨_,rfl,r⟩
 |_,_,i+1,_,.cons r t,h=>c4t (i:=i) t h
theorem b8l{P:AJ}{w:AI}{K:AE}{tg:AF}{it a:AB}{o:Obj}{xs:List (n4×V)}:b1X P w K tg (Itk a o xs) [it] it (λi h=>h.IsKeyIter it a i xs.length (epO o)) where
 mem:=by simp
 obj:=λi h st b hb=>by
  have hb:b=it:=by simpa using hb
  subst hb
  ext j
 keep:=λi h h' st k=>st.at λo e=>k it (by simp) o e
 item:=by
  ext g
  ext aj
  have hl:vs.length=xs.length:=(Paired.length rel).symm;have hx:xs[i]?=ξ xs[i]:=by simp [hlt]
  obtain⟨q,hq,rq⟩:=c4t rel hx;rw [<-hl] at st;refine wpAny_pyNext_dict_item st dd (k:=q.1) (v:=q.2) hq λkey h' kk st' sb=>⟨key,rfl, ?_⟩;rw [hl] at st';have I1:l8 X pins σ H {s with heap:=h'}:=I.turned (t':=s.toks) (λb o hb e=>(sb.2 b hb).trans e) f0 f1 f3 f4 f5
  obtain⟨o',e',c',d'⟩:=id st';refine b3Z (s:={s with heap:=h'}) (n:="dict_keyiterator") e' c' d' (by decide) ⟨kV q.1,H,I1,b34 kk,⟨rfl,xs[i],hx,by rw [rq.1]⟩,st',λb hb=>(hf b hb).1⟩
 done:=by
   ext g
   ext aj
   have hl:vs.length=xs.length:=(Paired.length rel).symm;rw [<-hl] at st;exact wpAny_pyNext_dict_end (I.ok.hd hc) st dd (by simp;lia) λh' eb=>⟨rfl,I.turned (t':=s.toks) (λb o hb e=>eb b o hb e) f0 f1 f3 f4 f5⟩
 self:=λ_ _ _ _ _ st h=>wpAny_pyIter_keyiter st h
section
variable {X:Cx}{tg:AF}
def c55(tl:TE):TI:=λσ H R=>tl σ H λx H1=>∃a o xs,x= .ref a/\H1 a=ξ (.frz o (.dK xs))/\R (Itk a o xs) H1
theorem c4u{l:AF}{tl:TE}(hl:PE X l tl):PI X tg l (c55 tl):=by
 ext n
 obtain⟨a,o,xs,e,ha,q⟩:=q1;subst e;obtain rfl:v=Value.ref a:=r1;obtain⟨hd,vs,rel,dd⟩:=b04 I1 ha;have hl:vs.length=xs.length:=(Paired.length rel).symm;refine wpAny_pyIter_dict hd dd ⟨s1.heap.objs.size,[s1.heap.objs.size],_,_,H1,rfl,I1.kept (t':=s1.toks) λb o e=>AY _ e,b8l,⟨_,Ae _ rfl,rfl,by rw [hl];rfl⟩,λc hb=> ?_,q⟩
 have e:c=s1.heap.objs.size:=by simpa using hb
 subst e;exact I1.fpOk (AQ _) (I1.hok.fresh (AQ _))
end
set_option maxHeartbeats 3200000
section
variable {prog:AJ}{w:AI}{A:AK}{E:AA->AC->Prop}{s:AC}
end
end PU
set_option maxHeartbeats 1000000
namespace PU
open L2
section
variable {X:Cx}
end
def a65(x y:d5):Υ d5:=match x,y with
 | .v (.str z),.v (.str y)=>ξ (.v (.int (Txt.count z y)))
 |_,_=>ζ
section
variable {X:Cx}
theorem b9H:MtR X "str.count" (λx xs H Q=>∃F y rx ry rz,xs=[y]/\n0 F H/\R6 X.K F H x rx/\R6 X.K F H y ry/\a65 rx ry=ξ rz/\∀v F' H',A7 X.K F H F' H' v rz->Q v H'):=by
 intro pins s σ H x xs v us Q I rx rv h;obtain⟨F,y,ra,rb,rz,rfl,s0,h1,h2,h3,k⟩:=h
 ext s
 unfold a65 at h3;split at h3
 ·rename_i z y
  ext ah
  obtain⟨t,rfl⟩:=rx;obtain⟨t2,rfl⟩:=ru;exact call_gives PySem.F.slot_str_count (typeIs_str _ _ _) PySem.F.entry_str_count (PySem.F.args_str_count_2 _ _) (gives_str_count z y t t2) ⟨.int _,H,I.tok _,⟨_,rfl⟩,k _ F H (A7.here s0 rfl)⟩
 ·cases h3
theorem b8L{o e:AF}{m n:M}{apos cpos:Pos}(ho:EE X o m)(ha:EE X e n)
 (hbase:attributeBase o "count" X.env (eval o X.env)=eval o X.env:=by rfl)
 (hfew:((backTo cpos (AL [e] X.env)).all (λx=> !x.1)&&(backToKw cpos (keywordEach [] X.env)).all (λx=>x.1.isSome)
  && decide ([e].length+([]:List Keyword).length+(if([]:List Keyword).isEmpty then 0 else 1)<30))=true:=by rfl)
 (hline:(apos.endLine==cpos.line)=true:=by rfl) (hs:AL [e] X.env=(false,eval e X.env)::AL [] X.env:=by rfl) (hplain:(backTo cpos (AL [] X.env)).any (·.1)=false:=by rfl):
 EE X (.Call (.Attribute o "count" apos) [e] [] cpos) (m2 a65 m n):=
 A2 (b9Z PySem.F.plainAttrs_str PySem.F.slot_str_count PySem.F.type_str_count b9H ho (D8 ha X5 hs) hbase hfew hline hs hplain) λσ H Q h0=>y6 h0 λF ρ r he hm k=>by
  ext l
  unfold a65 at hm;split at hm
  ·cases o1.rep;rfl
  ·cases hm
def a7L:List PV->Υ (List Int)
 |[]=>ξ []
 | .int i::r=>(a7L r).map (i::·)
 |_=>ζ
def a19(is:List Int):Int:=is.getD (argBest (λi j=>decide (is.getD i 0>is.getD j 0)) (is.length - 1)) 0
def b9a(x:d5):Υ d5:=match x with
 | .ow (.lst ps)=>(a7L ps).bind λis=>if 0<is.length then ξ (.v (.int (a19 is))) else ζ
 |_=>ζ
theorem a5F{K:AE}{F:Hp}:∀{ps:List PV} {is:List Int} {xs:List V},a7L ps=ξ is->n6 K F ps xs->xs=is.map V.int
 |[],_,_,h,r=>by cases h;cases r;rfl
 |p::ps,is,xs,h,⟨v,vs,e,rv,rt⟩=>by
  subst e;cases p with
  |int z=>
   cases hs:a7L ps with
   |none=>simp [a7L,hs] at h
   |some is'=>
    have h:is=z::is':=by simpa [a7L,hs] using h.symm
    subst h;have e1:=a5F hs rt;cases rv;rw [e1];rfl
  |_=>simp [a7L] at h
theorem a5T:∀{is:List Int} {its:List AA},v9 (is.map V.int) its->∃xs:List (Int×Tok),xs.map (·.1)=is/\its=xs.map λp=>Value.int p.1 p.2
 |[],_,.nil=>⟨[],rfl,rfl⟩
 |i::is,_,.cons r t=>by
  obtain⟨xs,h1,h2⟩:=a5T t;obtain⟨u,rfl⟩:=r;exact⟨(i,u)::xs,by rw [AM,h1],by rw [AM,h2]⟩
theorem c0U(hc:X.calm=true):M8 X (.builtin "max") (rC1 X.K b9a):=by
 ext h
 ext s
 unfold b9a at h2;split at h2
 ·rename_i ps;obtain⟨is,e1,h2⟩:=bind_some h2;split at h2
  ·rename_i c;cases h2;obtain⟨a,ys,rfl,fa,ha,rl⟩:=h1;cases ru;have ey:=a5F e1 rl;subst ey;obtain⟨_,its,n,vv,e⟩:=(show G3 X.prog X.w H s.heap a (.lst (is.map V.int)) from I.hok a _ ha);obtain⟨zs,hz1,hz2⟩:=a5T vv;have hit:its.toArray=intItems zs.toArray:=by rw [hz2];simp [intItems]
   have hat:∀i,numAt zs.toArray i=is.getD i 0:=λi=>by
    unfold numAt;rw [<-hz1,List.getD_eq_getElem?_getD,Ak];simp
   have hlen:zs.length=is.length:=by rw [<-hz1,AT]
   refine max_intList (l:=a) (xs:=zs.toArray) (I.ok.hd hc) ⟨_,e,rfl,n,by rw [hit]⟩ (by simp;lia) λv h' tk hv hk=> ?_
   obtain⟨t,rfl⟩:=intItems_at hv;have hb:numAt zs.toArray (argBest (λi j=>decide (numAt zs.toArray i>numAt zs.toArray j)) (zs.toArray.size - 1))=a19 is:=by
    unfold a19;rw [hat,show zs.toArray.size=is.length by simp [hlen]]
    congr 2
    funext i j
    rw [hat,hat]
   rw [hb];exact⟨.int (a19 is),H,I.kept (t':=tk) hk,⟨t,rfl⟩,k _ F H (A7.here s0 rfl)⟩
  ·cases h2
 ·cases h2
end
def a7e:MS:=λ_=>ζ
theorem a3Q{X:Cx}{st:Stmt}:ES X st a7e:=L6 b99 λD σ H h0=>J4 h0 λF0 H0 F ρ fl so e fin=>by cases e
section
variable {X:Cx}
theorem A3{st:List Stmt}:ESs X st (λ_=>ζ):=λpins s σ H D I h=>by
 obtain⟨F0,H0,F,ρ,fl,so,e,fin⟩:=h;cases e
end
theorem el5{C:List AA->Prop}(h:∀a b c d e,C [a,b,c,d,e])(us:List AA)(e:us.length=5):C us:=by
 obtain⟨a,t,rfl,z⟩:=elS e;exact el4 (C:=λt=>C (a::t)) (h a) t z
end PU
set_option maxHeartbeats 2000000
namespace PU
open L2 PySem.W
section
variable {prog:AJ}{w:AI}{A:AK}{E:AA->AC->Prop}{s:AC}
end
section
variable {X:Cx}
def a8m(i:Nat)(mk md:M):M:=λρ=>((mk ρ).bind b0r).bind λx=>((md ρ).bind d5.toVal).bind λd=>(tvw i ρ).bind λkvs=>ξ (.v ((D6 kvs [.inr x]).getD d))
theorem b7x(i:Nat){x:Str}{p apos cpos:Pos}{ek f:AF}{mk:M}{md:M}(hu:X.A.units+64<cLine)(hx:PE X (.Name x p) (a0o i))(hi:EE X ek mk)(hf:EE X f md)
 (m:M2 X (.Name x p) "get" apos ek f cpos:=by exact⟨rfl,rfl,rfl,rfl⟩):EE X (.Call (.Attribute (.Name x p) "get" apos) [ek,f] [] cpos) (a8m i mk md):=
 A2 (b4v (by lia) hx hi hf m) λσ H Q h0=>y6 h0 λF ρ r en e k=>by
  obtain⟨kk,e4,e⟩:=bind_some e;obtain⟨rk,e4,e5⟩:=bind_some e4;obtain⟨d,e6,e⟩:=bind_some e;obtain⟨rd,e6,e7⟩:=bind_some e6;obtain⟨kvs,e3,e⟩:=bind_some e;cases e;obtain⟨a,xs,hw1,ha',rl⟩:=b3k en e3;have hH:=en.fh _ _ ha';refine⟨.ref a,hw1,a,rfl,.inl ⟨xs,.inl hH⟩,F,ρ,rk,en,e4,λy F3 H3 o3=> ?_⟩;cases a2i e5 o3.rep;refine⟨_,ρ,rd,en.ext o3.x,e6,λz F4 H4 o4=> ?_⟩;obtain⟨F5,o5⟩:=o4.toVal e7;have x5:=o3.x.trans o5.x;refine⟨_,a2q.k (k:= .inr kk) (o5.x.h _ _ (o3.x.h _ _ hH)),k _ _ _ (A7.val x5 ?_)⟩;cases hv:D6 kvs [.inr kk] with
  |none=>
   have:=(rl.val (k:=[.inr kk])).2 hv;rw [a16] at this;rw [this];exact o5.rep
  |some q=>
   obtain⟨y,hy,ry⟩:=(rl.val (k:=[.inr kk])).1 q hv;rw [a16] at hy;rw [hy];exact E7.mono x5.f _ ry
end
section
variable {P:AJ}{w:AI}{K:AE}{mg:Str->Υ AA}{base:Heap}
end
theorem c5Y{l:PySem.W.OpenLaw}{q:AJ}{loose:List Str}{XP:(Str->Υ AA)->Heap->Prop}{YP:AI->Heap->Prop}{d:DefRec}{K:Params->AE}{x:Str}{k:Nat}(hk:k<=200)(hn:l.most=ξ 63)(hdf:d.params.defaults=[])
 (hY:∀(w:AI) (h:Heap),YP w h->(K w.params).In h)
 (F:∀(w:AI) (mg:Str->Υ AA) (fa:AB) (h:Heap),(K w.params).In h->h.Ns mainGlobals mg->mg d.name=ξ (.ref fa)->
  ∃fd:FuncData,(∀(s:AC) (u:AA),BindsTo s fd ⟨[u],[]⟩ [(x,u)])/\∀base:Heap,(K w.params).In base->base.Ns mainGlobals mg->S9 l.prog w (K w.params) mg base CX0 k fa fd [x] (b4M (K w.params))):
 PySem.W.WalkO q loose XP YP l.row.toRowW d [] (λf vs=>PySem.call f vs):=
 L2.c2z (n:=63) (k:=200) (x:=x) (CX:=λ_=>CX0) (sp:=λw=>b4M (K w.params)) hn (by decide) hdf ⟨rfl,by decide,by decide⟩ hY (λw mg fa h a b c=>let ⟨fd,h1,h2⟩:=F w mg fa h a b c;⟨fd,h1,λbase x y=>(h2 base x y).mono hk⟩) (λ_ _ a ns hl _ hS=>⟨a,ns,rfl,hS,hl,λ_=>rfl⟩) λ_ _ _ _ _ z=>z
theorem c5g{K:AE}{x:Str}{C:AB}(e:PySem.W.nsIn K mainGlobals x=ξ (ξ (.ref C)))(q:b5L K C x=true)(o1:PySem.W.plainGet K C Str.empty=true)(o2:PySem.W.hasDictIn K C=true)(o3:PySem.W.plainOver K C=true)
 (o4:PySem.W.findIn K (.ref C) "__setattr__"=ξ (ξ (.builtin "object.__setattr__"))):KC K x C:=by
 refine⟨⟨e, ?_⟩,o1,o2,o3,o4⟩
 unfold b5L at q
 split at q
 ·rename_i oc od cd sl hk
  exact⟨oc,od,cd,sl,hk,beq_iff_eq.mp q⟩
 ·cases q
open L2
end PU
set_option maxHeartbeats 1000000
namespace ZL
open L2 PU ZT
section
variable {X:Cx}
end
end ZL
namespace PU
open L2
section
variable {X:Cx}
end
def a2f(x:d5):Υ d5:=match x with
 | .v (.tuple ps)=>(a7L ps).bind λis=>if 0<is.length then ξ (.v (.int (a19 is))) else ζ
 |x=>b9a x
theorem c1z{prog:AJ}{w:AI}{A:AK}{E:AA->AC->Prop}{s:AC}{t:AB}{xs:Array (Int×Tok)}{Q:AA->AC->Prop}(hh:A.handled=ζ)(ht:s.heap.IsTuple t (intItems xs))(hn:0<xs.size)
 (h:∀v h' tk,(intItems xs)[argBest (λi j=>decide (numAt xs i>numAt xs j)) (xs.size - 1)]?=ξ v->(∀b o,s.heap.get? b=ξ o->h'.get? b=ξ o)->Q v {s with heap:=h',toks:=tk}):
 AH (model prog w) A (call (.builtin "max") [.ref t]) Q E s:=by
 obtain⟨o,ho,_⟩:=id ht
 have ne:t≠s.heap.objs.size:=Ac (Aa ho)
 have hz:(intItems xs).size=xs.size:=by simp [intItems]
 refine call_max_walk (wpAny_pyIter_tuple ht ⟨s.heap.objs.size,_,_,_,_,_,_,rfl,Walks.tuple (A:=A.in1) hh s.heap.objs.size t ne (intItems xs),⟨⟨_,Ae _ rfl,rfl,rfl⟩,ht.at λo e=>AY _ e⟩,λb hb=> ?_,by rw [hz];exact hn,CmpOf.ints_gt (numAt xs) (λ_ _=>intItems_at),λv h' tk hP hk=> ?_⟩)
 ·rcases AX.mp hb with rfl|hb
  ·exact Aa (Ae _ rfl)
  ·rw [List.mem_singleton.mp hb];exact Aa (AY _ ho)
 ·exact h v h' tk (by rw [hz] at hP;exact hP) λb o e=>hk b o (λhb=>absurd (Aa e) (List.mem_singleton.mp hb▸Nat.lt_irrefl _)) (AY _ e)
section
variable {X:Cx}
theorem a8h(hc:X.calm=true):M8 X (.builtin "max") (rC1 X.K a2f):=by
 ext h
 unfold a2f at h2;split at h2
 ·rename_i ps
  ext s
  obtain⟨is,e1,h2⟩:=bind_some h2;split at h2
  ·rename_i c;cases h2;obtain⟨a,ys,rfl,hq,rl⟩:=(show E7 X.K F (.tuple ps) x from h1);cases ru;have ey:=a5F e1 rl;subst ey;obtain⟨its,rvs,pt,_⟩:=I.tuple (B3 s0 hq.sq);obtain⟨zs,hz1,hz2⟩:=a5T rvs;have hit:its.toArray=intItems zs.toArray:=by rw [hz2];simp [intItems]
   have hat:∀i,numAt zs.toArray i=is.getD i 0:=λi=>by
    unfold numAt;rw [<-hz1,List.getD_eq_getElem?_getD,Ak];simp
   have hlen:zs.length=is.length:=by rw [<-hz1,AT]
   rw [hit] at pt;refine c1z (t:=a) (xs:=zs.toArray) (I.ok.hd hc) pt (by simp;lia) λv h' tk hv hk=> ?_
   obtain⟨t,rfl⟩:=intItems_at hv;have hb:numAt zs.toArray (argBest (λi j=>decide (numAt zs.toArray i>numAt zs.toArray j)) (zs.toArray.size - 1))=a19 is:=by
    unfold a19;rw [hat,show zs.toArray.size=is.length by simp [hlen]]
    congr 2
    funext i j
    rw [hat,hat]
   rw [hb];exact⟨.int (a19 is),H,I.kept (t':=tk) hk,⟨t,rfl⟩,k _ F H (A7.here s0 rfl)⟩
  ·cases h2
 ·exact c0U hc pins s σ H _ us Q I rv ⟨F,x,_,rz,rfl,s0,h1,h2,k⟩
end
def ckC(K:AE)(C:AB)(x:Str)(f:AB)(fs:List Str):Bool:=b5L K C x &&(PySem.W.plainGet K C Str.empty &&(PySem.W.hasDictIn K C &&(PySem.W.plainOver K C &&(PySem.W.findIn K (.ref C) "__setattr__"==ξ (ξ (.builtin "object.__setattr__"))
 &&(PySem.W.makesIn K C &&(PySem.W.isFn K (.ref f)&&(PySem.W.keepIn K (.ref C)&&(PySem.W.findIn K (.ref C) "__class__"==ξ (ξ (.builtin "object.__class__"))&&(PySem.W.mroIn K C (.type "object")==ξ true
 && fs.all λg=>PySem.W.findIn K (.ref C) g==ξ ζ)))))))))
section
variable {K:AE}{C f:AB}{x:Str}{fs:List Str}
structure CkC(K:AE)(C:AB)(x:Str)(f:AB)(fs:List Str):Prop where
 kc:KC K x C
 mo:Mk K C f
 h8:PySem.W.findIn K (.ref C) "__class__"=ξ (ξ (.builtin "object.__class__"))
 h9:PySem.W.mroIn K C (.type "object")=ξ true
 na:∀g∈fs,a0q K C g
theorem a7F(e:PySem.W.nsIn K mainGlobals x=ξ (ξ (.ref C)))(i:PySem.W.findIn K (.ref C) "__init__"=ξ (ξ (.ref f)))(h:ckC K C x f fs=true):CkC K C x f fs:=by
 unfold ckC at h;simp only [χ,beq_iff_eq,List.all_eq_true] at h;obtain⟨h0,h1,h2,h3,h4,h5,h6,h7,h8,h9,h10⟩:=h;exact⟨c5g e h0 h1 h2 h3 h4,⟨h5,i,h6,h7⟩,h8,h9,h10⟩
end
section
variable {X:Cx}
theorem k6{a b:AF}{ma mb:M}{pos:Pos}{op:CmpOp}{g:d5->d5->Υ d5}(ho:OpM X (compareOp op) g)(ha:EE X a ma)(hb:EE X b mb)(hm:behindInMarks op b=false:=by first|rfl|exact nomark _):ET X (.Compare a [op] [b] pos) (u5 (m2 g ma mb)):=c3r ho ha hb hm
theorem b8K{a b:AF}{ma mb:M}{pos:Pos}{op:CmpOp}{g:d5->d5->Υ d5}(ho:OpM X (compareOp op) g)(ha:EE X a ma)(hb:EE X b mb)(hm:behindInMarks op b=false:=by first|rfl|exact nomark _):EE X (.Compare a [op] [b] pos) (m2 g ma mb):=c3m ho ha hb hm
theorem d6(i:Nat){x:Str}{pos:Pos}(hN:X.N[i]?=ξ x:=by rfl)(hv:Vis X.env.scope x:=by first|exact Or.inl rfl|exact Or.inr (Or.inl rfl)|exact Or.inr (Or.inr rfl))(hd:Δ x:=by decide)(hcd:(x==("__classdict__":Str))=false:=by decide):EE X (.Name x pos) (a6 i):=c3p i (pv i hN hv hd hcd)
end
structure FnV(K:AE)(mg:Str->Υ AA)(x:Str)(f:AB):Prop where
 mg:mg x=ξ (.ref f)
 at_:b6b K x (.ref f)
 one:∀a,b6b K x (.ref a)->a=f
def a9z(K:AE)(x:Str)(f:AB):Bool:=K.all λp=>match p.2.data with
 | .func fd=> !(fd.name==x)||p.1==f
 |_=>true
theorem Q5{K:AE}{a:AB}{o:Obj}:K.lookup a=ξ o->(a,o)∈K:=by
 induction K with
 |nil=>intro h;cases h
 |cons p r ih=>
  intro h;obtain⟨b,u⟩:=p;rw [List.lookup_cons] at h;split at h
  ·rename_i z;cases h;rw [beq_iff_eq.mp z];exact AU
  ·exact Ab _ (ih h)
theorem b2j{K:AE}{mg:Str->Υ AA}{x:Str}{f:AB}{oc:AA}{od:Υ AB}{fd:FuncData}{sl:Array (Υ AA)}(hm:mg x=ξ (.ref f))(l:K.lookup f=ξ ⟨oc,od,.func fd,sl⟩)(hn:fd.name=x)(q:a9z K x f=true):FnV K mg x f:=by
 refine⟨hm,⟨f,oc,od,fd,sl,rfl,l,hn⟩,λa h=> ?_⟩;obtain⟨b,oc',od',fd',sl',e,l',hn'⟩:=h;cases e;have:=List.all_eq_true.mp q _ (Q5 l');simp only [hn',beq_self_eq_true,Bool.not_true,Bool.false_or] at this;exact beq_iff_eq.mp this
abbrev a2d(x:Str):PV:= .dict [(.str x,.none)]
section
variable {X:Cx}
theorem b6n{x:Str}{f:AB}{pos:Pos}(v:FnV X.K X.mg x f)(hg:Gl X x:=by rfl)(hd:Δ x:=by decide):EE X (.Name x pos) (mC (a2d x)):=
 a2a (v:= .ref f) (b6R hg v.mg rfl hd) λH=>Or.inr (Or.inr (Or.inl ⟨x,_,rfl,.inl ⟨rfl,v.at_⟩⟩))
def b6c(X:Cx)(n k':Nat)(tab:List (Str×(Λ))):Prop:=∀x g,tab.lookup x=ξ g->∃f fd ps k,S9 X.prog X.w X.K X.mg X.base CX0 k f fd ps (spP X.K ps.length g)/\k<=k'/\PySem.W.keepIn X.K (.ref f)=true/\a0L X.K fd ps []/\ps.length=n/\∀a,b6b X.K x (.ref a)->a=f
theorem b08{n k':Nat}:b6c X n k' []:=λ_ _ h=>nomatch h
theorem a2G{n k k':Nat}{x:Str}{f:AB}{ps:List Str}{g:Λ}{t:List (Str×(Λ))}(d:p8 X.prog X.w X.K X.mg X.base x ps k g)(v:FnV X.K X.mg x f)(hk:k<=k')(hn:ps.length=n)(h:b6c X n k' t):b6c X n k' ((x,g)::t):=λy g' q=>by
 rw [List.lookup_cons] at q;split at q
 ·rename_i z;cases q;obtain⟨f',fd,G,h1,h2,h3⟩:=d;have e:=v.mg.symm.trans h1;cases e;refine⟨f,fd,ps,k,G,hk,h2,h3,hn, ?_⟩;rw [beq_iff_eq.mp z];exact v.one
 ·exact h y g' q
def a38(tab:List (Str×(Λ)))(i:Nat)(m:MA):M:=λρ=>match ρ[i]? with
 |some (ξ (.v (.dict [(.str x,.none)])))=>(tab.lookup x).bind λg=>(m ρ).bind g
 |_=>ζ
theorem b3O(i:Nat){n k':Nat}{y:Str}{p pos:Pos}{tab:List (Str×(Λ))}{e:AF}{es:List AF}{m:MA}(T:b6c X n k' tab)(hr:M5 k' X.A)(hv:PE X (.Name y p) (a0o i))(hn:∀ρ qs,m ρ=ξ qs->qs.length=n)(ha:EA X (e::es) m)
 (he:Ψ e es X.env:=by rfl) (hpl:Φ₁ pos es X.env:=by rfl):
 EE X (.Call (.Name y p) (e::es) [] pos) (a38 tab i m):=by
 intro pins s σ H Q I ⟨F,ρ,r,env,hm,k⟩
 unfold a38 at hm
 split at hm
 ·rename_i x hρ
  cases hl:tab.lookup x with
  |none=>rw [hl] at hm;cases hm
  |some g=>
   rw [hl,AR] at hm
   obtain⟨f,fd,ps,kk,G,hk,h2,h3,h4,one⟩:=T x g hl
   obtain⟨v,hσ,hrep⟩:=env.at_ i _ hρ
   have hvf:v= .ref f:=by
    rcases hrep with⟨_,_,_,_,kk1,w1,t1,_,zz,_⟩|⟨_,_,_,_,kk1,w1,t1,_,zz,_⟩|⟨z,t,e,hz⟩|⟨_,_,_,ho,hf⟩
    ·cases zz
    ·cases zz
    ·cases e;rcases hz with⟨_,hz⟩|⟨e,_⟩
     ·obtain⟨a,_,_,_,_,ea,_⟩:=id hz;subst ea;rw [one a hz]
     ·cases e
    ·rcases(c1F ho hf).2.1 with e|e<;>cases e
   subst hvf
   refine wpAny_Call_Name_kw (K6 (hv pins s σ H (λv H1=>v= .ref f/\H1=H) I ⟨.ref f,hσ,rfl,rfl⟩) λu s1 h0=>a6h h0 λv H1 I1 rv hv1 hH=> ?_)
   subst hv1 hH
   cases(show u=Value.ref f from rv)
   obtain⟨qs,e1,e2⟩:=bind_some hm
   refine PySem.W.callWith_K (h₀:=X.base) I1.ok.mod.kin h2 (K6 (ha pos pins s1 σ H1 (λvs H2=>∃F2,Ext F H1 F2 H2/\n6 X.K F2 qs vs) I1 ⟨F,ρ,qs,env,e1,λvs F2 H2 x rl=>⟨F2,x,rl⟩⟩) λus s2 ⟨vs,H2,I2,rr,F2,x2,rl⟩=>⟨I2.kIn, ?_⟩) he hpl
   refine b3c (dvs:=[]) (ds:=[]) (sp:=spP X.K ps.length g) (E:=E0) G (hr.mono hk) h3 .nil b1t I2 rr ?_
   show spP X.K ps.length g (vs++[]) H2 Q E0
   rw [Am]
   exact⟨F2,qs,r,x2.fh,rl,(hn _ _ e1).trans h4.symm,e2,λv F3 H3 o=>k v F3 H3 (A7.trans x2 o)⟩
 ·cases hm
end
def a1X:List PV->Υ (List Int)
 |[]=>ξ []
 | .int i::ps=>(a1X ps).map (i::·)
 |_::_=>ζ
theorem b31{K:AE}{H:Hp}:∀{ps:List PV} {xs:List V} {its:List AA} {ns:List Int},n6 K H ps xs->v9 xs its->a1X ps=ξ ns->IntsAre its ns
 |[],_,_,_,h,r,e=>by
  cases h;cases e;cases r;exact .nil
 |p::ps,_,_,ns,⟨v,t,e0,a,rl⟩,r,e=>by
  subst e0;cases p with
  |int i=>
   cases h:a1X ps with
   |none=>rw [a1X,h] at e;cases e
   |some ms=>
    rw [a1X,h] at e;cases e;cases r with
    |cons r1 r2=>
     cases a;obtain⟨t,rfl⟩:=r1;exact .cons _ _ (b31 rl r2 h)
  |_=>cases e
def b9d(x:d5):Υ d5:=match x.rd with
 | .list ps=>(a1X ps).map λns=> .v (.int ns.sum)
 |_=>ζ
section
variable {X:Cx}
theorem b8G(hc:X.calm=true):M8 X (.builtin "sum") (rC1 X.K b9d):=by
 ext h
 ext s
 unfold b9d at h2;split at h2
 ·rename_i ps ep;cases e:a1X ps with
  |none=>rw [e] at h2;cases h2
  |some ns=>
   rw [e] at h2;cases h2;have rr:=h1.rd s0;rw [ep] at rr;obtain⟨a,ys,rfl,hq,rl⟩:=rr;cases ru;obtain⟨its,r,pl,_⟩:=I.list hq;have hi:=b31 rl r e;obtain⟨zs,hx⟩:=hi.allInts.items;have hl:s.heap.IsList a (intItems zs):=hx▸pl.isList;refine sum_intListG (I.ok.hd hc) hl λh' tk t' hk=> ?_;have e1:ns=zs.toList.map (·.1):=by
    have z:=nums_intItems zs;rw [<-hx] at z;rw [<-z];exact hi.numsOf.symm
   have e2:preSum (numAt zs) zs.size=ns.sum:=by
    have z:=preSum_eq zs zs.size;have y:(zs.toList.map (·.1)).take zs.size=zs.toList.map (·.1):=List.take_of_length_le (by simp)
    rw [z,y,<-e1]
   rw [e2];exact⟨.int _,H,I.kept (t':=tk) hk,⟨_,rfl⟩,k _ F H (A7.here s0 rfl)⟩
 ·cases h2
end
section
variable {X:Cx}
variable {Φ:L2.St->Hp->Prop}{I:List Nat}
end
theorem c4h{K:AE}{F H:Hp}{v:V}:∀{c:a0e},W0 K F H v c->∃a o,v= .ref a/\F a=ζ/\H a=ξ o/\NT o
 | .lst _,⟨a,_,e,n,q,_⟩=>⟨a,_,e,n,q,λ_ h=>nomatch h⟩
 | .dct _,⟨a,_,e,n,q,_⟩=>⟨a,_,e,n,q,λ_ h=>nomatch h⟩
 | .txt _,⟨a,_,e,n,q,_⟩=>⟨a,_,e,n,q,λ_ h=>nomatch h⟩
theorem c17{K:AE}{F H F' H':Hp}{a:AB}:∀{c:a0e},W0 K F H (.ref a) c->n0 F F'->F' a=ζ->(∀o,H a=ξ o->H' a=ξ o)->W0 K F' H' (.ref a) c
 | .lst _,⟨a',xs,e,n,q,r⟩,s,f,h=>by cases e;exact⟨_,xs,rfl,f,h _ q,n6.mono s _ r⟩
 | .dct _,⟨a',xs,e,n,q,r⟩,s,f,h=>by cases e;exact⟨_,xs,rfl,f,h _ q,B1.mono s _ r⟩
 | .txt _,⟨a',xs,e,n,q,r⟩,s,f,h=>by cases e;exact⟨_,xs,rfl,f,h _ q,B1.mono s _ r⟩
theorem b51{ρ:b7}{i j:Nat}{r:Υ d5}{q:d5}(h:(ρ.set i r)[j]?=ξ (ξ q)):(j=i/\r=ξ q)\/(j≠i/\ρ[j]?=ξ (ξ q)):=by
 rw [List.getElem?_set] at h;split at h
 ·rename_i z;split at h
  ·exact .inl ⟨z.symm,Option.some.inj h⟩
  ·cases h
 ·rename_i z;exact .inr ⟨λy=>z y.symm,h⟩
theorem a8Y{σ:L2.St}{i j:Nat}{v:Υ V}(h:j≠i):(σ.set i v)[j]?=σ[j]?:=List.getElem?_set_ne (λz=>h z.symm)
section
variable {X:Cx}
end
section
open PySem.AutoSeq1 (wpAny_loadPart')
open PySem.MeetsSeq3 (plain_eq_loop entry_eq_loop)
variable {A:AK}{s:AC}
end
open L2 PySem.W
section
variable {X:Cx}{pins:List (AB×Obj)}{σ:L2.St}{H:Hp}{s:AC}
end
section
variable {X:Cx}
end
theorem c29{α:Type}(x:α)(xs:List α):L2.atI (x::xs) 0=ξ x:=by
 unfold L2.atI L2.ixN;rw [if_pos (by lia)]
 simp
section
variable {K:AE}{H J J':Hp}{ah a0 a3 b1 b2 b3 c:AB}{z0 z3 y1 y2 y3:List V}{n:Nat}
end
section
variable {X:Cx}
end
section
variable {X:Cx}{tg:AF}
end
section
variable {X:Cx}
end
section
variable {prog:AJ}{w:AI}{A:AK}{E:AA->AC->Prop}{h:Heap}{g:Array GenState}{d:Drawn}{t:Nat}{os:OsState}
variable {nm q:Str}{C N:AB}{bs bm bmB:List AA}{hdct:Bool}{sn:List Str}{sub:List AA}{ab:Bool}{col:Υ Bool}{dd:Υ AB}{k0 k1 k2 k3 k5:Υ AA}{B newId initId:String}
end
section
variable {prog:AJ}{w:AI}{A:AK}{E:AA->AC->Prop}{s:AC}{env:Env}
variable {nm q:Str}{C N:AB}{bs bm bmB:List AA}{hdct:Bool}{sn:List Str}{sub:List AA}{ab:Bool}{col:Υ Bool}{dd:Υ AB}{k0 k1 k2 k3 k5:Υ AA}{B newId initId:String}
end
open L2 PySem.W Builtin Builtin.ObjectAttr
section
variable {prog:AJ}{w:AI}{A:AK}{E:AA->AC->Prop}{s:AC}{K:Frag}{x C:AB}
end
section
variable {X:Cx}{pins:List (AB×Obj)}{σ:L2.St}{H:Hp}{s:AC}{a C d:AB}
end
section
variable {X:Cx}
end
section
variable {X:Cx}{pins:List (AB×Obj)}{σ:L2.St}{H:Hp}{s:AC}
end
section
variable {X:Cx}{x:Str}{C:AB}{np cpos pos:Pos}{e₀:AF}{rest:List AF}{t:TA}{W:Υ AB->Hp->Prop}
end
section
variable {X:Cx}
end
section
variable {P:AJ}{w:AI}{K:Frag}{mg:Str->Υ AA}{base:Heap}
end
section
variable {K:AE}{mg:Str->Υ AA}{E:L2.St->XK}{F0 H0 F1:Hp}{body:MX}{tg:PV->b7->Υ b7}{g:TG}{ps:List PV}{fl:FX}{D:a1o}{k:Nat}{p:PV}{x:V}{σ σ0:L2.St}{H:Hp}
end
section
variable {X:Cx}{E:L2.St->XK}
end
section
variable {X:Cx}
end
def tvr(r:d5):Υ (Γ):=match r with
 | .v (.dict es)=>(unE es).bind λkvs=>if b4t kvs=true then ξ kvs else ζ
 | .ow (.txt kvs)=>ξ kvs
 | .bo (.txt kvs)=>ξ kvs
 |_=>ζ
def k1(k:List n4):PV:=match k with
 |[x]=>kP x
 |_=> .none
theorem a9Z{kvs:Γ}(ho:b4t kvs=true):tvr (.v (tv kvs))=ξ kvs:=by
 show(unE _).bind _=_;rw [b6a,AR,if_pos ho]
section
variable {K:AE}{F H:Hp}
theorem a5S{v:V}{r:d5}{kvs:Γ}(s:n0 F H)(hr:R6 K F H v r)(h:tvr r=ξ kvs):∃a xs,v= .ref a/\H a=ξ (.dK xs)/\B1 K F kvs (xs.map s1):=by
 unfold tvr at h;split at h
 ·rename_i es;obtain⟨kvs',e1,h⟩:=bind_some h;split at h
  ·rename_i ho;cases h;rcases hr with⟨a,ys,rfl,ha,hr⟩|⟨a,xs,rfl,ha,hr⟩|⟨x,t,e,_⟩|⟨x,m,fs,_,hr⟩
   ·ext ag
    exact⟨a,ys,rfl,s _ _ ha,h2⟩
   ·exfalso
    ext ag
    cases kvs with
    |nil=>cases h2
    |cons f fs=>
     obtain⟨k,p⟩:=f;obtain⟨v,t,e,_⟩:=h2;cases e;simp [b4t] at ho
   ·subst e;simp [unE] at e1
   ·cases es with
    |nil=>cases hr
    |cons f es=>obtain⟨k,p⟩:=f;obtain⟨_,_,_,_,z,_⟩:=hr;subst z;simp [unE] at e1
  ·cases h
 ·cases h;obtain⟨a,xs,rfl,_,ha,rl⟩:=hr;exact⟨a,xs,rfl,ha,rl⟩
 ·cases h;obtain⟨a,xs,rfl,_,ha,rl⟩:=hr;exact⟨a,xs,rfl,ha,rl⟩
 ·cases h
theorem b4E:∀{kvs:Γ} {xs:List (n4×V)},B1 K F kvs (xs.map s1)->n6 K F (kvs.map λkv=>k1 kv.1) (xs.map λx=>kV x.1)
 |[],[],_=>rfl
 |[],_::_,r=>by cases r
 |_::_,[],⟨_,_,e,_⟩=>by cases e
 |(k,q)::es,y::ys,⟨v,t,e,rv,rt⟩=>by
  injection e with e1 e2
  subst e2;have ek:k=[y.1]:=(congrArg Prod.fst e1).symm;subst ek;refine⟨_,_,rfl, ?_,b4E rt⟩;show E7 K F (kP y.1) (kV y.1);cases y.1<;>rfl
end
theorem b7R{k:n4}{v:AA}(h:a32 k v=true):L2.u0 (kV k) v:=by
 unfold a32 at h;cases k with
 |inl i=>
  cases v<;>first|cases h|skip
  rename_i j t;have:j=i:=beq_iff_eq.mp h;subst this;exact⟨t,rfl⟩
 |inr x=>
  cases v<;>first|cases h|skip
  rename_i y t;have:y=x:=beq_iff_eq.mp h;subst this;exact⟨t,rfl⟩
def a2I(r:d5):Υ d5:=(tvr r).bind λkvs=>if kvs.length<=AO then ξ (.own (kvs.map λkv=>k1 kv.1)) else ζ
def a3S(r:d5):Υ d5:=(tvr r).bind λkvs=>if kvs.length<=AO then ξ (.ow (.txt kvs)) else ζ
section
variable {X:Cx}
theorem b6G:∀{ys:List (n4×V)} {vs:List (n4×AA)} {us:List AA},KV ys vs->us.length=vs.length->(∀(j:Nat) (v:AA),us[j]?=ξ v->∃k x,vs[j]?=ξ (k,x)/\a32 k v=true)->v9 (ys.map λy=>kV y.1) us
 |_,_,[],.nil,_,_=> .nil
 |_,_,_::_,.nil,e,_=>nomatch e
 |_,_,[],.cons _ _,e,_=>nomatch e
 |_,_,u::us,.cons (a:=y) (b:=z) r t,e,h=>by
  refine .cons ?_ (b6G t (by simpa using e) λj v q=>h (j+1) v q)
  obtain⟨k,x,e1,e2⟩:=h 0 u rfl;have e1:ξ z=ξ (k,x):=e1;cases e1;show L2.u0 (kV y.1) u;rw [show y.1=k from r.1];exact b7R e2
theorem b3H(hc:X.calm=true):M8 X (.type "list") (rC1 X.K a2I):=by
 ext h
 ext s
 unfold a2I at h2;obtain⟨kvs,e1,h2⟩:=bind_some h2;split at h2
 ·rename_i hl;cases h2;obtain⟨a,ys,rfl,ha,rl⟩:=a5S s0 h1 e1;cases ru;obtain⟨z,hd,vals,rel,dd⟩:=a6c I.hok ha;obtain⟨ep,hat⟩:=dd.dictAt;have hz:ys.length<=AO:=by have:=rl.length;rw [AT] at this;lia
  refine kdl_call (kdl_dict (d:=a) (kvs:=vals) (ep:=ep) (knd:=r8 X.prog X.w) hd) (I.ok.hd hc) hat (by rw [<-Paired.length rel];exact hz) λh' tk acc' c' kp hS hacc=> ?_
  have hw:v9 (ys.map λy=>kV y.1) acc'.toList:=b6G rel (by rw [Array.length_toList];exact hacc.1) λj v e=>hacc.2 j v (by rw [<-Array.getElem?_toList];exact e)
  exact⟨.ref s.heap.objs.size,_,I.laid (t':=tk) (o:= .lst (ys.map λy=>kV y.1)) kp (AQ _) ⟨by rw [AT];exact hz,acc'.toList,c',hw,by rw [hS]⟩,rfl,k _ F _ (A7.lst s0 (I.hok.fresh (AQ _)) (b4E rl))⟩
 ·cases h2
theorem b3F:M8 X (.type "dict") (rC1 X.K a3S):=by
 ext h
 ext s
 unfold a3S at h2;obtain⟨kvs,e1,h2⟩:=bind_some h2;split at h2
 ·rename_i hl;cases h2;obtain⟨a,ys,rfl,ha,rl⟩:=a5S s0 h1 e1;cases ru;obtain⟨z,hd,vals,rel,dd⟩:=a6c I.hok ha;have hn:=I.hok.fresh (AQ s.heap.objs.size);refine kt_call_dict hd dd (by rw [<-Paired.length rel];exact z) λh' dd' hs=> ?_
  refine⟨.ref s.heap.objs.size,_,I.laid (a:=s.heap.objs.size) (t':=s.toks) (o:= .dK ys) (λb o e=>(hs.2 b (Ac (Aa e))).trans (AY _ e)) (AQ _) ⟨z, ?_,vals,rel,dd'⟩,rfl,k _ F _ ⟨Ext.layH s0 hn,⟨_,_,rfl,s0.free hn,j1,rl⟩,λ_ _ _ e=>by cases e;exact hn⟩⟩
  exact(b3L (P:=X.prog) (w:=X.w) (H:=H) s.heap I.big).2.1
 ·cases h2
def b39(neg:Bool)(i:Nat)(mk:M):M:=λρ=>((mk ρ).bind b0r).bind λx=>(tvw i ρ).bind λkvs=>ξ (.v (.bool (if neg then !(D6 kvs [.inr x]).isSome else(D6 kvs [.inr x]).isSome)))
theorem c0F{i:Nat}{mk:M}{neg:Bool}{σ:L2.St}{H:Hp}{Q:VK}(h:tM X.K (b39 neg i mk) σ H Q):
 tM X.K mk σ H λy H1=>a0o i σ H1 λx H2=>∃a o,x= .ref a/\a2q H2 a y o/\Q (.bl (if neg then !o.isSome else o.isSome)) H2:=by
 obtain⟨F,ρ,r,en,e,k⟩:=h
 obtain⟨kk,e4,e⟩:=bind_some e
 obtain⟨rk,e4,e5⟩:=bind_some e4
 obtain⟨kvs,e3,e⟩:=bind_some e
 cases e
 refine⟨F,ρ,rk,en,e4,λy F3 H3 o3=> ?_⟩
 cases a2i e5 o3.rep
 obtain⟨a,xs,hw1,ha',rl⟩:=b3k en e3
 refine⟨.ref a,hw1,a,a1r xs (.inr kk),rfl,a2q.k (o3.x.h _ _ (en.fh _ _ ha')), ?_⟩
 have:=rl.isSome (k:=[.inr kk])
 rw [a16] at this
 rw [this]
 exact k _ _ _ (A7.val o3.x rfl)
theorem b5n(i:Nat){x:Str}{p pos:Pos}{ek:AF}{mk:M}(hu:X.A.units+64<cLine)(hx:PE X (.Name x p) (a0o i))(hi:EE X ek mk)(hm:behindInMarks .NotIn (.Name x p)=false):ET X (.Compare ek [.NotIn] [.Name x p] pos) (u5 (b39 true i mk)):=
 a7n (b5S (b1u (by lia) hi hx) hm) λσ H Q h=>c0C (λ_ _ _ h=>c0F h) h
end
theorem SOk.move{K:AE}{F0 H0 F H:Hp}{σ:L2.St}{ρ:b7}{i j:Nat}{c:a0e}{a:AB}(so:SOk K F0 H0 F H σ ρ)(hij:i≠j)(e:ρ[j]?=ξ (ξ (.ow c)))(ea:σ[j]?=ξ (ξ (.ref a))):
 SOk K F0 H0 F H (σ.set i (ξ (.ref a))) ((ρ.set j ζ).set i (ξ (.ow c))):=by
 have at_:∀{k:Nat} {r:d5},((ρ.set j ζ).set i (ξ (.ow c)))[k]?=ξ (ξ r)->(k=i/\r= .ow c)\/(k≠i/\k≠j/\ρ[k]?=ξ (ξ r)):=λ {k r} h=>by
  rcases b51 h with⟨h1,z⟩|⟨h1,z⟩
  ·cases z;exact .inl ⟨h1,rfl⟩
  ·rcases b51 z with⟨_,z⟩|⟨h2,z⟩
   ·cases z
   ·exact .inr ⟨h1,h2,z⟩
 have len:∀{k:Nat} {r:d5},((ρ.set j ζ).set i (ξ (.ow c)))[k]?=ξ (ξ r)->k<σ.length:=λ {k r} h=>by
  obtain⟨z,_⟩:=Ai.mp h;rw [List.length_set,List.length_set,<-so.e.len] at z;exact z
 have gi:∀{k:Nat},k=i->k<σ.length->(σ.set i (ξ (.ref a)))[k]?=ξ (ξ (.ref a)):=λ {k} h z=>by
  subst h;rw [BE z]
 refine⟨so.x,⟨so.e.fh,by simp only [List.length_set];exact so.e.len,λk r h=> ?_,λk d h=> ?_,λk l d d' b hne h1 h2 h3 h4=> ?_⟩,λk d b h1 h2=> ?_⟩
 ·rcases at_ h with⟨hk,hr⟩|⟨h1,h2,h3⟩
  ·subst hr
   obtain⟨v,g1,g2⟩:=so.e.at_ j _ e
   rw [ea] at g1
   cases g1
   exact⟨_,gi hk (len h),g2⟩
  ·obtain⟨v,g1,g2⟩:=so.e.at_ k r h3
   exact⟨v,by rw [a8Y h1];exact g1,g2⟩
 ·rcases at_ h with⟨_,hr⟩|⟨_,_,h3⟩
  ·cases hr
  ·exact so.e.nb k d h3
 ·rcases at_ h1 with⟨hk,_⟩|⟨k1,k2,k3⟩
  ·rcases at_ h2 with⟨hl,_⟩|⟨l1,l2,l3⟩
   ·exact hne (hk.trans hl.symm)
   ·rw [gi hk (len h1)] at h3
    cases h3
    rw [a8Y l1] at h4
    exact so.e.ap j l _ _ a (Ne.symm l2) e l3 ea h4
  ·rw [a8Y k1] at h3
   rcases at_ h2 with⟨hl,_⟩|⟨l1,l2,l3⟩
   ·rw [gi hl (len h2)] at h4
    cases h4
    exact so.e.ap j k _ _ a (Ne.symm k2) e k3 ea h3
   ·rw [a8Y l1] at h4
    exact so.e.ap k l _ _ b hne k3 l3 h3 h4
 ·rcases at_ h1 with⟨hk,_⟩|⟨k1,k2,k3⟩
  ·rw [gi hk (len h1)] at h2
   cases h2
   exact so.nw j c a e ea
  ·rw [a8Y k1] at h2
   exact so.nw k d b k3 h2
def b1p(i j:Nat):MS:=λρ=>match ρ[j]? with
 |some (ξ (.ow c))=>ξ (.nx ((ρ.set j ζ).set i (ξ (.ow c))))
 |_=>ζ
theorem b7X{i j:Nat}{ρ:b7}{c:a0e}(h:ρ[j]?=ξ (ξ (.ow c))):b1p i j ρ=ξ (.nx ((ρ.set j ζ).set i (ξ (.ow c)))):=by
 unfold b1p;rw [h]
section
variable {X:Cx}
theorem c09{i j:Nat}{x y:Str}{q pos pos':Pos}(hN:X.N.Nodup)(hij:i≠j)(h:PE X (.Name y q) (a0o j))(hi:X.N[i]?=ξ x:=by rfl)(hx:Loc X.env.scope x:=by exact Or.inl rfl)(hs:swapsWith (.Name y q) (ξ (.Name x pos')) pos.line X.env=pure false:=by rfl)(hf:X.fn x=true\/X.env.scope.names.lookup x=ξ .local:=by first|exact .inl rfl|exact .inr rfl|assumption):
 ES X (.Assign [.Name x pos'] (.Name y q) pos) (b1p i j):=
 L6 (c0b hN hi hx h hs hf) λD σ H h0=>J4 h0 λF0 H0 F ρ fl so e fin=>by
  unfold b1p at e;split at e
  ·rename_i c eo;cases e;obtain⟨v,hv,hr⟩:=so.e.at_ j _ eo;obtain⟨a,rfl⟩:∃a,v= .ref a:=by
    cases c<;>obtain⟨a,_,e,_⟩:=hr<;>exact⟨a,e⟩
   exact⟨_,hv,fin _ F H (PU.n0.refl F) (so.move hij eo hv)⟩
  ·cases e
end
theorem M9.lend{K:AE}{F H:Hp}{σ:L2.St}{ρ:b7}{i:Nat}{c:a0e}{a:AB}{o:HO}{p:PV}(en:M9 K F H σ ρ)(e:ρ[i]?=ξ (ξ (.ow c)))(ea:σ[i]?=ξ (ξ (.ref a)))(fa:F a=ζ)(ha:H a=ξ o)(rp:E7 K (t8 F a o) p (.ref a)):
 M9 K (t8 F a o) H σ (ρ.set i (ξ (.v p))):=by
 have up:n0 F (t8 F a o):=O1 fa
 have cl:∀(j:Nat) (q:d5),(ρ.set i (ξ (.v p)))[j]?=ξ (ξ q)->(j=i/\q= .v p)\/(j≠i/\ρ[j]?=ξ (ξ q)):=λj q z=>by
  rcases b51 z with⟨y,y'⟩|y
  ·exact .inl ⟨y,(Option.some.inj y').symm⟩
  ·exact .inr y
 refine⟨λb u z=> ?_,by rw [List.length_set];exact en.len,λj q z=> ?_,λj d z=> ?_,λj k d d' b hne z1 z2=> ?_⟩
 ·by_cases hb:b=a
  ·subst hb;rw [j1] at z;cases z;exact ha
  ·rw [i6 hb] at z;exact en.fh _ _ z
 ·rcases cl j q z with⟨rfl,rfl⟩|⟨hj,w⟩
  ·exact⟨.ref a,ea,rp⟩
  ·obtain⟨v,v1,v2⟩:=en.at_ j q w
   refine⟨v,v1, ?_⟩
   cases q with
   |v r=>exact E7.mono up _ v2
   |ow d=>
    have v2:W0 K F H v d:=v2
    obtain⟨a',u,rfl,f1,h1,nt⟩:=c4h v2
    have hne:a'≠a:=λy=>by subst y;exact en.ap j i d c a' hj w e v1 ea
    exact show W0 K (t8 F a o) H (.ref a') d from c17 v2 up (by rw [i6 hne];exact f1) λ_ h=>h
   |bo d=>exact absurd w (en.nb j d)
 ·rcases cl j _ z with⟨_,y⟩|⟨_,w⟩
  ·cases y
  ·exact en.nb j d w
 ·rcases cl j _ z1 with⟨_,y⟩|⟨_,w⟩
  ·cases y
  ·rcases cl k _ z2 with⟨_,y⟩|⟨_,w'⟩
   ·cases y
   ·exact en.ap j k d d' b hne w w'
def R7(i:Nat)(m:M):M:=λρ=>match ρ[i]? with
 |some (ξ (.ow (.txt kvs)))=>(m (ρ.set i (ξ (.v (tv kvs))))).bind λr=>if r.noK=true then ξ r else ζ
 |_=>ζ
section
variable {X:Cx}
theorem a6e(i:Nat){e:AF}{m:M}(he:EE X e m):EE X e (R7 i m):=
 A2 he λσ H Q h0=>y6 h0 λF ρ r en hm kq=>by
  unfold R7 at hm;split at hm
  ·rename_i kvs eo;obtain⟨r',e1,hm⟩:=bind_some hm;split at hm
   ·rename_i c;cases hm;obtain⟨w,hw,a,xs,rfl,fa,ha,rl⟩:=en.at_ i _ eo;exact⟨t8 F a (.dK xs),_,_,en.lend eo hw fa ha (b1m fa rl),e1,λu F5 H5 o5=>kq u (drp F5 a) H5 (a9a fa o5 c)⟩
   ·cases hm
  ·cases hm
end
section
variable {K:AE}{F H H':Hp}
end
section
variable {X:Cx}
end
def isI:PV->Bool
 | .int _=>true
 |_=>false
def a7J(B:Γ):Γ->Bool
 |[]=>true
 |(k,p)::r=>match D6 B k with
  |none=>false
  |some q=>η p q && a7J B r
theorem a4f{K:AE}{F:Hp}:∀{kvs:Γ} {ys:List (List n4×V)},B1 K F kvs ys->kvs.length=ys.length
 |[],_,h=>by cases h;rfl
 |_::r,_,⟨v,t,e,_,h⟩=>by subst e;rw [AV,AV,a4f h]
theorem a92{k:List n4}{q:PV}:∀{B:Γ},D6 B k=ξ q->∃k',(k',q)∈B
 |[],h=>nomatch h
 |(k',p)::r,h=>by
  unfold D6 at h;rw [List.find?_cons] at h;split at h
  ·cases h;exact⟨k',AU⟩
  ·obtain⟨k2,hk⟩:=a92 (B:=r) h;exact⟨k2,Ab _ hk⟩
theorem b5y{K:AE}{F:Hp}{A:AK}{s:AC}{B:Γ}{ys:List (n4×V)}{vb:List (n4×AA)}(rB:B1 K F B (ys.map s1))(kB:KV ys vb)(iB:∀kv∈B,isI kv.2=true):
 ∀{kvs:Γ} {xs:List (n4×V)} {va:List (n4×AA)},B1 K F kvs (xs.map s1)->KV xs va->(∀kv∈kvs,isI kv.2=true)->PySem.W.KeqHits A s vb va (a7J B kvs)
 |[],xs,va,r,kv,_=>by
  cases xs with
  |nil=>cases kv;exact .nil
  |cons x xs=>cases r
 |(k,p)::rest,xs,va,r,kv,hI=>by
  obtain⟨v,t,e,q,r'⟩:=r;cases xs with
  |nil=>cases e
  |cons x xs=>
   rw [AM] at e;injection e with e1 e2
   obtain⟨k0,v0⟩:=x;have ek:[k0]=k:=congrArg Prod.fst e1;have ev:v0=v:=congrArg Prod.snd e1;subst ek ev e2;cases kv with
   |cons hd tl=>
    rename_i qa va';obtain⟨k1,u⟩:=qa;obtain⟨hk,hv⟩:=hd;have hk:k0=k1:=hk;have hv:u0 v0 u:=hv;subst hk;have ih:=b5y (A:=A) (s:=s) rB kB iB r' tl λz hz=>hI z (Ab _ hz);have rv:=kB.val k0;rw [<-a16] at rv;show PySem.W.KeqHits A s vb ((k0,u)::va') (match D6 B [k0] with|none=>false|some q=>η p q && a7J B rest)
    cases hB:D6 B [k0] with
    |none=>
     rw [(rB.val (k:=[k0])).2 hB] at rv;exact .miss (a17.none_of rv)
    |some q'=>
     obtain⟨w,hw,rw'⟩:=(rB.val (k:=[k0])).1 q' hB;rw [hw] at rv;obtain⟨y,hy,ry⟩:=a17.some_of rv;obtain⟨k2,hm⟩:=a92 hB;have i1:=hI _ AU;have i2:=iB _ hm;refine .hit hy ?_ ih;cases p with
     |int i=>
      cases q' with
      |int j=>
       cases(show v0=V.int i from q);cases(show w=V.int j from rw');obtain⟨t1,rfl⟩:=(show ∃t,u=Value.int i t from hv);obtain⟨t2,rfl⟩:=(show ∃t,y=Value.int j t from ry);have:η (.int i) (.int j)=(i==j):=rfl;rw [this];exact SeqAt.EqAt.int_int i t1 j t2
      |_=>cases i2
     |_=>cases i1
section
variable {X:Cx}
theorem b71:MtR X "dict.clear" (λx xs H Q=>∃a kvs,x= .ref a/\xs=[]/\H a=ξ (.dK kvs)/\Q .non (t8 H a (.dK []))):=by
 intro pins s σ H x xs v us Q I rx rv h;obtain⟨a,kvs,rfl,rfl,ha,q⟩:=h;cases rx;cases rv;exact c0Y I ha λs' I'=>⟨.non,_,I',rfl,q⟩
def b2y(i:Nat):MS:=λρ=>match ρ[i]? with
 |some (ξ (.ow (.txt _)))=>ξ (.nx (ρ.set i (ξ (.ow (.txt [])))))
 |_=>ζ
theorem b7B(i:Nat){x:Str}{p apos cpos pos:Pos}(hx:PE X (.Name x p) (a0o i))
 (hbase:attributeBase (.Name x p) "clear" X.env (eval (.Name x p) X.env)=eval (.Name x p) X.env:=by rfl) (hline:(apos.endLine==cpos.line)=true:=by rfl)
 (hsw:swapsWith (.Call (.Attribute (.Name x p) "clear" apos) [] [] cpos) ζ pos.line X.env=pure false:=by rfl):
 ES X (.Expr (.Call (.Attribute (.Name x p) "clear" apos) [] [] cpos) pos) (b2y i):=
 L6 (b26 (b5P PySem.F.plainAttrs_dict PySem.F.slot_dict_clear PySem.F.type_dict_clear b71 hx hbase hline) hsw) λD σ H h0=>J4 h0 λF0 H0 F ρ fl so e fin=>by
  unfold b2y at e;split at e
  ·rename_i kvs eo;cases e;obtain⟨v,h1,a,xs,rfl,fa,ha',rl⟩:=so.e.at_ i _ eo;exact⟨.ref a,h1,.inr (.inr (.inl ⟨rfl,.inl ⟨xs,ha'⟩⟩)),a,xs,rfl,rfl,ha',fin σ F _ (n0.refl F) (so.putT (qs:=[]) (ys:=[]) eo h1 rfl)⟩
  ·cases e
end
mutual
def okd:PV->Bool
 | .list ps=>a2U ps
 | .tuple ps=>a2U ps
 | .dict ((.str _,p)::r)=>okd p && c1I r
 | .dict _=>false
 |_=>true
def a2U:List PV->Bool
 |[]=>true
 |p::ps=>okd p && a2U ps
def c1I:List (PV×PV)->Bool
 |[]=>true
 |(_,p)::ps=>okd p && c1I ps
end
def c1H:Γ->Bool
 |[]=>true
 |(_,p)::r=>okd p && c1H r
def GdZ(z:Bool)(o:HO):Prop:=(z=true->∀ys,o≠.dK ys)/\∀u ys,o≠.frz u (.dK ys)
section
variable {K:AE}{F G:Hp}{z:Bool}
theorem c5T(hG:∀b o,F b=ξ o->GdZ z o->G b=ξ o){a:AB}{xs:List V}(h:TqT K F a xs):TqT K G a xs:=h.elim (λh=> .inl (hG _ _ h ⟨λ_ _ e=>(nomatch e),λ_ _ e=>(nomatch e)⟩)) .inr
theorem c4J(hG:∀b o,F b=ξ o->GdZ z o->G b=ξ o){a:AB}{xs:List V}(h:SqL K F a xs):SqL K G a xs:=by
 rcases h with(h|⟨o,h⟩)|h
 ·exact .inl (.inl (hG _ _ h ⟨λ_ _ e=>(nomatch e),λ_ _ e=>(nomatch e)⟩))
 ·exact .inl (.inr ⟨o,hG _ _ h ⟨λ_ _ e=>(nomatch e),λ_ _ e=>(nomatch e)⟩⟩)
 ·exact .inr h
theorem c48(hG:∀b o,F b=ξ o->GdZ z o->G b=ξ o){x:Str}{t:PV}{v:V}(h:b3u K F x t v):b3u K G x t v:=by
 rcases h with h|⟨q,a,C,φ,e,g,r⟩
 ·exact .inl h
 ·exact .inr ⟨q,a,C,φ,e,hG _ _ g ⟨λ_ _ e=>(nomatch e),λ_ _ e=>(nomatch e)⟩,r⟩
theorem c5m(hG:∀b o,F b=ξ o->GdZ z o->G b=ξ o){x:Str}{m:V}{fs:List (Str×V)}{v:V}(h:b1V K F x m fs v):b1V K G x m fs v:=by
 rcases h with⟨q,a,C,dx,e,g,n⟩|⟨q,a,C,dx,φ,e,g,r,d,n⟩
 ·exact .inl ⟨q,a,C,dx,e,hG _ _ g ⟨λ_ _ e=>(nomatch e),λ_ _ e=>(nomatch e)⟩,n⟩
 ·exact .inr ⟨q,a,C,dx,φ,e,hG _ _ g ⟨λ_ _ e=>(nomatch e),λ_ _ e=>(nomatch e)⟩,r,hG _ _ d ⟨λ_ _ e=>(nomatch e),λ_ _ e=>(nomatch e)⟩,n⟩
theorem a7C{b c:Bool}(h:z=true->(b && c)=true):(z=true->b=true)/\(z=true->c=true):=⟨λe=>(by have:=h e;rw [χ] at this;exact this.1),λe=>(by have:=h e;rw [χ] at this;exact this.2)⟩
mutual
theorem a4g(hG:∀b o,F b=ξ o->GdZ z o->G b=ξ o):∀(p:PV) {v:V},(z=true->okd p=true)->E7 K F p v->E7 K G p v
 | .none,_,_,h=>h
 | .bool _,_,_,h=>h
 | .int _,_,_,h=>h
 | .str _,_,_,h=>h
 | .tuple ps,_,n,⟨a,xs,e,q,r⟩=>⟨a,xs,e,c5T hG q,a8p hG ps n r⟩
 | .list ps,_,n,⟨a,xs,e,q,r⟩=>⟨a,xs,e,c4J hG q,a8p hG ps n r⟩
 | .dict kvs,_,n,.inl ⟨a,ys,q,h,r⟩=> .inl ⟨a,ys,q,hG _ _ h ⟨λe=>(by
  have n:=n e;cases kvs with
  |nil=>cases n
  |cons f fs=>obtain⟨k,p⟩:=f;obtain⟨kk,_,_,_,ek,_⟩:=r;subst ek;cases n),λ_ _ e=>(nomatch e)⟩,b3a hG kvs (λe=>(by
  have n:=n e;cases kvs with
  |nil=>cases n
  |cons f fs=>obtain⟨k,p⟩:=f;obtain⟨kk,_,_,_,ek,_⟩:=r;subst ek;cases n)) r⟩
 | .dict kvs,_,n,.inr (.inl ⟨a,xs,q,h,r⟩)=> .inr (.inl ⟨a,xs,q,hG _ _ h ⟨λ_ _ e=>(nomatch e),λ_ _ e=>(nomatch e)⟩,b3a hG kvs (λe=>(by
  have n:=n e;cases kvs with
  |nil=>cases n
  |cons f fs=>obtain⟨k,p⟩:=f;obtain⟨kk,_,_,_,ek,_⟩:=r;subst ek;cases n)) r⟩)
 | .dict _,_,n,.inr (.inr (.inl ⟨x,t,e,h⟩))=> .inr (.inr (.inl ⟨x,t,e,c48 hG h⟩))
 | .dict kvs,_,n,.inr (.inr (.inr ⟨x,m,fs,h,r⟩))=> .inr (.inr (.inr ⟨x,m,fs,c5m hG h,b6Y hG kvs (λe=>(by
  have n:=n e;cases kvs with
  |nil=>cases n
  |cons f fs=>obtain⟨k,p⟩:=f;obtain⟨_,_,_,_,ek,_⟩:=r;subst ek;exact n)) r⟩))
theorem a8p(hG:∀b o,F b=ξ o->GdZ z o->G b=ξ o):∀(ps:List PV) {vs:List V},(z=true->a2U ps=true)->n6 K F ps vs->n6 K G ps vs
 |[],_,_,h=>h
 |p::ps,_,n,⟨v,r,e,q,t⟩=>⟨v,r,e,a4g hG p (a7C n).1 q,a8p hG ps (a7C n).2 t⟩
theorem b3a(hG:∀b o,F b=ξ o->GdZ z o->G b=ξ o):∀(es:List (PV×PV)) {ys:List (List n4×V)},(z=true->c1I es=true)->a2v K F es ys->a2v K G es ys
 |[],_,_,h=>h
 |(k,p)::es,_,n,⟨kk,v,r,e,y,q,t⟩=>⟨kk,v,r,e,y,a4g hG p (a7C n).1 q,b3a hG es (a7C n).2 t⟩
theorem b6Y(hG:∀b o,F b=ξ o->GdZ z o->G b=ξ o):∀(es:List (PV×PV)) {ys:List (Str×V)},(z=true->c1I es=true)->a4P K F es ys->a4P K G es ys
 |[],_,_,h=>h
 |(k,p)::es,_,n,⟨kk,v,r,e,y,q,t⟩=>⟨kk,v,r,e,y,a4g hG p (a7C n).1 q,b6Y hG es (a7C n).2 t⟩
end
theorem b29(hG:∀b o,F b=ξ o->GdZ z o->G b=ξ o):∀(es:Γ) {ys:List (List n4×V)},(z=true->c1H es=true)->B1 K F es ys->B1 K G es ys
 |[],_,_,h=>h
 |(k,p)::es,_,n,⟨v,r,e,q,t⟩=>⟨v,r,e,a4g hG p (a7C n).1 q,b29 hG es (a7C n).2 t⟩
def c34:a0e->Bool
 | .lst ps=>a2U ps
 | .dct kvs=>c1H kvs
 | .txt kvs=>c1H kvs
def b9S:d5->Bool
 | .v p=>okd p
 | .ow c=>c34 c
 | .bo c=>c34 c
theorem a4e(hG:∀b o,F b=ξ o->GdZ z o->G b=ξ o){H H':Hp}:∀{c:a0e} {v:V},(z=true->c34 c=true)->W0 K F H v c->(∀b o,v= .ref b->F b=ζ->H b=ξ o->G b=ζ/\H' b=ξ o)->W0 K G H' v c
 | .lst ps,_,n,⟨a,xs,e,f,q,r⟩,k=>⟨a,xs,e,(k a _ e f q).1,(k a _ e f q).2,a8p hG ps n r⟩
 | .dct ps,_,n,⟨a,xs,e,f,q,r⟩,k=>⟨a,xs,e,(k a _ e f q).1,(k a _ e f q).2,b29 hG ps n r⟩
 | .txt ps,_,n,⟨a,xs,e,f,q,r⟩,k=>⟨a,xs,e,(k a _ e f q).1,(k a _ e f q).2,b29 hG ps n r⟩
end
def d5.toValT:d5->Υ PV
 | .ow (.txt kvs)=>ξ (tv kvs)
 |r=>r.toVal
theorem c5l{F0 F:Hp}{a:AB}{xs:List (n4×V)}(h:∀b o u,F b=ξ (.frz o u)->F0 b=ξ (.frz o u)):∀b o u,t8 F a (.dK xs) b=ξ (.frz o u)->F0 b=ξ (.frz o u):=λb o u z=>by
 by_cases hb:b=a
 ·subst hb;rw [j1] at z;cases z
 ·rw [i6 hb] at z;exact h _ _ _ z
theorem A7.toValT{K:AE}{F H F' H':Hp}{v:V}{p:PV}{r:d5}(o:A7 K F H F' H' v r)(e:r.toValT=ξ p):∃F2,A7 K F H F2 H' v (.v p):=by
 unfold d5.toValT at e;split at e
 ·rename_i kvs;cases e;obtain⟨a,xs,rfl,n,q,r⟩:=o.rep;have fr:=o.fr _ a rfl rfl;have up:n0 F' (t8 F' a (.dK xs)):=λb u z=>by rw [i6 (m6 z n)];exact z
  refine⟨t8 F' a (.dK xs),A7.val ⟨o.x.f.trans up,o.x.h,λb u z=> ?_,λb u z y t=> ?_,c5l o.x.nf⟩ (.inl ⟨a,xs,rfl,j1,a2v.of up r⟩)⟩
  ·by_cases hb:b=a
   ·subst hb;rw [j1] at z;cases z;exact q
   ·rw [i6 hb] at z;exact o.x.fh _ _ z
  ·rw [i6 (m6 y fr)];exact o.x.nw b u z y t
 ·exact o.toVal e
def mFz(m:M):M:=λρ=>(m ρ).bind λr=>r.toValT.map .v
theorem b8N{X:Cx}{e:AF}{m:M}(h:EE X e m):EE X e (mFz m):=A2 h λσ H Q h0=>y6 h0 λF ρ r en e k=>by
 obtain⟨r1,e1,e⟩:=bind_some e;cases e2:r1.toValT with
 |none=>rw [e2] at e;cases e
 |some p=>
  rw [e2] at e;cases e;exact⟨F,ρ,r1,en,e1,λv F' H' o=>let ⟨F2,o2⟩:=o.toValT e2;k v F2 H' o2⟩
def a0u(ρ:b7):b7:=ρ.map λs=>match s with
 |some r=>if b9S r=true then ξ r else ζ
 |none=>ζ
theorem a0K{ρ:b7}{i:Nat}{r:d5}(h:(a0u ρ)[i]?=ξ (ξ r)):ρ[i]?=ξ (ξ r)/\b9S r=true:=by
 unfold a0u at h;rw [Ak] at h;cases e:ρ[i]? with
 |none=>rw [e] at h;cases h
 |some q=>
  rw [e] at h;cases q with
  |none=>cases h
  |some q=>
   simp only [BB,Option.some.injEq] at h;split at h
   ·cases h;rename_i c;exact⟨rfl,c⟩
   ·cases h
def a68:PV->Bool
 | .int _=>true
 | .str _=>true
 |_=>false
def a91(F:Hp):Hp:=λb=>match F b with
 |some (.dK _)=>ζ
 |o=>o
theorem a7t{F:Hp}{b:AB}{o:HO}(h:a91 F b=ξ o):F b=ξ o/\∀ys,o≠.dK ys:=by
 unfold a91 at h;split at h
 ·cases h
 ·rename_i nn;exact⟨h,λys e=>by subst e;exact nn ys h⟩
theorem c2w{F:Hp}{b:AB}{o:HO}(h:F b=ξ o)(n:∀ys,o≠.dK ys):a91 F b=ξ o:=by
 unfold a91;split
 ·rename_i ys e;rw [h] at e;cases e;exact absurd rfl (n ys)
 ·exact h
theorem b1M{F:Hp}{b:AB}(h:F b=ζ):a91 F b=ζ:=by unfold a91;rw [h]
theorem c18{K:AE}{F G:Hp}:∀{p:PV} {v:V},a68 p=true->E7 K F p v->E7 K G p v
 | .int _,_,_,r=>r
 | .str _,_,_,r=>r
 | .none,_,h,_=>nomatch h
 | .bool _,_,h,_=>nomatch h
 | .tuple _,_,h,_=>nomatch h
 | .list _,_,h,_=>nomatch h
 | .dict _,_,h,_=>nomatch h
theorem a9E{K:AE}{F G:Hp}:∀{es:Γ} {ys:List (List n4×V)},(es.all λe=>a68 e.2)=true->B1 K F es ys->B1 K G es ys
 |[],_,_,h=>h
 |(k,p)::es,_,n,⟨v,r,e,q,t⟩=>by
  rw [List.all_cons,χ] at n;exact⟨v,r,e,c18 n.1 q,a9E n.2 t⟩
def b2A(m:M):M:=λρ=>(m (a0u ρ)).bind λr=>match r with
 | .v (.dict es)=>(tvr r).bind λkvs=>if(kvs.all λe=>a68 e.2)=true then ξ (.ow (.txt kvs)) else ζ
 |_=>ζ
theorem b8M{X:Cx}{e:AF}{m:M}(h:EE X e m):EE X e (b2A m):=A2 h λσ H Q h0=>y6 h0 λF ρ r en e k=>by
 obtain⟨r1,e1,e⟩:=bind_some e;split at e
 case h_2=>cases e
 rename_i es;obtain⟨kvs,e2,e⟩:=bind_some e;split at e
 case isFalse=>cases e
 rename_i fl;cases e;have hG:∀b o,F b=ξ o->GdZ true o->a91 F b=ξ o:=λb o z g=>c2w z (g.1 rfl);have s0:n0 (a91 F) H:=λb o z=>en.fh _ _ (a7t z).1;refine⟨a91 F,a0u ρ,_,⟨s0,by unfold a0u;rw [AT];exact en.len,λi r z=> ?_,λi c z=>en.nb i c (a0K z).1,λi j c d a hij z1 z2 z3=>en.ap i j c d a hij (a0K z1).1 (a0K z2).1 z3⟩,e1,λv F' H' o=> ?_⟩
 ·obtain⟨z1,z2⟩:=a0K z;obtain⟨v,hv,rv⟩:=en.at_ i r z1;refine⟨v,hv, ?_⟩;cases r with
  |v p=>exact a4g hG p (λ_=>z2) rv
  |ow c=>exact a4e hG (λ_=>z2) rv λb o _ f q=>⟨b1M f,q⟩
  |bo c=>exact absurd z1 (en.nb i c)
 ·obtain⟨a,xs,rfl,ha,rl⟩:=a5S o.x.fh o.rep e2;have Fa:F' a=ξ (.dK xs):=by
   obtain⟨kvs',e3,e4⟩:=bind_some e2;split at e4
   case isFalse=>cases e4
   rename_i ho;cases e4;rcases o.rep with⟨a',ys,e5,ha',hr⟩|⟨a',ys,e5,ha',hr⟩|⟨x,t,e5,_⟩|⟨x,m,fs,_,hr⟩
   ·cases e5;have:=o.x.fh _ _ ha';rw [ha] at this;cases this;exact ha'
   ·exfalso
    cases e5;have:=o.x.fh _ _ ha';rw [ha] at this;cases this
   ·exfalso;subst e5;simp [unE] at e3
   ·exfalso
    cases es with
    |nil=>cases hr
    |cons f es=>obtain⟨k,p⟩:=f;obtain⟨_,_,_,_,z,_⟩:=hr;subst z;simp [unE] at e3
  have NTd:∀zs,NT (.dK zs):=λzs _ h=>nomatch h;have un:a91 F a=ζ:=by
   cases hc:a91 F a with
   |none=>rfl
   |some w=>
    have h1:=o.x.f _ _ hc;rw [Fa] at h1;cases h1;exact absurd rfl ((a7t hc).2 _)
  have fra:H a=ζ:=by
   cases hc:H a with
   |none=>rfl
   |some w=>
    have h1:=o.x.h _ _ hc;rw [ha] at h1;cases h1;have:=o.x.nw a _ un hc (NTd _);rw [Fa] at this;cases this
  have Fn:F a=ζ:=en.fh.free fra;obtain⟨U,hU⟩:∃U:Hp,U=λc=>if c=a then ζ else match F c with|some u=>ξ u|none=>F' c:=⟨_,rfl⟩
  have Ua:U a=ζ:=by rw [hU];simp
  have UF:∀c u,F c=ξ u->U c=ξ u:=λc u z=>by
   have hc:c≠a:=λy=>by rw [y,Fn] at z;cases z
   rw [hU];simp [hc,z]
  have Un:∀c,c≠a->F c=ζ->U c=F' c:=λc hc z=>by rw [hU];simp [hc,z]
  refine k (.ref a) U H' ⟨⟨UF,o.x.h,λc u z=> ?_,λc u z y t=> ?_,λc w u z=> ?_⟩,⟨a,xs,rfl,Ua,ha,a9E fl rl⟩,λ_ b _ e=>by cases e;exact fra⟩
  ·have hc:c≠a:=λy=>by rw [y,Ua] at z;cases z
   cases hf:F c with
   |some w=>rw [UF _ _ hf] at z;cases z;exact o.x.h _ _ (en.fh _ _ hf)
   |none=>rw [Un c hc hf] at z;exact o.x.fh _ _ z
  ·by_cases hc:c=a
   ·rw [hc];exact Ua
   ·rw [Un c hc z];exact o.x.nw c u (b1M z) y t
  ·have hc:c≠a:=λy=>by rw [y,Ua] at z;cases z
   cases hf:F c with
   |some w'=>rw [UF _ _ hf] at z;cases z;rfl
   |none=>
    rw [Un c hc hf] at z;have:=(a7t (o.x.nf _ _ _ z)).1;rw [hf] at this;cases this
def b3W(neg:Bool)(x y:d5):Υ d5:=match tvr x,tvr y with
 |some A,ξ B=>if(A.all λkv=>isI kv.2)=true/\(B.all λkv=>isI kv.2)=true then ξ (.v (.bool (if neg then !(A.length==B.length && a7J B A) else(A.length==B.length && a7J B A)))) else ζ
 |_,_=>ζ
section
variable {X:Cx}
theorem c1M(hu:X.A.units+64<cLine):OpM X (compareOp .Eq) (b3W false):=by
 ext d
 unfold b3W at h3;split at h3
 case h_2=>cases h3
 rename_i A B eA eB;split at h3
 case isFalse=>cases h3
 ext o
 have lb:B.length=vb.length:=by rw [a4f rB,AT];exact Paired.length kb
 refine PySem.W.keq_eq ma mb da db (by lia) (λ_=>b5y rB kb (List.all_eq_true.mp c.2) rA ka (List.all_eq_true.mp c.1)) ?_
 rw [<-la,<-lb];exact⟨.bl _,H,I,rfl,k _ F H (A7.here s0 rfl)⟩
theorem b9W(hu:X.A.units+64<cLine):OpM X (compareOp .NotEq) (b3W true):=by
 ext d
 unfold b3W at h3;split at h3
 case h_2=>cases h3
 rename_i A B eA eB;split at h3
 case isFalse=>cases h3
 ext o
 have lb:B.length=vb.length:=by rw [a4f rB,AT];exact Paired.length kb
 refine PySem.W.keq_ne ma mb da db (by lia) (λ_=>b5y rB kb (List.all_eq_true.mp c.2) rA ka (List.all_eq_true.mp c.1)) ?_
 rw [<-la,<-lb];exact⟨.bl _,H,I,rfl,k _ F H (A7.here s0 rfl)⟩
end
def Iti(a:AB)(o:Obj)(ys:List (n4×V)):It:=⟨λi H=>H a=ξ (.frz o (.dK ys))/\i<ys.length,λi H v H'=>∃p t,ys[i]?=ξ p/\H t=ζ/\v= .ref t/\H'=t8 H t (.tup [kV p.1,p.2]),λi H=>H a=ξ (.frz o (.dK ys))/\i=ys.length⟩
theorem b56{P:AJ}{w:AI}{K:AE}{elts:List AF}{x1}{pos:Pos}{it a:AB}{o:Obj}{ys:List (n4×V)}:b1X P w K (.Tuple elts x1 pos) (Iti a o ys) [it] it (λi h=>∃ok ov,IsItemIter h it a i ys.length (epO o) ok ov) where
 mem:=by simp
 obj:=λi h ⟨ok,ov,st⟩ b hb=>by
  have hb:b=it:=by simpa using hb
  subst hb;exact⟨_,st,λv z=>by cases z⟩
 keep:=λi h h' ⟨ok,ov,st⟩ k=>⟨ok,ov,k it (by simp) _ st⟩
 item:=by
  intro X hP hw hK hc i pins s σ H E I hf ⟨ok,ov,st⟩ hg;subst hP hw hK;have fi:=hf it (by simp)
  ext aj
  have hl:vs.length=ys.length:=(Paired.length rel).symm;have hx:ys[i]?=ξ ys[i]:=by simp [hlt]
  obtain⟨q,hq,rq⟩:=c4t rel hx;rw [<-hl] at st;refine wpAny_pyNext_items_item st dd (k:=q.1) (v:=q.2) hq λkey h' kk ho htup hsz kp=>⟨_,rfl, ?_⟩;refine wpAny_letOwnedTupleGo_items ho λh2 he2 hs2=> ?_;have ilt:it<s.heap.objs.size:=Aa st;have htup2:h2.get? s.heap.objs.size=ξ {cls:= .type "tuple",data:= .seq #[key,q.2]}:=(hs2.2 _ (Nat.ne_of_gt ilt)).trans htup;have I2:l8 X pins σ (t8 H s.heap.objs.size (.tup [kV ys[i].1,ys[i].2])) {s with heap:=h2}:=
   l8.turnedTup (t':=s.toks) I fi fi (λb o hb _ e=>(hs2.2 b hb).trans (kp b o hb e)) ⟨by rw [sizeLine_eq];simp,[key,q.2],.cons (by rw [rq.1];exact b34 kk) (.cons rq.2 .nil),⟨_,htup2,rfl,0,rfl⟩⟩
  refine⟨.ref s.heap.objs.size,_,I2,rfl,⟨ys[i],s.heap.objs.size,hx,I.hok.fresh (AQ _),rfl,rfl⟩,⟨_,_,by rw [<-hl];exact he2⟩,λb hb=> ?_⟩
  have hb:b=it:=by simpa using hb
  subst hb;rw [i6 (Ac ilt)];exact fi.1
 done:=by
   intro X hP hw hK hc i pins s σ H E I hf ⟨ok,ov,st⟩ hg;subst hP hw hK
   ext ak
   ext aj
   have hl:vs.length=ys.length:=(Paired.length rel).symm;rw [<-hl] at st;exact wpAny_pyNext_items_end (I.ok.hd hc) st dd (by simp;lia) λh' eb=>⟨rfl,I.turned (t':=s.toks) (λb o hb e=>eb b o hb e) f0 f1 f3 f4 f5⟩
 self:=λ_ _ _ _ _ ⟨_,_,st⟩ h=>PySem.W.kcp_self st h
def Du(N:AB->Prop)(D:a1o):a1o where
 nx:=λσ H=>∃a o ys,N a/\H a=ξ (.frz o (.dK ys))/\D.nx σ (t8 H a (.dK ys))
 rt:=λv H=>∃a o ys,N a/\H a=ξ (.frz o (.dK ys))/\D.rt v (t8 H a (.dK ys))
 bk:=λσ H=>∃a o ys,N a/\H a=ξ (.frz o (.dK ys))/\D.bk σ (t8 H a (.dK ys))
 ct:=λσ H=>∃a o ys,N a/\H a=ξ (.frz o (.dK ys))/\D.ct σ (t8 H a (.dK ys))
def NFo(X:Cx)(a:AB):Prop:=∀o u,X.H₀ a≠ξ (.frz o u)
def c5c(N:AB->Prop)(tl:TE):TI:=λσ H R=>tl σ H λx H1=>∃p a ys,x= .ref p/\H1 p=ξ (.ext λh=>h.IsItemsView p a)/\H1 a=ξ (.dK ys)/\∀o,N a->R (Iti a o ys) (t8 H1 a (.frz o (.dK ys)))
section
variable {X:Cx}
theorem c32{pins:List (AB×Obj)}{σ:L2.St}{H:Hp}{s:AC}{a:AB}{ys:List (n4×V)}(I:l8 X pins σ H s)(ha:H a=ξ (.dK ys)):NFo X a:=λo u z=>by
 have:=I.base.frzs a o u z;rw [ha] at this;cases this
theorem c4v{l:AF}{tl:TE}{elts:List AF}{x1}{tpos:Pos}(hl:PE X l tl):PI X (.Tuple elts x1 tpos) l (c5c (NFo X) tl):=by
 ext n
 obtain⟨p,a,ys,e,hp,ha,q⟩:=q1;subst e;obtain rfl:v=Value.ref p:=r1;have hv:s1.heap.IsItemsView p a:=(show G3 X.prog X.w H1 s1.heap p _ from I1.hok p _ hp).1;obtain⟨o,I2⟩:=l8.frzD I1 ha;obtain⟨hd,vs,rel,dd⟩:=b04 I2 j1;have hl:vs.length=ys.length:=(Paired.length rel).symm;refine wpAny_pyIter_items hv dd ⟨s1.heap.objs.size,[s1.heap.objs.size],_,_,_,rfl,I2.kept (t':=s1.toks) λb o e=>AY _ e,b56,⟨.none,.none,by rw [<-hl];exact Ae _ rfl⟩,λc hb=> ?_,q o (c32 I1 ha)⟩
 have e:c=s1.heap.objs.size:=by simpa using hb
 subst e;exact I2.fpOk (AQ _) (I2.hok.fresh (AQ _))
theorem b6T{l:AF}{tl:TE}{g:TG}{tb:TS}{body:List Stmt}{elts:List AF}{x1}{tpos pos:Pos}(hp:PassesOwn (model X.prog X.w) X.A X.env X.xe)(hc:X.calm=true)(hl:PE X l tl)(hg:PG X (.Tuple elts x1 tpos) g)(hb:PSs X body tb)
 (hs:∀x,foldedSetIterable l X.env x=pure x:=by intro _;rfl):PS X (.For (.Tuple elts x1 tpos) l body [] pos) (λD σ H=>c5L (c5c (NFo X) tl) g tb (Du (NFo X) D) σ H):=by
 intro pins s σ H D I h
 refine K6 (a5K hp hc (c4v hl) hg hb hs pins s σ H _ I h) λf s1 h1=> ?_
 cases f with
 |next=>obtain⟨σ',H',I',a,o,ys,n,ha,q⟩:=h1;exact⟨σ',_,l8.unfrz I' ha n,q⟩
 |brk=>obtain⟨σ',H',I',a,o,ys,n,ha,q⟩:=h1;exact⟨σ',_,l8.unfrz I' ha n,q⟩
 |cont=>obtain⟨σ',H',I',a,o,ys,n,ha,q⟩:=h1;exact⟨σ',_,l8.unfrz I' ha n,q⟩
 |ret u=>obtain⟨v,σ',H',I',r,a,o,ys,n,ha,q⟩:=h1;exact⟨v,σ',_,l8.unfrz I' ha n,r,q⟩
end
def rsz(F:Hp)(a:AB)(u:Υ HO):Hp:=λb=>if b=a then u else F b
theorem a4i{F:Hp}{a b:AB}{u:Υ HO}(h:b≠a):rsz F a u b=F b:=by unfold rsz;rw [if_neg h]
theorem a4j{F:Hp}{a:AB}{u:Υ HO}:rsz F a u a=u:=by unfold rsz;rw [if_pos rfl]
theorem c0w{K:AE}{F0 H0 F H:Hp}{σ:L2.St}{ρ ρ1:b7}{a:AB}{o:Obj}{ys:List (n4×V)}(so:SOk K F0 H0 F H σ ρ)(hl:ρ1.length=ρ.length)(Fa:F a=ζ\/∃ys,F a=ξ (.dK ys))
 (hr:∀(i:Nat) (r:d5),ρ1[i]?=ξ (ξ r)->ρ[i]?=ξ (ξ r)/\(F a=ζ\/b9S r=true)) (ow:∀(i:Nat) (c:a0e),ρ[i]?=ξ (ξ (.ow c))->σ[i]?≠ξ (ξ (.ref a))):
 SOk K (t8 F0 a (.frz o (.dK ys))) (t8 H0 a (.frz o (.dK ys))) (t8 F a (.frz o (.dK ys))) (t8 H a (.frz o (.dK ys))) σ ρ1:=by
 have up:∀{G G':Hp},n0 G G'->n0 (t8 G a (.frz o (.dK ys))) (t8 G' a (.frz o (.dK ys))):=λs b u z=>by
  by_cases hb:b=a
  ·subst hb;rw [j1] at z ⊢;exact z
  ·rw [i6 hb] at z ⊢;exact s _ _ z
 have hG:∀b u,F b=ξ u->GdZ true u->t8 F a (.frz o (.dK ys)) b=ξ u:=λb u z g=>by
  by_cases hb:b=a
  ·subst hb;rcases Fa with Fa|⟨zs,Fa⟩
   ·rw [Fa] at z;cases z
   ·rw [Fa] at z;cases z;exact absurd rfl (g.1 rfl zs)
  ·rw [i6 hb];exact z
 have hG0:F a=ζ->∀b u,F b=ξ u->GdZ false u->t8 F a (.frz o (.dK ys)) b=ξ u:=λn b u z _=>by rw [i6 (m6 z n)];exact z
 refine⟨⟨up so.x.f,up so.x.h,up so.x.fh,λb u z y t=> ?_,λb w u z=> ?_⟩,⟨up so.e.fh,hl▸so.e.len,λi r z=> ?_,λi c z=>so.e.nb i c (hr i _ z).1,λi j c d b hij z1 z2 z3=>so.e.ap i j c d b hij (hr i _ z1).1 (hr j _ z2).1 z3⟩,λi c b z1 z2=> ?_⟩
 ·have hb:b≠a:=λe=>by rw [e,j1] at z;cases z
  rw [i6 hb] at z y ⊢
  exact so.x.nw b u z y t
 ·by_cases hb:b=a
  ·subst hb;rw [j1] at z ⊢;exact z
  ·rw [i6 hb] at z ⊢;exact so.x.nf _ _ _ z
 ·obtain⟨z1,z2⟩:=hr i r z
  obtain⟨v,hv,rv⟩:=so.e.at_ i r z1
  refine⟨v,hv, ?_⟩
  have own:∀c,r= .ow c->∀b u,v= .ref b->F b=ζ->H b=ξ u->t8 F a (.frz o (.dK ys)) b=ζ/\t8 H a (.frz o (.dK ys)) b=ξ u:=λc ec b u e f q=>by
   subst e ec;have hb:b≠a:=λe=>ow i c z1 (by rw [hv,e])
   rw [i6 hb,i6 hb];exact⟨f,q⟩
  cases r with
  |v p=>
   rcases z2 with n|n
   ·exact a4g (hG0 n) p (λe=>nomatch e) rv
   ·exact a4g hG p (λ_=>n) rv
  |ow c=>
   rcases z2 with n|n
   ·exact a4e (hG0 n) (λe=>nomatch e) rv (own c rfl)
   ·exact a4e hG (λ_=>n) rv (own c rfl)
  |bo c=>exact absurd z1 (so.e.nb i c)
 ·have hb:b≠a:=λe=>ow i c (hr i _ z1).1 (by rw [z2,e])
  rw [i6 hb]
  exact so.nw i c b (hr i _ z1).1 z2
structure Bk(F0 H0:Hp)(a:AB)(ys:List (n4×V))(u:Υ HO):Prop where
 c1:∀o,F0 a=ξ o->u=ξ o
 c2:∀o,H0 a=ξ o->o= .dK ys
 c3:F0 a=ζ->H0 a≠ζ->u=ζ
 c4:∀o,u=ξ o->o= .dK ys
section
variable {K:AE}{F0 H0 F' H':Hp}{a:AB}{o:Obj}{ys:List (n4×V)}{u:Υ HO}
theorem b2f(B:Bk F0 H0 a ys u)(x:Ext (t8 F0 a (.frz o (.dK ys))) (t8 H0 a (.frz o (.dK ys))) F' H'):Ext F0 H0 (rsz F' a u) (t8 H' a (.dK ys)):=by
 refine⟨λb w z=> ?_,λb w z=> ?_,λb w z=> ?_,λb w z y t=> ?_,λb w v z=> ?_⟩
 ·by_cases hb:b=a
  ·subst hb;rw [a4j];exact B.c1 _ z
  ·rw [a4i hb];exact x.f _ _ (by rw [i6 hb];exact z)
 ·by_cases hb:b=a
  ·subst hb;rw [j1,B.c2 _ z]
  ·rw [i6 hb];exact x.h _ _ (by rw [i6 hb];exact z)
 ·by_cases hb:b=a
  ·subst hb;rw [a4j] at z;rw [j1,B.c4 _ z]
  ·rw [a4i hb] at z;rw [i6 hb];exact x.fh _ _ z
 ·by_cases hb:b=a
  ·subst hb;rw [a4j];exact B.c3 z (by rw [y];intro h;cases h)
  ·rw [a4i hb];exact x.nw b w (by rw [i6 hb];exact z) (by rw [i6 hb];exact y) t
 ·by_cases hb:b=a
  ·subst hb;rw [a4j] at z;cases B.c4 _ z
  ·rw [a4i hb] at z;have:=x.nf _ _ _ z;rw [i6 hb] at this;exact this
theorem a9I(Fa:F' a=ξ (.frz o (.dK ys))):∀b w,F' b=ξ w->GdZ false w->rsz F' a u b=ξ w:=λb w z g=>by
 have hb:b≠a:=λe=>by rw [e,Fa] at z;cases z;exact g.2 _ _ rfl
 rw [a4i hb];exact z
theorem b4D(Fa:F' a=ξ (.frz o (.dK ys))){v:V}:∀{r:d5},R6 K F' H' v r->R6 K (rsz F' a u) (t8 H' a (.dK ys)) v r:=by
 have own:∀(b:AB) (w:HO),v= .ref b->F' b=ζ->H' b=ξ w->rsz F' a u b=ζ/\t8 H' a (.dK ys) b=ξ w:=λb w _ f q=>by
  have hb:b≠a:=λe=>by rw [e,Fa] at f;cases f
  rw [a4i hb,i6 hb];exact⟨f,q⟩
 intro r h;cases r with
 |v p=>exact a4g (a9I Fa) p (λe=>nomatch e) h
 |ow c=>exact a4e (a9I Fa) (λe=>nomatch e) h own
 |bo c=>exact a4e (a9I Fa) (λe=>nomatch e) h own
theorem b3g(B:Bk F0 H0 a ys u){σ:L2.St}{ρ:b7}(so:SOk K (t8 F0 a (.frz o (.dK ys))) (t8 H0 a (.frz o (.dK ys))) F' H' σ ρ):H' a=ξ (.frz o (.dK ys))/\SOk K F0 H0 (rsz F' a u) (t8 H' a (.dK ys)) σ ρ:=by
 have Fa:F' a=ξ (.frz o (.dK ys)):=so.x.f _ _ j1;refine⟨so.x.fh _ _ Fa,b2f B so.x,⟨(b2f B so.x).fh,so.e.len,λi r z=> ?_,so.e.nb,so.e.ap⟩,λi c b z1 z2=> ?_⟩
 ·obtain⟨v,hv,rv⟩:=so.e.at_ i r z;exact⟨v,hv,b4D Fa rv⟩
 ·have:=so.nw i c b z1 z2;have hb:b≠a:=λe=>by rw [e,j1] at this;cases this
  rw [i6 hb] at this;exact this
theorem c1S(B:Bk F0 H0 a ys u){v:V}{r:d5}(x:A7 K (t8 F0 a (.frz o (.dK ys))) (t8 H0 a (.frz o (.dK ys))) F' H' v r):H' a=ξ (.frz o (.dK ys))/\A7 K F0 H0 (rsz F' a u) (t8 H' a (.dK ys)) v r:=by
 have Fa:F' a=ξ (.frz o (.dK ys)):=x.x.f _ _ j1;refine⟨x.x.fh _ _ Fa,b2f B x.x,b4D Fa x.rep,λc b e q=> ?_⟩;have:=x.fr c b e q;have hb:b≠a:=λe=>by rw [e,j1] at this;cases this
 rw [i6 hb] at this;exact this
theorem b6q{F:Hp}{N:AB->Prop}{D:a1o}(n:N a)(B:Bk F0 H0 a ys u)(sF:∀F',n0 (t8 F a (.frz o (.dK ys))) F'->n0 F (rsz F' a u)):∀{fl:Fl},Fin K F0 H0 F D fl->Fin K (t8 F0 a (.frz o (.dK ys))) (t8 H0 a (.frz o (.dK ys))) (t8 F a (.frz o (.dK ys))) (Du N D) fl
 | .nx _,h=>λσ' F' H' s so=>let ⟨q,so'⟩:=b3g B so;⟨a,o,ys,n,q,h σ' _ _ (sF F' s) so'⟩
 | .rt _,h=>λv F' H' x=>let ⟨q,x'⟩:=c1S B x;⟨a,o,ys,n,q,h v _ _ x'⟩
 | .bk _,h=>λσ' F' H' s so=>let ⟨q,so'⟩:=b3g B so;⟨a,o,ys,n,q,h σ' _ _ (sF F' s) so'⟩
 | .ct _,h=>λσ' F' H' s so=>let ⟨q,so'⟩:=b3g B so;⟨a,o,ys,n,q,h σ' _ _ (sF F' s) so'⟩
end
def itP(kvs:Γ):List PV:=kvs.map λkv=> .tuple [k1 kv.1,kv.2]
theorem a9F{K:AE}{F:Hp}:∀{kvs:Γ} {ys:List (n4×V)} {k:Nat} {p:n4×V},B1 K F kvs (ys.map s1)->ys[k]?=ξ p->∃q,kvs[k]?=ξ ([p.1],q)/\E7 K F q p.2
 |[],ys,k,p,r,e=>by cases List.map_eq_nil_iff.mp r;simp at e
 |(kk,q)::es,[],k,p,⟨_,_,e,_⟩,_=>by cases e
 |(kk,q)::es,y::ys,k,p,⟨v,t,e,rv,rt⟩,h=>by
  rw [AM] at e;injection e with e1 e2
  subst e2;have ek:kk=[y.1]:=(congrArg Prod.fst e1).symm;have ev:v=y.2:=(congrArg Prod.snd e1).symm;subst ek ev;cases k with
  |zero=>cases h;exact⟨q,rfl,rv⟩
  |succ k=>exact a9F (k:=k) rt h
theorem b09{K:AE}{F0 H0 F1:Hp}{body:MS}{tg:PV->b7->Υ b7}{g:TG}{kvs:Γ}{ys:List (n4×V)}{a:AB}{o:Obj}{fl:Fl}{D:a1o}{σ:L2.St}{H:Hp}(T:a6V K g tg)(fin:Fin K F0 H0 F1 D fl)(rp:B1 K F1 kvs (ys.map s1))(ha:F1 a=ξ (.frz o (.dK ys)))(h0:PvL K F0 H0 F1 body tg (itP kvs) fl 0 σ H):
 ∃W:Nat->Nat->L2.St->Hp->Prop,(∃m,W 0 m σ H)/\∀i m σ H,W i m σ H->
  ((Iti a o ys).stop i H/\D.nx σ H)\/((Iti a o ys).go i H/\∃N:L2.St->Hp->Prop,(∀σ' H',N σ' H'->∃m',m'<m/\W (i+1) m' σ' H')/\∀v H',(Iti a o ys).yld i H v H'->g v σ H' λσ2 H2=>tMS K body {D with nx:=N,ct:=N,bk:=D.nx} σ2 H2):=by
 have hl:(itP kvs).length=ys.length:=by unfold itP;rw [AT];have:=rp.length;rw [AT] at this;exact this.symm
 refine⟨λi m σ H=>m=ys.length - i/\i<=ys.length/\PvL K F0 H0 F1 body tg (itP kvs) fl i σ H,⟨ys.length,by simp,Nat.zero_le _,h0⟩, ?_⟩
 rintro i m σ H ⟨rfl,hi,pv⟩
 have sq:H a=ξ (.frz o (.dK ys)):=by
  obtain⟨F,ρ,s,so,e⟩:=pv;exact so.e.fh _ _ (s _ _ ha)
 by_cases hlt:i<ys.length
 ·refine .inr ⟨⟨sq,hlt⟩,PvL K F0 H0 F1 body tg (itP kvs) fl (i+1),λσ' H' p'=>⟨ys.length - (i+1),by lia,rfl,hlt,p'⟩,λv H' yl=> ?_⟩
  obtain⟨p,t,ep,hn,rfl,rfl⟩:=yl
  obtain⟨F,ρ,s,so,e⟩:=pv
  obtain⟨q,eq,rq⟩:=a9F rp ep
  have eq':(itP kvs)[i]?=ξ (.tuple [kP p.1,q]):=by unfold itP;rw [Ak,eq];rfl
  have hk:i<(itP kvs).length:=by lia
  have hd:(itP kvs).drop i= .tuple [kP p.1,q]::(itP kvs).drop (i+1):=by
   rw [List.drop_eq_getElem_cons hk]
   congr 1
   exact(Ai.mp eq').2
  rw [hd] at e
  obtain⟨ρ1,f1,e1,e2,e3⟩:=a64 e
  have xl:Ext F H (t8 F t (.tup [kV p.1,p.2])) (t8 H t (.tup [kV p.1,p.2])):=Ext.lay so.e.fh hn
  have up:n0 F1 (t8 F t (.tup [kV p.1,p.2])):=s.trans xl.f
  have rk:E7 K (t8 F t (.tup [kV p.1,p.2])) (kP p.1) (kV p.1):=by cases p.1<;>rfl
  refine T F0 H0 _ _ σ ρ ρ1 _ (.ref t) _ (so.ext xl) (show E7 K (t8 F t (.tup [kV p.1,p.2])) (.tuple [kP p.1,q]) (.ref t) from⟨t,[kV p.1,p.2],rfl,TqT.of j1,⟨_,_,rfl,rk,⟨_,_,rfl,E7.mono up _ rq,rfl⟩⟩⟩) e1 λσ' so'=>⟨F0,H0,_,ρ1,f1,so',e2, ?_⟩
  cases f1 with
  |nx ρ'=>exact λσ2 F2 H2 s2 so2=>⟨F2,ρ',up.trans s2,so2,e3⟩
  |ct ρ'=>exact λσ2 F2 H2 s2 so2=>⟨F2,ρ',up.trans s2,so2,e3⟩
  |bk ρ'=>cases e3;exact λσ2 F2 H2 s2 so2=>fin σ2 F2 H2 (up.trans s2) so2
  |rt r=>cases e3;exact fin
 ·have ei:i=ys.length:=by lia
  refine .inl ⟨⟨sq,ei⟩, ?_⟩
  rw [ei,<-hl] at pv
  exact a1b fin pv
def b38(m:M)(tg:PV->b7->Υ b7)(body:MS):MS:=λρ=>(m ρ).bind λr=>match r with
 | .ow (.txt kvs)=>y0 body tg (itP kvs) ρ
 |_=>ζ
def b9B(i:Nat)(tg:PV->b7->Υ b7)(body:MS):MS:=λρ=>(tvw i ρ).bind λkvs=>if(kvs.all λe=>a68 e.2)=true then y0 body tg (itP kvs) (a0u ρ) else ζ
section
variable {X:Cx}
theorem b6p{e:AF}{m:M}{body:List Stmt}{g:TG}{t:PV->b7->Υ b7}{bd:MS}{apos cpos pos tpos:Pos}{elts:List AF}{x1}(hp:PassesOwn (model X.prog X.w) X.A X.env X.xe)(hc:X.calm=true)(he:EE X e m)(hg:PG X (.Tuple elts x1 tpos) g)(T:a6V X.K g t)(hb:ESs X body bd)
 (hbase:attributeBase e "items" X.env (eval e X.env)=eval e X.env:=by rfl) (hline:(apos.endLine==cpos.line)=true:=by rfl) (hs:∀x,foldedSetIterable (.Call (.Attribute e "items" apos) [] [] cpos) X.env x=pure x:=by intro _;rfl):
 ES X (.For (.Tuple elts x1 tpos) (.Call (.Attribute e "items" apos) [] [] cpos) body [] pos) (b38 m t bd):=
 L6 (b6T hp hc (b5P PySem.F.plainAttrs_dict PySem.F.slot_dict_items PySem.F.type_dict_items b4e he hbase hline) hg hb hs) λD σ H h0=>J4 h0 λF0 H0 F ρ fl so e fin=>by
  obtain⟨r,e1,e⟩:=bind_some e;split at e
  case h_2=>cases e
  rename_i kvs;refine⟨F,ρ,_,so.e,e1,λv F1 H1 o=> ?_⟩;obtain⟨a,ys,rfl,fa,ha,rl⟩:=o.rep;have fra:H a=ζ:=o.fr _ a rfl rfl;have h0:H0 a=ζ:=so.x.h.free fra;have f0:F0 a=ζ:=so.x.f.free (so.e.fh.free fra);refine⟨.inr (.inr (.inl ⟨rfl,.inl ⟨ys,ha⟩⟩)),a,ys,rfl,rfl,ha,λp hp=> ?_⟩;have hpa:a≠p:=λz=>by rw [<-z,ha] at hp;cases hp
  refine⟨p,a,ys,rfl,j1,by rw [i6 hpa];exact ha,λo' nf=> ?_⟩
  have so1:=(so.ext o.x).ext (Ext.layH (o:= .ext λh=>h.IsItemsView p a) o.x.fh hp);refine b09 T (b6q (u:=ζ) nf ⟨λ_ z=>(by rw [f0] at z;cases z),λ_ z=>(by rw [h0] at z;cases z),λ_ _=>rfl,λ_ z=>(nomatch z)⟩ (λF' s b w z=> ?_) (fin.later o.x.f)) (B1.mono (O1 fa) _ rl) j1 ⟨_,ρ,PU.n0.refl _,c0w so1 rfl (.inl fa) (λi r z=>⟨z,.inl fa⟩) (λi c z1 z2=> ?_),e⟩
  ·have hb:b≠a:=m6 z fa;rw [a4i hb];exact s _ _ (by rw [i6 hb];exact z)
  ·obtain⟨v,hv,rc⟩:=so.e.at_ i _ z1;obtain⟨b,w,e',_,q⟩:=W0.at_ (show W0 X.K F H v c from rc);rw [z2] at hv;cases hv;cases e';rw [fra] at q;cases q
theorem c08(i:Nat){x:Str}{p:Pos}{body:List Stmt}{g:TG}{t:PV->b7->Υ b7}{bd:MS}{apos cpos pos tpos:Pos}{elts:List AF}{x1}(hp:PassesOwn (model X.prog X.w) X.A X.env X.xe)(hc:X.calm=true)(hx:PE X (.Name x p) (a0o i))(hg:PG X (.Tuple elts x1 tpos) g)(T:a6V X.K g t)(hb:ESs X body bd)
 (hbase:attributeBase (.Name x p) "items" X.env (eval (.Name x p) X.env)=eval (.Name x p) X.env:=by rfl) (hline:(apos.endLine==cpos.line)=true:=by rfl) (hs:∀y,foldedSetIterable (.Call (.Attribute (.Name x p) "items" apos) [] [] cpos) X.env y=pure y:=by intro _;rfl):
 ES X (.For (.Tuple elts x1 tpos) (.Call (.Attribute (.Name x p) "items" apos) [] [] cpos) body [] pos) (b9B i t bd):=
 L6 (b6T hp hc (b5P PySem.F.plainAttrs_dict PySem.F.slot_dict_items PySem.F.type_dict_items b4e hx hbase hline) hg hb hs) λD σ H h0=>J4 h0 λF0 H0 F ρ fl so e fin=>by
  obtain⟨kvs,e1,e⟩:=bind_some e;split at e
  case isFalse=>cases e
  rename_i hf;obtain⟨a,ys,hσ,fa,rl⟩:=b3k so.e e1;have ha:=so.e.fh _ _ fa;refine⟨.ref a,hσ,.inr (.inr (.inl ⟨rfl,.inl ⟨ys,ha⟩⟩)),a,ys,rfl,rfl,ha,λp hp=> ?_⟩;have hpa:a≠p:=λz=>by rw [<-z,ha] at hp;cases hp
  refine⟨p,a,ys,rfl,j1,by rw [i6 hpa];exact ha,λo' nf=> ?_⟩
  have so1:=so.ext (Ext.layH (o:= .ext λh=>h.IsItemsView p a) so.e.fh hp);refine b09 T (b6q (u:=ξ (.dK ys)) nf ⟨λw z=> ?_,λw z=> ?_,λz1 z2=> ?_,λ_ z=>(Option.some.inj z).symm⟩ (λF' s b w z=> ?_) fin) (a9E hf rl) j1 ⟨_,a0u ρ,PU.n0.refl _,c0w so1 (by unfold a0u;rw [AT]) (.inr ⟨ys,fa⟩) (λi r z=>⟨(a0K z).1,.inr (a0K z).2⟩) (λi c z1 z2=> ?_),e⟩
  ·have:=so.x.f _ _ z;rw [fa] at this;exact this
  ·have:=so.x.h _ _ z;rw [ha] at this;exact(Option.some.inj this).symm
  ·exfalso
   cases hc:H0 a with
   |none=>exact z2 hc
   |some w=>
    have h1:=so.x.h _ _ hc;rw [ha] at h1;cases h1;have:=so.x.nw a _ z1 hc (λ_ h=>nomatch h);rw [fa] at this;cases this
  ·by_cases hb:b=a
   ·subst hb;rw [a4j];rw [fa] at z;exact z
   ·rw [a4i hb];exact s _ _ (by rw [i6 hb];exact z)
  ·obtain⟨v,hv,rc⟩:=so.e.at_ i _ z1;obtain⟨b,w,e',q,_⟩:=W0.at_ (show W0 X.K F H v c from rc);rw [z2] at hv;cases hv;cases e';rw [fa] at q;cases q
theorem b3G{T:String}{b:Bool}(hk:b44 T)(hb:a5G T (.int 0)=b):M8 X (.builtin "isinstance") (λxs H Q=>∃j,xs=[.int j,.ty T]/\Q (.bl b) H):=by
 intro pins s σ H xs us Q I rv h;obtain⟨j,rfl,q⟩:=h;obtain⟨u,u2,rfl,ru,ru2⟩:∃u1 u2,us=[u1,u2]/\u0 (.int j) u1/\u0 (.ty T) u2:=by
  cases rv with
  |cons p q=>
   cases q with
   |cons p' q'=>
    cases q';exact⟨_,_,rfl,p,p'⟩
 cases ru2;have kk:=b1j (K:=X.K) hk (.int j);have e:a5G T (.int j)=b:=hb;rw [e] at kk;obtain⟨t,rfl⟩:=ru;exact PySem.W.kia_one PySem.W.kitx_int I.kIn True.intro kk (λz=>nomatch z) λtk=>⟨.bl _,H,I.tok tk,rfl,q⟩
theorem c0L{K:AE}{F:Hp}{kvs:Γ}{xs:List (n4×V)}(rl:B1 K F kvs (xs.map s1))(c:(kvs.all λe=>isI e.2)=true){n:Nat}{p:n4×V}(hp:xs[n]?=ξ p):∃k:Int,a1r xs p.1=ξ (.int k):=by
 obtain⟨q,e1,_⟩:=a9F rl hp;cases hv:D6 kvs [p.1] with
 |none=>
  exfalso
  unfold D6 at hv;cases hf:kvs.find? λkv=>decide (kv.1=[p.1]) with
  |none=>
   rw [List.find?_eq_none] at hf;exact hf _ (BA e1) (by simp)
  |some z=>rw [hf] at hv;cases hv
 |some z=>
  obtain⟨k',hm⟩:=a92 hv;have:=List.all_eq_true.mp c _ hm;obtain⟨u,hu,ru⟩:=(rl.val (k:=[p.1])).1 _ hv;rw [a16] at hu;cases z with
  |int k=>cases ru;exact⟨k,hu⟩
  |_=>cases this
def c3Y(i j:Nat):MS:=λρ=>match ρ[i]? with
 |some (ξ (.ow (.txt kvs)))=>if(kvs.all λe=>isI e.2)=true/\i≠j/\j<ρ.length then ξ (.nx (ρ.set j ζ)) else ζ
 |_=>ζ
theorem c3q(i j:Nat){x y:Str}{p yp p1 p2 p3 sp1 p4 cp1 np q1 q2 q3 sp2 q4 cp2 bp ip pos:Pos}{ret:List Stmt}{mr:MS}(hp:PassesOwn (model X.prog X.w) X.A X.env X.xe)(hc:X.calm=true)(hu:X.A.units+64<cLine)
 (hd:PE X (.Name x p) (a0o i)) (hg:PG X (.Name y yp) (b1b j)) (hd1:PE X (.Name x p2) (a0o i)) (hy1:PE X (.Name y p3) (a0o j)) (hd2:PE X (.Name x q2) (a0o i)) (hy2:PE X (.Name y q3) (a0o j))
 (hgi:Gl X "isinstance") (hmi:X.mg "isinstance"=ζ) (hT:PE X (.Name "int" p4) (tC (.ty "int"))) (hB:PE X (.Name "bool" q4) (tC (.ty "bool"))) (hr:ESs X ret mr)
 (he1:AL [.Subscript (.Name x p2) (.Name y p3) sp1,.Name "int" p4] X.env=(false,eval (.Subscript (.Name x p2) (.Name y p3) sp1) X.env)::AL [.Name "int" p4] X.env:=by rfl) (he2:AL [.Name "int" p4] X.env=(false,eval (.Name "int" p4) X.env)::AL [] X.env:=by rfl) (hpl:(backTo cp1 (AL [.Name "int" p4] X.env)).any (·.1)=false:=by rfl)
 (hf1:AL [.Subscript (.Name x q2) (.Name y q3) sp2,.Name "bool" q4] X.env=(false,eval (.Subscript (.Name x q2) (.Name y q3) sp2) X.env)::AL [.Name "bool" q4] X.env:=by rfl) (hf2:AL [.Name "bool" q4] X.env=(false,eval (.Name "bool" q4) X.env)::AL [] X.env:=by rfl) (hpl2:(backTo cp2 (AL [.Name "bool" q4] X.env)).any (·.1)=false:=by rfl)
 (hv:bootBuiltins "isinstance"=ξ (.builtin "isinstance"):=by rfl) (hs:∀z,foldedSetIterable (.Name x p) X.env z=pure z:=by intro _;rfl)
 (hw1:∀whole,isTrue (.Call (.Name "isinstance" p1) [.Subscript (.Name x p2) (.Name y p3) sp1,.Name "int" p4] [] cp1) X.env whole=(do let v<-whole;standAt (Expr.Call (.Name "isinstance" p1) [.Subscript (.Name x p2) (.Name y p3) sp1,.Name "int" p4] [] cp1).pos;holding [v] (truthy v)):=by intro _;rfl)
 (hw2:∀whole,isTrue (.Call (.Name "isinstance" q1) [.Subscript (.Name x q2) (.Name y q3) sp2,.Name "bool" q4] [] cp2) X.env whole=(do let v<-whole;standAt (Expr.Call (.Name "isinstance" q1) [.Subscript (.Name x q2) (.Name y q3) sp2,.Name "bool" q4] [] cp2).pos;holding [v] (truthy v)):=by intro _;rfl):
 ES X (.For (.Name y yp) (.Name x p) [.If (.BoolOp .Or [.UnaryOp .Not (.Call (.Name "isinstance" p1) [.Subscript (.Name x p2) (.Name y p3) sp1,.Name "int" p4] [] cp1) np,.Call (.Name "isinstance" q1) [.Subscript (.Name x q2) (.Name y q3) sp2,.Name "bool" q4] [] cp2] bp) ret [] ip] [] pos) (c3Y i j):=by
 have a1:=a2m (p:=p1) (pos:=cp1) (b3G (X:=X) (T:="int") (b:=true) (.inl rfl) rfl) hgi hmi hv (D8 (b23 (pos:=sp1) (by lia) hd1 hy1 (by intro _ _;rfl)) (D8 hT X5 he2) he1) (by decide) (by decide) he1 hpl
 have a2:=a2m (p:=q1) (pos:=cp2) (b3G (X:=X) (T:="bool") (b:=false) (.inr (.inl rfl)) rfl) hgi hmi hv (D8 (b23 (pos:=sp2) (by lia) hd2 hy2 (by intro _ _;rfl)) (D8 hB X5 hf2) hf1) (by decide) (by decide) hf1 hpl2
 have hb:=b6V (c2V (pos:=ip) (PW.pt (c2X (pos:=bp) (c0e (pos:=np) (c0g a1 hw1)) (c0j (c0g a2 hw2)))) hr Z8)
 intro pins s σ H D I ⟨F0,H0,F,ρ,fl,so,e,fin⟩
 unfold c3Y at e
 split at e
 case h_2=>cases e
 rename_i kvs eo
 split at e
 case isFalse=>cases e
 rename_i cnd
 obtain⟨al,hij,hjr⟩:=cnd
 cases e
 obtain⟨w,hσ,a,xs,rfl,fa,ha,rl⟩:=so.e.at_ i _ eo
 obtain⟨o,I1⟩:=l8.frzD I ha
 have h0:∀o u,X.H₀ a≠ξ (.frz o u):=λo u z=>by have:=I.base.frzs a o u z;rw [ha] at this;cases this
 have hR:=a5K (pos:=pos) hp hc (c4u hd) hg hb hs pins s σ (t8 H a (.frz o (.dK xs))) ⟨λσ' H'=>H'=t8 H a (.frz o (.dK xs))/\σ'.length=σ.length/\∀k,k≠j->σ'[k]?=σ[k]?,λ_ _=>False,λ_ _=>False,λ_ _=>False⟩ I1 ?_
 ·refine K6 hR λf s1 h1=> ?_
  cases f with
  |brk=>obtain⟨σ',H',I',z⟩:=h1;exact z.elim
  |cont=>obtain⟨σ',H',I',z⟩:=h1;exact z.elim
  |ret u=>obtain⟨v,σ',H',I',r,z⟩:=h1;exact z.elim
  |next=>
   obtain⟨σ',H',I',eH,hl,hk⟩:=h1
   subst eH
   have I2:=l8.unfrz I' j1 h0
   have eq:t8 (t8 H a (.frz o (.dK xs))) a (.dK xs)=H:=by
    funext b
    unfold t8
    by_cases h1:b=a
    ·rw [if_pos h1,h1,ha]
    ·rw [if_neg h1,if_neg h1]
   rw [eq] at I2
   have cl:∀{k:Nat} {r:d5},(ρ.set j ζ)[k]?=ξ (ξ r)->k≠j/\ρ[k]?=ξ (ξ r):=λ {k r} z=>by
    rw [List.getElem?_set] at z
    by_cases hk:j=k
    ·subst hk;rw [if_pos rfl] at z;split at z<;>cases z
    ·rw [if_neg hk] at z;exact⟨λe=>hk e.symm,z⟩
   refine⟨σ',H,I2,fin σ' F H (PU.n0.refl F) ⟨so.x,⟨so.e.fh,by rw [List.length_set,hl];exact so.e.len,λk r z=> ?_,λk c z=>so.e.nb k c (cl z).2,λk l c d b hkl z1 z2 z3 z4=> ?_⟩,λk c b z1 z2=> ?_⟩⟩
   ·obtain⟨c1,c2⟩:=cl z
    rw [hk k c1]
    exact so.e.at_ k r c2
   ·obtain⟨c1,c2⟩:=cl z1
    obtain⟨c3,c4⟩:=cl z2
    rw [hk k c1] at z3
    rw [hk l c3] at z4
    exact so.e.ap k l c d b hkl c2 c4 z3 z4
   ·obtain⟨c1,c2⟩:=cl z1
    rw [hk k c1] at z2
    exact so.nw k c b c2 z2
 ·refine⟨.ref a,hσ,a,o,xs,rfl,j1,λn m σ' H'=>m=xs.length - n/\n<=xs.length/\H'=t8 H a (.frz o (.dK xs))/\σ'.length=σ.length/\∀k,k≠j->σ'[k]?=σ[k]?,⟨xs.length,by simp,Nat.zero_le _,rfl,rfl,λ_ _=>rfl⟩, ?_⟩
  rintro n m σ' H' ⟨rfl,hn,rfl,hl,hk⟩
  by_cases hlt:n<xs.length
  ·refine .inr ⟨⟨j1,hlt⟩,λσ'' H''=>H''=t8 H a (.frz o (.dK xs))/\σ''.length=σ.length/\∀k,k≠j->σ''[k]?=σ[k]?,λσ'' H'' ⟨z1,z2,z3⟩=>⟨xs.length - (n+1),by lia,rfl,hlt,z1,z2,z3⟩,λv H'' ⟨e1,q,hq,e2⟩=> ?_⟩
   subst e1 e2
   obtain⟨kk,hv⟩:=c0L rl al hq
   have hjl:j<σ'.length:=by rw [hl,so.e.len];exact hjr
   have k2:∀k,k≠j->(σ'.set j (ξ (kV q.1)))[k]?=σ[k]?:=λk hkj=>by rw [List.getElem?_set_ne (Ne.symm hkj)];exact hk k hkj
   have g:a2q (t8 H a (.frz o (.dK xs))) a (kV q.1) (ξ (.int kk)):=by rw [<-hv];exact .inl ⟨xs,q.1,.inr ⟨o,j1⟩,rfl,rfl⟩
   have gi:(σ'.set j (ξ (kV q.1)))[i]?=ξ (ξ (.ref a)):=by rw [k2 i hij];exact hσ
   have gj:(σ'.set j (ξ (kV q.1)))[j]?=ξ (ξ (kV q.1)):=by rw [BE hjl]
   exact⟨.ref a,gi,kV q.1,gj,a,.int kk,rfl,g,kk,rfl,true,rfl,.ref a,gi,kV q.1,gj,a,.int kk,rfl,g,kk,rfl,false,rfl,rfl,by rw [List.length_set];exact hl,k2⟩
  ·exact .inl ⟨⟨j1,by lia⟩,rfl,hl,hk⟩
end
end PU
set_option maxHeartbeats 4000000
namespace LW
open L2 PU
abbrev φ(p:PV):Υ d5:=ξ (.v p)
def S7:PV:=(.int 24)
def P3:PV:=(.tuple [(.str "turn"),(.str "back"),(.str "cross"),(.str "other")])
def a55:MS:=
 (k7 (m2 y9 (m2 u4 (m2 Θ (a6 0) (m2 (F9 b7i λi j=> .int (i ^ j.toNat)) (mC (.int 10)) (mC (.int 18)))) (m2 y9 (m2 u4 (mC (.int 2)) (a6 1)) (mC (.int 3)))) (m2 u4 (a6 1) (a6 1))))
def K3:Λ:=m3 0 a55
def U7:MS:=
 (i7 (n3 7 (m2 Θ (m2 u4 (a6 0) (m2 y9 (m2 y9 (m2 u4 (mC (.int 2)) (a6 4)) (m2 u4 (mC (.int 3)) (a6 6))) (mC (.int 69621)))) (mC (.int 1000003))))
 (n3 5 (m2 y9 (a6 5) (m2 j7 (a6 2) (m2 Θ (a6 7) (m1 P8 (a6 2)))))))
def U8:MS:=
 (i7 (n3 5 (mC (.str "")))
 (i7 (M7 (M1 (a4 (a6 3) b5)) (j3 6) U7)
 (O7 1 (a6 5))))
def a3B:MS:=
 (i7 (n3 1 (L5 b5))
 (i7 (n3 2 (R9 (mC (.str "abcdefghijklmnopqrstuvwxyz")) X4 (V4 (m2 j7 (L5 (a4 (mC (.int 2)) (a4 (mC (.int 4)) (a4 (mC (.int 26)) b5)))) (m2 Θ (a6 0) (mC (.int 3)))))))
 (i7 (n3 3 (m2 y9 (mC (.int 1)) (m2 Θ (m2 Θ (m2 u4 (a6 0) (mC (.int 16807))) (mC (.int 999979))) (mC (.int 3)))))
 (i7 (M7 (M1 (a4 (m2 y9 (mC (.int 1)) (m2 Θ (m2 Θ (m2 u4 (a6 0) (mC (.int 48271))) (mC (.int 999983))) (mC (.int 3)))) b5)) (j3 4) U8)
 (k7 (r9 (a4 (mC (.str "plain")) (a4 (m1 a2J (a6 1)) b5))))))))
def a1B:Λ:=m3 7 a3B
def a0R:MS:=
 (i7 (o9 (P7 (u5 (m2 gNe (a6 1) (L5 b5))) (u5 (m2 a6j (m2 Θ (m2 Θ (m2 u4 (a6 0) (mC (.int 40692))) (mC (.int 999961))) (mC (.int 5))) (mC (.int 3))))) (k7 (r9 (a4 (mC (.str "name")) (a4 (m2 j7 (a6 1) (m2 Θ (m2 Θ (m2 u4 (a6 0) (mC (.int 39373))) (mC (.int 999953))) (m1 P8 (a6 1)))) b5)))) l0)
 (k7 (j2 a1B (a4 (a6 0) b5))))
def a03:Λ:=m3 0 a0R
def a8D:MS:=
 (i7 (n3 3 (m2 Θ (m2 Θ (m2 u4 (a6 0) (mC (.int 62089911))) (mC (.int 999931))) (mC (.int 9))))
 (i7 (n3 4 (m2 y9 (mC (.int 1)) (m2 Θ (m2 Θ (m2 u4 (a6 0) (mC (.int 742938285))) (mC (.int 999959))) (m2 j7 (L5 (a4 (mC (.int 4)) (a4 (mC (.int 24)) b5))) (m1 b87 (m2 D4 (m2 Θ (a6 0) (mC (.int 7))) (mC (.int 1))))))))
 (i7 (n3 5 (mC (.str "abcdefghijklmnopqrstuvwxyz")))
 (i7 (o9 (u5 (m2 D4 (a6 3) (mC (.int 0)))) (i7 (n3 6 (L5 (a4 (mC (.str "turn")) (a4 (mC (.str "half")) (a4 (mC (.str "back")) (a4 (mC (.str "side")) (a4 (mC (.str "flip")) (a4 (mC (.str "cross")) (a4 (mC (.str "other")) b5)))))))))
 (k7 (r9 (a4 (mC (.str "turned")) (a4 (m2 j7 (a6 6) (m2 Θ (a6 0) (mC (.int 7)))) (a4 (a6 1) b5)))))) l0)
 (i7 (o9 (u5 (m2 D4 (a6 3) (mC (.int 1)))) (k7 (r9 (a4 (mC (.str "dye")) (a4 (m2 j7 (a6 5) (m2 Θ (a6 0) (mC (.int 4)))) (a4 (m2 j7 (a6 5) (m2 Θ (m2 Ω (a6 0) (mC (.int 4))) (mC (.int 26)))) (a4 (a6 1) b5)))))) l0)
 (i7 (o9 (u5 (m2 D4 (a6 3) (mC (.int 2)))) (k7 (r9 (a4 (mC (.str "across")) (a4 (a6 4) (a4 (a6 1) b5))))) l0)
 (i7 (o9 (u5 (m2 D4 (a6 3) (mC (.int 3)))) (k7 (r9 (a4 (mC (.str "down")) (a4 (a6 4) (a4 (a6 1) b5))))) l0)
 (i7 (o9 (u5 (m2 D4 (a6 3) (mC (.int 4)))) (k7 (r9 (a4 (mC (.str "beside")) (a4 (L5 (a4 (a6 1) (a4 (a6 2) b5))) b5)))) l0)
 (i7 (o9 (u5 (m2 D4 (a6 3) (mC (.int 5)))) (k7 (r9 (a4 (mC (.str "above")) (a4 (L5 (a4 (a6 1) (a4 (a6 2) b5))) b5)))) l0)
 (i7 (o9 (u5 (m2 D4 (a6 3) (mC (.int 6)))) (k7 (r9 (a4 (mC (.str "beside")) (a4 (L5 (a4 (a6 1) (a4 (r9 (a4 (mC (.str "turned")) (a4 (mC (.str "side")) (a4 (a6 1) b5)))) b5))) b5)))) l0)
 (i7 (o9 (u5 (m2 D4 (a6 3) (mC (.int 7)))) (k7 (r9 (a4 (mC (.str "above")) (a4 (L5 (a4 (a6 1) (a4 (r9 (a4 (mC (.str "turned")) (a4 (mC (.str "flip")) (a4 (a6 1) b5)))) (a4 (a6 1) b5)))) b5)))) l0)
 (k7 (r9 (a4 (mC (.str "beside")) (a4 (R9 (m2 u4 (L5 (a4 (a6 2) (a4 (a6 1) b5))) (mC (.int 3))) X4 (V4 (m2 y9 (mC (.int 2)) (m2 Θ (a6 0) (mC (.int 5)))))) b5)))))))))))))))
def X0:Λ:=m3 4 a8D
def o8:MS:=
 (i7 (o9 (u5 (m2 D4 (a6 0) (mC (.str "beside")))) (i7 (o9 (u5 (m2 gNe (m2 j7 (a6 3) (mC (.int 0))) (m2 j7 (a6 2) (mC (.int 0))))) (k7 (r9 (a4 (mC (.str "misfit")) (a4 (mC (.str "")) b5)))) l0)
 (n3 2 (r9 (a4 (m2 j7 (a6 2) (mC (.int 0))) (a4 (m2 y9 (m2 j7 (a6 2) (mC (.int 1))) (m2 j7 (a6 3) (mC (.int 1)))) b5))))) (i7 (o9 (u5 (m2 gNe (m2 j7 (a6 3) (mC (.int 1))) (m2 j7 (a6 2) (mC (.int 1))))) (k7 (r9 (a4 (mC (.str "misfit")) (a4 (mC (.str "")) b5)))) l0)
 (n3 2 (r9 (a4 (m2 y9 (m2 j7 (a6 2) (mC (.int 0))) (m2 j7 (a6 3) (mC (.int 0)))) (a4 (m2 j7 (a6 2) (mC (.int 1))) b5))))))
 (o9 (u5 (m2 (gI λi j=> .bool (decide (j<i))) (m1 a2f (a6 2)) (mC (.int 24)))) (k7 (r9 (a4 (mC (.str "wide")) (a4 (mC (.str "")) b5)))) l0))
def a5t:MS:=
 (i7 (n3 2 (m2 j7 (a6 1) (mC (.int 0))))
 (i7 (M7 (X3 (R9 (a6 1) (V4 (mC (.int 1))) X4)) (j3 3) o8)
 (J8 2)))
def a2L:Λ:=m3 2 a5t
def Z5(J9:Λ):M:=
 (j2 J9 (a4 (a6 6) (a4 (a6 1) b5)))
def a10(J9:Λ):M:=
 (a6 6)
def a0U(J9:Λ):MS:=
 (i7 (n3 2 (m2 j7 (a6 0) (mC (.int 0))))
 (i7 (o9 (u5 (m2 D4 (a6 2) (mC (.str "plain")))) (k7 (r9 (a4 (m1 P8 (m2 j7 (a6 0) (mC (.int 1)))) (a4 (m1 P8 (m2 j7 (m2 j7 (a6 0) (mC (.int 1))) (mC (.int 0)))) b5)))) l0)
 (i7 (o9 (u5 (m2 D4 (a6 2) (mC (.str "name")))) (k7 (a8m 1 (m2 j7 (a6 0) (mC (.int 1))) (r9 (a4 (mC (.str "name")) (a4 (m2 j7 (a6 0) (mC (.int 1))) b5))))) l0)
 (i7 (o9 (a0m (u5 (m2 D4 (a6 2) (mC (.str "beside")))) (u5 (m2 D4 (a6 2) (mC (.str "above"))))) (i7 (n3 3 (P6 1 (A8 (m2 j7 (a6 0) (mC (.int 1)))) (j3 6) a0l (Z5 J9)))
 (i7 (n3 4 (P6 1 (A8 (a6 3)) (j3 6) (mtV (m1 (a3p "str") (m2 j7 (a6 6) (mC (.int 0))))) (a10 J9)))
 (i7 (o9 (u5 (m2 gNe (a6 4) (L5 b5))) (k7 (m2 j7 (a6 4) (mC (.int 0)))) l0)
 (b0u 3 (k7 (j2 a2L (a4 (a6 2) (a4 (a6 3) b5)))))))) l0)
 (i7 (n3 5 (j2 J9 (a4 (m2 j7 (a6 0) (R8 (mC (.int 1)))) (a4 (a6 1) b5))))
 (i7 (o9 (a0m (mtV (m1 (a3p "str") (m2 j7 (a6 5) (mC (.int 0))))) (u5 (m2 D4 (a6 2) (mC (.str "dye"))))) (J8 5) l0)
 (i7 (o9 (u5 (m2 D4 (a6 2) (mC (.str "turned")))) (i7 (o9 (u5 (m2 (b0n false) (m2 j7 (a6 0) (mC (.int 1))) (L5 (a4 (mC (.str "turn")) (a4 (mC (.str "back")) (a4 (mC (.str "cross")) (a4 (mC (.str "other")) b5))))))) (k7 (r9 (a4 (m2 j7 (a6 5) (mC (.int 1))) (a4 (m2 j7 (a6 5) (mC (.int 0))) b5)))) l0)
 (J8 5)) l0)
 (i7 (o9 (u5 (m2 D4 (a6 2) (mC (.str "across")))) (n3 5 (r9 (a4 (m2 j7 (a6 5) (mC (.int 0))) (a4 (m2 u4 (m2 j7 (a6 5) (mC (.int 1))) (m2 j7 (a6 0) (mC (.int 1)))) b5)))) (n3 5 (r9 (a4 (m2 u4 (m2 j7 (a6 5) (mC (.int 0))) (m2 j7 (a6 0) (mC (.int 1)))) (a4 (m2 j7 (a6 5) (mC (.int 1))) b5)))))
 (i7 (o9 (u5 (m2 (gI λi j=> .bool (decide (j<i))) (m1 a2f (a6 5)) (mC (.int 24)))) (k7 (r9 (a4 (mC (.str "wide")) (a4 (mC (.str "")) b5)))) l0)
 (J8 5))))))))))
def a7V:Nat->(Λ)
 |0=>(m3 4 (λ_=>ζ))
 |n+1=>(m3 4 (a0U ((a7V n))))
def a30(n:Nat):Λ:=(a7V n)
def C5:Λ:=a30 12
def Z6(K0:Λ):M:=
 (j2 K0 (a4 (a6 2) b5))
def a0V(K0:Λ):MS:=
 (i7 (n3 1 (m2 j7 (a6 0) (mC (.int 0))))
 (i7 (o9 (u5 (m2 D4 (a6 1) (mC (.str "plain")))) (k7 (m2 y9 (m2 y9 (mC (.str "[")) (m2 W1 (mC (.str "/")) (m2 j7 (a6 0) (mC (.int 1))))) (mC (.str "]")))) l0)
 (i7 (o9 (u5 (m2 D4 (a6 1) (mC (.str "name")))) (k7 (m2 j7 (a6 0) (mC (.int 1)))) l0)
 (i7 (o9 (a0m (u5 (m2 D4 (a6 1) (mC (.str "beside")))) (u5 (m2 D4 (a6 1) (mC (.str "above"))))) (k7 (m2 y9 (m2 y9 (m2 y9 (a6 1) (mC (.str "("))) (m2 W1 (mC (.str ", ")) (P6 1 (A8 (m2 j7 (a6 0) (mC (.int 1)))) (j3 2) a0l (Z6 K0)))) (mC (.str ")")))) l0)
 (i7 (o9 (a0m (u5 (m2 D4 (a6 1) (mC (.str "across")))) (u5 (m2 D4 (a6 1) (mC (.str "down"))))) (k7 (m2 y9 (m2 y9 (m2 y9 (m2 y9 (m2 y9 (a6 1) (mC (.str "("))) (m1 b7H (m2 j7 (a6 0) (mC (.int 1))))) (mC (.str ", "))) (j2 K0 (a4 (m2 j7 (a6 0) (mC (.int 2))) b5))) (mC (.str ")")))) l0)
 (i7 (o9 (u5 (m2 D4 (a6 1) (mC (.str "turned")))) (k7 (m2 y9 (m2 y9 (m2 y9 (m2 j7 (a6 0) (mC (.int 1))) (mC (.str "("))) (j2 K0 (a4 (m2 j7 (a6 0) (mC (.int 2))) b5))) (mC (.str ")")))) l0)
 (k7 (m2 y9 (m2 y9 (m2 y9 (m2 y9 (m2 y9 (m2 y9 (mC (.str "dye(")) (m2 j7 (a6 0) (mC (.int 1)))) (mC (.str ", "))) (m2 j7 (a6 0) (mC (.int 2)))) (mC (.str ", "))) (j2 K0 (a4 (m2 j7 (a6 0) (mC (.int 3))) b5))) (mC (.str ")"))))))))))
def a7W:Nat->(Λ)
 |0=>(m3 1 (λ_=>ζ))
 |n+1=>(m3 1 (a0V ((a7W n))))
def a31(n:Nat):Λ:=(a7W n)
def X1:Λ:=a31 12
def O0:MS:=
 (i7 (n3 6 (m2 Θ (m2 u4 (a6 0) (m2 y9 (m2 u4 (mC (.int 2)) (a6 5)) (mC (.int 39373)))) (mC (.int 2147483629))))
 (i7 (n3 7 (j2 X0 (a4 (a6 6) (a4 (a6 4) (a4 (j2 a03 (a4 (m2 y9 (m2 u4 (a6 6) (mC (.int 7))) (mC (.int 1))) (a4 (a6 2) b5))) b5)))))
 (i7 (n3 8 (j2 C5 (a4 (a6 7) (a4 (a6 1) b5))))
 (i7 (n3 9 (c1x (b9D (m1 (a3p "str") (m2 j7 (a6 8) (mC (.int 0))))) (m2 c1h (m1 a2f (a6 8)) (a6 3))))
 (o9 (P7 (a0m (mtV (a6 9)) (u5 (m2 D4 (a6 3) (mC (.int 0))))) (u5 (m2 a6j (m1 P8 (j2 X1 (a4 (a6 7) b5))) (mC (.int 381))))) (n3 4 (a6 7)) l0)))))
def a3A:MS:=
 (i7 (n3 4 (j2 a03 (a4 (a6 0) (a4 (a6 2) b5))))
 (i7 (o9 (P7 (u5 (m2 (gI λi j=> .bool (decide (j<i))) (a6 3) (mC (.int 0)))) (mtV (m1 (a3p "str") (m2 j7 (j2 C5 (a4 (a6 4) (a4 (a6 1) b5))) (mC (.int 0)))))) (n3 4 (j2 a1B (a4 (a6 0) b5))) l0)
 (i7 (M7 (M1 (a4 (m2 Θ (m2 Θ (m2 u4 (a6 0) (mC (.int 69621))) (mC (.int 1000003))) (mC (.int 4))) b5)) (j3 5) O0)
 (J8 4))))
def N8:Λ:=m3 6 a3A
def b0e:MS:=
 (i7 (o9 (u5 (m2 a6j (a6 1) (m1 P8 (a6 0)))) (k7 (m2 j7 (a6 0) (a6 1))) l0)
 (k7 (mC (.int 0))))
def K8:Λ:=m3 0 b0e
def b3y:MS:=
 (k7 (L5 (a4 (mC (.str "k")) (a4 (mC (.str "stay")) (a4 (mC (.str "let")) (a4 (mC (.str "knots")) (a4 (mC (.str "zz")) b5)))))))
def a1A:Λ:=m3 0 b3y
def r6:MS:=
 (i7 (n3 7 (V1 C5 5 (a6 0)))
 (i7 (o9 (a0m (mtV (m1 (a3p "str") (m2 j7 (a6 7) (mC (.int 0))))) (u5 (m2 (gI λi j=> .bool (decide (j<i))) (m1 a2f (a6 7)) (a6 4)))) (k7 (mC .none)) l0)
 (V3 5 (a6 1) (a6 7))))
def G8:MS:=
 (i7 (n3 5 (m1 a3S (a6 3)))
 (i7 (M7 (M1 (a4 (a6 2) b5)) (j3 6) r6)
 (J8 5)))
def B5:Λ:=m3 3 G8
def J0:MS:=
 (i7 (n3 6 (j2 K3 (a4 (m2 j7 (a6 0) (a6 5)) (a4 (a6 5) b5))))
 (i7 (n3 7 (m2 j7 (λ_=>a1A []) (m2 Θ (m2 Θ (m2 u4 (a6 6) (mC (.int 950706376))) (mC (.int 999917))) (mC (.int 5)))))
 (i7 (n3 8 (R7 3 (j2 N8 (a4 (a6 6) (a4 (a6 3) (a4 (m1 a2I (a6 3)) (a4 (a6 2) b5)))))))
 (i7 (n3 9 (m2 y9 (mC (.int 1)) (m2 Θ (m2 Θ (m2 u4 (a6 6) (mC (.int 742938285))) (mC (.int 999959))) (mC (.int 3)))))
 (i7 (n3 10 (mC .none))
 (i7 (o9 (P7 (u5 (m2 D4 (m2 Θ (a6 6) (mC (.int 4))) (mC (.int 1)))) (u5 (b0v false 3 (a6 7)))) (n3 10 (R7 3 (j2 B5 (a4 (a6 8) (a4 (a6 7) (a4 (a6 9) (a4 (a6 3) (a4 (a6 2) b5)))))))) l0)
 (o9 (u5 (m2 (c1e false) (a6 10) (mC .none))) (i7 (O7 4 (r9 (a4 (mC (.str "let")) (a4 (a6 7) (a4 (a6 8) b5)))))
 (V3 3 (a6 7) (V1 C5 3 (a6 8)))) (i7 (O7 4 (r9 (a4 (mC (.str "again")) (a4 (a6 9) (a4 (a6 7) (a4 (a6 8) b5))))))
 (b1p 3 10)))))))))
def a1S:MS:=
 (i7 (n3 3 b2D)
 (i7 (n3 4 (L5 b5))
 (i7 (M7 (b6L (a4 (mC (.int 1)) (a4 (m2 (gI λi j=> .int (if j<i then j else i)) (m1 P8 (a6 0)) (a6 1)) b5))) (j3 5) J0)
 (i7 (n3 6 (j2 K3 (a4 (j2 K8 (a4 (a6 0) (a4 (mC (.int 0)) b5))) (a4 (mC (.int 5)) b5))))
 (k7 (m2 y9 (a6 4) (L5 (a4 (r9 (a4 (mC (.str "knot")) (a4 (R7 3 (j2 N8 (a4 (a6 6) (a4 (a6 3) (a4 (m1 a2I (a6 3)) (a4 (a6 2) b5)))))) b5))) b5))))))))
def Z2:Λ:=m3 8 a1S
def b0s(B4:Λ):M:=
 (j2 B4 (a4 (a6 2) b5))
def b0t(B4:Λ):M:=
 (j2 B4 (a4 (a6 2) b5))
def a0S(B4:Λ):MS:=
 (i7 (n3 1 (m2 j7 (a6 0) (mC (.int 0))))
 (i7 (o9 (u5 (m2 D4 (a6 1) (mC (.str "plain")))) (k7 (a5H "Plain" ["rows"] (a4 (m2 j7 (a6 0) (mC (.int 1))) b5))) l0)
 (i7 (o9 (u5 (m2 D4 (a6 1) (mC (.str "name")))) (k7 (a5H "Named" ["name"] (a4 (m2 j7 (a6 0) (mC (.int 1))) b5))) l0)
 (i7 (o9 (u5 (m2 D4 (a6 1) (mC (.str "beside")))) (k7 (a5H "Beside" ["parts"] (a4 (m1 a2J (P6 1 (A8 (m2 j7 (a6 0) (mC (.int 1)))) (j3 2) a0l (b0s B4))) b5))) l0)
 (i7 (o9 (u5 (m2 D4 (a6 1) (mC (.str "above")))) (k7 (a5H "Above" ["parts"] (a4 (m1 a2J (P6 1 (A8 (m2 j7 (a6 0) (mC (.int 1)))) (j3 2) a0l (b0t B4))) b5))) l0)
 (i7 (o9 (u5 (m2 D4 (a6 1) (mC (.str "across")))) (k7 (a5H "Across" ["many","part"] (a4 (m2 j7 (a6 0) (mC (.int 1))) (a4 (j2 B4 (a4 (m2 j7 (a6 0) (mC (.int 2))) b5)) b5)))) l0)
 (i7 (o9 (u5 (m2 D4 (a6 1) (mC (.str "down")))) (k7 (a5H "Down" ["many","part"] (a4 (m2 j7 (a6 0) (mC (.int 1))) (a4 (j2 B4 (a4 (m2 j7 (a6 0) (mC (.int 2))) b5)) b5)))) l0)
 (i7 (o9 (u5 (m2 D4 (a6 1) (mC (.str "turned")))) (k7 (a5H "Turned" ["way","part"] (a4 (m2 j7 (a6 0) (mC (.int 1))) (a4 (j2 B4 (a4 (m2 j7 (a6 0) (mC (.int 2))) b5)) b5)))) l0)
 (k7 (a5H "Dyed" ["one","other","part"] (a4 (m2 j7 (a6 0) (mC (.int 1))) (a4 (m2 j7 (a6 0) (mC (.int 2))) (a4 (j2 B4 (a4 (m2 j7 (a6 0) (mC (.int 3))) b5)) b5)))))))))))))
def a7T:Nat->(Λ)
 |0=>(m3 1 (λ_=>ζ))
 |n+1=>(m3 1 (a0S ((a7T n))))
def a3Y(n:Nat):Λ:=(a7T n)
def D5:Λ:=a3Y 12
def z5:MS:=
 (O7 1 (m2 y9 (R9 (a6 2) X4 (V4 (R8 (mC (.int 1))))) (r9 (a4 (j2 D5 (a4 (m2 j7 (a6 2) (R8 (mC (.int 1)))) b5)) b5))))
def a3y:MS:=
 (i7 (n3 1 (L5 b5))
 (i7 (M7 (X3 (a6 0)) (j3 2) z5)
 (J8 1)))
def a3W:Λ:=m3 2 a3y
def a5u:MS:=
 (i7 (o9 (u5 (m2 D4 (m2 j7 (a6 0) (mC (.int 0))) (mC (.str "again")))) (k7 (m2 j7 (a6 0) (mC (.int 1)))) l0)
 (k7 (mC (.int 1))))
def a04:Λ:=m3 0 a5u
def b7m:MS:=
 (k7 (r9 (a4 (m1 P8 (a6 0)) (a4 (m1 P8 (m2 j7 (a6 0) (mC (.int 0)))) b5))))
def a66:Λ:=m3 0 b7m
def b11:MS:=
 (k7 (j2 a66 (a4 (m1 (D9 ["Plain"] "rows") (a6 0)) b5)))
def x9:Λ:=m3 0 b11
def a2w:MS:=
 (i7 (o9 (u5 (b39 true 1 (m1 (D9 ["Named"] "name") (a6 0)))) a7e l0)
 (k7 (a2S 1 (m1 (D9 ["Named"] "name") (a6 0)))))
def x8:Λ:=m3 0 a2w
def a0O:MS:=
 (i7 (o9 (a0m (u5 (m2 (gI λi j=> .bool (decide (j<i))) (a6 0) (mC S7))) (u5 (m2 (gI λi j=> .bool (decide (j<i))) (a6 1) (mC S7)))) a7e l0)
 (k7 (r9 (a4 (a6 0) (a4 (a6 1) b5)))))
def I0:Λ:=m3 0 a0O
def a2y:MS:=
 (i7 (o9 (u5 (m2 gNe (m2 j7 (a6 0) (mC (.int 1))) (m2 j7 (a6 1) (mC (.int 1))))) a7e l0)
 (k7 (j2 I0 (a4 (m2 y9 (m2 j7 (a6 0) (mC (.int 0))) (m2 j7 (a6 1) (mC (.int 0)))) (a4 (m2 j7 (a6 0) (mC (.int 1))) (a4 (a6 2) b5))))))
def a0G:Λ:=m3 0 a2y
def a1T:MS:=
 (i7 (o9 (u5 (m2 gNe (m2 j7 (a6 0) (mC (.int 0))) (m2 j7 (a6 1) (mC (.int 0))))) a7e l0)
 (k7 (j2 I0 (a4 (m2 j7 (a6 0) (mC (.int 0))) (a4 (m2 y9 (m2 j7 (a6 0) (mC (.int 1))) (m2 j7 (a6 1) (mC (.int 1)))) (a4 (a6 2) b5))))))
def Z3:Λ:=m3 0 a1T
def a54(i4 g7 g8 i9 j0 g9 Zab:Λ):MS:=
 (k7 (j2 Zab (a4 (m1 (D9 ["Beside","Above"] "parts") (a6 0)) (a4 (a6 1) (a4 (a6 2) (a4 (mC (a2d "size_above")) b5))))))
def Y9(i4 g7 g8 i9 j0 g9 Zab:Λ):MS:=
 (i7 (n3 3 (V2 [("Plain",x9),("Named",x8),("Beside",g8),("Above",i4),("Across",g7),("Down",i9),("Turned",g9),("Dyed",j0)] "size" (m1 (D9 ["Across","Down","Turned","Dyed"] "part") (a6 0)) (a4 (a6 1) (a4 (a6 2) b5))))
 (k7 (j2 I0 (a4 (m2 j7 (a6 3) (mC (.int 0))) (a4 (m2 u4 (m2 j7 (a6 3) (mC (.int 1))) (m1 (D9 ["Across","Down"] "many") (a6 0))) (a4 (a6 2) b5))))))
def a41(i4 g7 g8 i9 j0 g9 Zab:Λ):MS:=
 (k7 (j2 Zab (a4 (m1 (D9 ["Beside","Above"] "parts") (a6 0)) (a4 (a6 1) (a4 (a6 2) (a4 (mC (a2d "size_beside")) b5))))))
def a1w(i4 g7 g8 i9 j0 g9 Zab:Λ):MS:=
 (i7 (n3 3 (V2 [("Plain",x9),("Named",x8),("Beside",g8),("Above",i4),("Across",g7),("Down",i9),("Turned",g9),("Dyed",j0)] "size" (m1 (D9 ["Across","Down","Turned","Dyed"] "part") (a6 0)) (a4 (a6 1) (a4 (a6 2) b5))))
 (k7 (j2 I0 (a4 (m2 u4 (m2 j7 (a6 3) (mC (.int 0))) (m1 (D9 ["Across","Down"] "many") (a6 0))) (a4 (m2 j7 (a6 3) (mC (.int 1))) (a4 (a6 2) b5))))))
def a7D(i4 g7 g8 i9 j0 g9 Zab:Λ):MS:=
 (k7 (V2 [("Plain",x9),("Named",x8),("Beside",g8),("Above",i4),("Across",g7),("Down",i9),("Turned",g9),("Dyed",j0)] "size" (m1 (D9 ["Across","Down","Turned","Dyed"] "part") (a6 0)) (a4 (a6 1) (a4 (a6 2) b5))))
def Z1(i4 g7 g8 i9 j0 g9 Zab:Λ):MS:=
 (i7 (n3 3 (V2 [("Plain",x9),("Named",x8),("Beside",g8),("Above",i4),("Across",g7),("Down",i9),("Turned",g9),("Dyed",j0)] "size" (m1 (D9 ["Across","Down","Turned","Dyed"] "part") (a6 0)) (a4 (a6 1) (a4 (a6 2) b5))))
 (i7 (o9 (u5 (m2 (b0n false) (m1 (D9 ["Turned"] "way") (a6 0)) (mC P3))) (k7 (r9 (a4 (m2 j7 (a6 3) (mC (.int 1))) (a4 (m2 j7 (a6 3) (mC (.int 0))) b5)))) l0)
 (J8 3)))
def V0(i4 g7 g8 i9 j0 g9 Zab:Λ):M:=
 (V2 [("Plain",x9),("Named",x8),("Beside",g8),("Above",i4),("Across",g7),("Down",i9),("Turned",g9),("Dyed",j0)] "size" (a6 7) (a4 (a6 1) (a4 (a6 2) b5)))
def E5(i4 g7 g8 i9 j0 g9 Zab:Λ):MS:=
 (n3 5 (a38 [("size_beside",Z3),("size_above",a0G)] 3 (a4 (a6 5) (a4 (a6 6) (a4 (a6 2) b5)))))
def N1(i4 g7 g8 i9 j0 g9 Zab:Λ):MS:=
 (i7 (n3 4 (P6 1 (A8 (a6 0)) (j3 7) a0l (V0 i4 g7 g8 i9 j0 g9 Zab)))
 (i7 (n3 5 (m2 j7 (a6 4) (mC (.int 0))))
 (i7 (M7 (X3 (R9 (a6 4) (V4 (mC (.int 1))) X4)) (j3 6) (E5 i4 g7 g8 i9 j0 g9 Zab))
 (J8 5))))
def b9:Nat->(Λ)×(Λ)×(Λ)×(Λ)×(Λ)×(Λ)×(Λ)
 |0=>(m3 0 (λ_=>ζ),m3 1 (λ_=>ζ),m3 0 (λ_=>ζ),m3 1 (λ_=>ζ),m3 0 (λ_=>ζ),m3 1 (λ_=>ζ),m3 3 (λ_=>ζ))
 |n+1=>(m3 0 (a54 ((b9 n).1) ((b9 n).2.1) ((b9 n).2.2.1) ((b9 n).2.2.2.1) ((b9 n).2.2.2.2.1) ((b9 n).2.2.2.2.2.1) ((b9 n).2.2.2.2.2.2)),m3 1 (Y9 ((b9 n).1) ((b9 n).2.1) ((b9 n).2.2.1) ((b9 n).2.2.2.1) ((b9 n).2.2.2.2.1) ((b9 n).2.2.2.2.2.1) ((b9 n).2.2.2.2.2.2)),m3 0 (a41 ((b9 n).1) ((b9 n).2.1) ((b9 n).2.2.1) ((b9 n).2.2.2.1) ((b9 n).2.2.2.2.1) ((b9 n).2.2.2.2.2.1) ((b9 n).2.2.2.2.2.2)),m3 1 (a1w ((b9 n).1) ((b9 n).2.1) ((b9 n).2.2.1) ((b9 n).2.2.2.1) ((b9 n).2.2.2.2.1) ((b9 n).2.2.2.2.2.1) ((b9 n).2.2.2.2.2.2)),m3 0 (a7D ((b9 n).1) ((b9 n).2.1) ((b9 n).2.2.1) ((b9 n).2.2.2.1) ((b9 n).2.2.2.2.1) ((b9 n).2.2.2.2.2.1) ((b9 n).2.2.2.2.2.2)),m3 1 (Z1 ((b9 n).1) ((b9 n).2.1) ((b9 n).2.2.1) ((b9 n).2.2.2.1) ((b9 n).2.2.2.2.1) ((b9 n).2.2.2.2.2.1) ((b9 n).2.2.2.2.2.2)),m3 3 (N1 ((b9 n).1) ((b9 n).2.1) ((b9 n).2.2.1) ((b9 n).2.2.2.1) ((b9 n).2.2.2.2.1) ((b9 n).2.2.2.2.2.1) ((b9 n).2.2.2.2.2.2)))
def a1W(n:Nat):Λ:=(b9 n).1
def a6l:Λ:=a1W 20
def a05(n:Nat):Λ:=(b9 n).2.1
def a47:Λ:=a05 20
def a06(n:Nat):Λ:=(b9 n).2.2.1
def a48:Λ:=a06 20
def a2N(n:Nat):Λ:=(b9 n).2.2.2.1
def a7H:Λ:=a2N 20
def a2O(n:Nat):Λ:=(b9 n).2.2.2.2.1
def a7I:Λ:=a2O 20
def a07(n:Nat):Λ:=(b9 n).2.2.2.2.2.1
def a5b:Λ:=a07 20
def a0t(n:Nat):Λ:=(b9 n).2.2.2.2.2.2
def b3z:MS:=
 (k7 (V2 [("Plain",x9),("Named",x8),("Beside",a48),("Above",a6l),("Across",a47),("Down",a7H),("Turned",a5b),("Dyed",a7I)] "size" (a6 0) (a4 (a6 1) (a4 (a6 2) b5))))
def N9:Λ:=m3 0 b3z
def b12:MS:=
 (k7 (m1 a2g (m2 W1 (mC (.str "")) (a6 0))))
def a2K:Λ:=m3 0 b12
def A5:MS:=
 (V3 2 (a6 3) (m2 a65 (a6 1) (a6 3)))
def T3:MS:=
 (i7 (n3 1 (m2 W1 (mC (.str "")) (a6 0)))
 (i7 (n3 2 b2D)
 (i7 (M7 (X3 (j2 a2K (a4 (a6 0) b5))) (j3 3) A5)
 (J8 2))))
def U1:Λ:=m3 3 T3
def a8C:MS:=
 (k7 (j2 U1 (a4 (m1 (D9 ["Plain"] "rows") (a6 0)) b5)))
def u8:Λ:=m3 0 a8C
def a8B:MS:=
 (k7 (m1 a3S (a2S 1 (m1 (D9 ["Named"] "name") (a6 0)))))
def u7:Λ:=m3 0 a8B
def U6:MS:=
 (V3 2 (a6 3) (m2 u4 (a6 4) (a6 1)))
def a0P:MS:=
 (i7 (n3 2 b2D)
 (i7 (b9B 0 (a5n [3,4]) U6)
 (J8 2)))
def T9:Λ:=m3 3 a0P
def a7E:MS:=
 (i7 (o9 (u5 (m2 D4 (a6 0) (a6 1))) (J8 2) l0)
 (i7 (o9 (u5 (m2 D4 (a6 0) (a6 2))) (J8 1) l0)
 (J8 0)))
def a1z:Λ:=m3 0 a7E
def a3w(d7 c7 c8 f9 g5 c9 Zaa:Λ):MS:=
 (k7 (j2 Zaa (a4 (m1 (D9 ["Beside","Above"] "parts") (a6 0)) (a4 (a6 1) b5))))
def a3c(d7 c7 c8 f9 g5 c9 Zaa:Λ):MS:=
 (k7 (j2 T9 (a4 (mFz (V2 [("Plain",u8),("Named",u7),("Beside",c8),("Above",d7),("Across",c7),("Down",f9),("Turned",c9),("Dyed",g5)] "counts" (m1 (D9 ["Across","Down","Turned","Dyed"] "part") (a6 0)) (a4 (a6 1) b5))) (a4 (m1 (D9 ["Across","Down"] "many") (a6 0)) b5))))
def a3d(d7 c7 c8 f9 g5 c9 Zaa:Λ):MS:=
 (k7 (j2 Zaa (a4 (m1 (D9 ["Beside","Above"] "parts") (a6 0)) (a4 (a6 1) b5))))
def a42(d7 c7 c8 f9 g5 c9 Zaa:Λ):MS:=
 (k7 (j2 T9 (a4 (mFz (V2 [("Plain",u8),("Named",u7),("Beside",c8),("Above",d7),("Across",c7),("Down",f9),("Turned",c9),("Dyed",g5)] "counts" (m1 (D9 ["Across","Down","Turned","Dyed"] "part") (a6 0)) (a4 (a6 1) b5))) (a4 (m1 (D9 ["Across","Down"] "many") (a6 0)) b5))))
def X2(d7 c7 c8 f9 g5 c9 Zaa:Λ):MS:=
 (V3 2 (j2 a1z (a4 (a6 3) (a4 (m1 (D9 ["Dyed"] "one") (a6 0)) (a4 (m1 (D9 ["Dyed"] "other") (a6 0)) b5)))) (a6 4))
def Z0(d7 c7 c8 f9 g5 c9 Zaa:Λ):MS:=
 (i7 (n3 2 b2D)
 (i7 (b38 (V2 [("Plain",u8),("Named",u7),("Beside",c8),("Above",d7),("Across",c7),("Down",f9),("Turned",c9),("Dyed",g5)] "counts" (m1 (D9 ["Across","Down","Turned","Dyed"] "part") (a6 0)) (a4 (a6 1) b5)) (a5n [3,4]) (X2 d7 c7 c8 f9 g5 c9 Zaa))
 (J8 2)))
def a3e(d7 c7 c8 f9 g5 c9 Zaa:Λ):MS:=
 (k7 (V2 [("Plain",u8),("Named",u7),("Beside",c8),("Above",d7),("Across",c7),("Down",f9),("Turned",c9),("Dyed",g5)] "counts" (m1 (D9 ["Across","Down","Turned","Dyed"] "part") (a6 0)) (a4 (a6 1) b5)))
def P9(d7 c7 c8 f9 g5 c9 Zaa:Λ):MS:=
 (V3 2 (a6 4) (m2 y9 (a9g 2 (a6 4) (mC (.int 0))) (a6 5)))
def C6(d7 c7 c8 f9 g5 c9 Zaa:Λ):MS:=
 (b38 (V2 [("Plain",u8),("Named",u7),("Beside",c8),("Above",d7),("Across",c7),("Down",f9),("Turned",c9),("Dyed",g5)] "counts" (a6 3) (a4 (a6 1) b5)) (a5n [4,5]) (P9 d7 c7 c8 f9 g5 c9 Zaa))
def G7(d7 c7 c8 f9 g5 c9 Zaa:Λ):MS:=
 (i7 (n3 2 b2D)
 (i7 (M7 (X3 (a6 0)) (j3 3) (C6 d7 c7 c8 f9 g5 c9 Zaa))
 (J8 2)))
def b6:Nat->(Λ)×(Λ)×(Λ)×(Λ)×(Λ)×(Λ)×(Λ)
 |0=>(m3 0 (λ_=>ζ),m3 0 (λ_=>ζ),m3 0 (λ_=>ζ),m3 0 (λ_=>ζ),m3 3 (λ_=>ζ),m3 0 (λ_=>ζ),m3 4 (λ_=>ζ))
 |n+1=>(m3 0 (a3w ((b6 n).1) ((b6 n).2.1) ((b6 n).2.2.1) ((b6 n).2.2.2.1) ((b6 n).2.2.2.2.1) ((b6 n).2.2.2.2.2.1) ((b6 n).2.2.2.2.2.2)),m3 0 (a3c ((b6 n).1) ((b6 n).2.1) ((b6 n).2.2.1) ((b6 n).2.2.2.1) ((b6 n).2.2.2.2.1) ((b6 n).2.2.2.2.2.1) ((b6 n).2.2.2.2.2.2)),m3 0 (a3d ((b6 n).1) ((b6 n).2.1) ((b6 n).2.2.1) ((b6 n).2.2.2.1) ((b6 n).2.2.2.2.1) ((b6 n).2.2.2.2.2.1) ((b6 n).2.2.2.2.2.2)),m3 0 (a42 ((b6 n).1) ((b6 n).2.1) ((b6 n).2.2.1) ((b6 n).2.2.2.1) ((b6 n).2.2.2.2.1) ((b6 n).2.2.2.2.2.1) ((b6 n).2.2.2.2.2.2)),m3 3 (Z0 ((b6 n).1) ((b6 n).2.1) ((b6 n).2.2.1) ((b6 n).2.2.2.1) ((b6 n).2.2.2.2.1) ((b6 n).2.2.2.2.2.1) ((b6 n).2.2.2.2.2.2)),m3 0 (a3e ((b6 n).1) ((b6 n).2.1) ((b6 n).2.2.1) ((b6 n).2.2.2.1) ((b6 n).2.2.2.2.1) ((b6 n).2.2.2.2.2.1) ((b6 n).2.2.2.2.2.2)),m3 4 (G7 ((b6 n).1) ((b6 n).2.1) ((b6 n).2.2.1) ((b6 n).2.2.2.1) ((b6 n).2.2.2.2.1) ((b6 n).2.2.2.2.2.1) ((b6 n).2.2.2.2.2.2)))
def R0(n:Nat):Λ:=(b6 n).1
def a3U:Λ:=R0 20
def O4(n:Nat):Λ:=(b6 n).2.1
def a3g:Λ:=O4 20
def O5(n:Nat):Λ:=(b6 n).2.2.1
def a3h:Λ:=O5 20
def U2(n:Nat):Λ:=(b6 n).2.2.2.1
def a49:Λ:=U2 20
def U3(n:Nat):Λ:=(b6 n).2.2.2.2.1
def a5a:Λ:=U3 20
def O6(n:Nat):Λ:=(b6 n).2.2.2.2.2.1
def a3i:Λ:=O6 20
def M0(n:Nat):Λ:=(b6 n).2.2.2.2.2.2
def b0d:MS:=
 (k7 (V2 [("Plain",u8),("Named",u7),("Beside",a3h),("Above",a3U),("Across",a3g),("Down",a49),("Turned",a3i),("Dyed",a5a)] "counts" (a6 0) (a4 (a6 1) b5)))
def G0:Λ:=m3 0 b0d
def w6:MS:=
 (i7 (n3 7 (mFz (R7 2 (a38 [("size_step",N9),("counts_step",G0)] 1 (a4 (m2 j7 (a6 5) (R8 (mC (.int 1)))) (a4 (a6 2) (a4 (a6 4) b5)))))))
 (i7 (O7 3 (a6 7))
 (o9 (u5 (m2 gNe (m2 j7 (a6 5) (mC (.int 0))) (mC (.str "knot")))) (V3 2 (m2 j7 (a6 5) (R8 (mC (.int 2)))) (a6 7)) l0)))
def w8:MS:=
 (i7 (o9 (P7 (u5 (m2 D4 (m2 j7 (a6 5) (mC (.int 0))) (mC (.str "again")))) (u5 (b0v true 2 (m2 j7 (a6 5) (mC (.int 2)))))) a7e l0)
 (M7 (M1 (a4 (j2 a04 (a4 (a6 5) b5)) b5)) (j3 6) w6))
def a0Q:MS:=
 (i7 (n3 2 b2D)
 (i7 (n3 3 (L5 b5))
 (i7 (M7 (c2P (a4 (a6 0) b5)) (a5n [4,5]) w8)
 (J8 3))))
def U0:Λ:=m3 6 a0Q
def c0S:MS:=
 (k7 (j2 U0 (a4 (a6 0) (a4 (mC (a2d "size_step")) b5))))
def b2m:Λ:=m3 0 c0S
def a3x:MS:=
 (i7 (c1y (j2 b2m (a4 (a6 0) b5)))
 (k7 (m2 j7 (j2 U0 (a4 (a6 0) (a4 (a6 1) b5))) (R8 (mC (.int 1))))))
def a3V:Λ:=m3 0 a3x
def b7l:MS:=
 (k7 (j2 a3V (a4 (a6 0) (a4 (mC (a2d "counts_step")) b5))))
def a2h:Λ:=m3 0 b7l
def b5d:MS:=
 (k7 (m2 j7 (L5 (a4 (mC (.int 6)) (a4 (mC (.int 9)) (a4 (mC (.int 6)) (a4 (mC (.int 12)) b5))))) (m2 Θ (m2 Ω (j2 K8 (a4 (a6 0) (a4 (mC (.int 0)) b5))) (mC (.int 3))) (mC (.int 4)))))
def a5C:Λ:=m3 0 b5d
def Z4(D1:Λ):M:=
 (j2 D1 (a4 (a6 6) (a4 (a6 1) b5)))
def a1Y(D1:Λ):M:=
 (m2 j7 (a6 6) (mC (.int 2)))
def a1Z(D1:Λ):M:=
 (m2 j7 (a6 6) (mC (.int 1)))
def a0T(D1:Λ):MS:=
 (i7 (n3 2 (m2 j7 (a6 0) (mC (.int 0))))
 (i7 (o9 (a0m (u5 (m2 D4 (a6 2) (mC (.str "plain")))) (u5 (m2 D4 (a6 2) (mC (.str "name"))))) (i7 (n3 3 (mIf (u5 (m2 D4 (a6 2) (mC (.str "name")))) (a2S 1 (m2 j7 (a6 0) (mC (.int 1)))) (m2 j7 (a6 0) (mC (.int 1)))))
 (k7 (r9 (a4 (mC (.str "plain")) (a4 (m1 P8 (a6 3)) (a4 (m1 P8 (m2 j7 (a6 3) (mC (.int 0)))) (a4 (a6 3) b5))))))) l0)
 (i7 (o9 (a0m (u5 (m2 D4 (a6 2) (mC (.str "beside")))) (u5 (m2 D4 (a6 2) (mC (.str "above"))))) (i7 (n3 4 (P6 1 (A8 (m2 j7 (a6 0) (mC (.int 1)))) (j3 6) a0l (Z4 D1)))
 (i7 (o9 (u5 (m2 D4 (a6 2) (mC (.str "beside")))) (b0u 4 (k7 (r9 (a4 (a6 2) (a4 (m2 j7 (m2 j7 (a6 4) (mC (.int 0))) (mC (.int 1))) (a4 (m1 b9d (P6 1 (A8 (a6 4)) (j3 6) a0l (a1Y D1))) (a4 (a6 4) b5))))))) l0)
 (b0u 4 (k7 (r9 (a4 (a6 2) (a4 (m1 b9d (P6 1 (A8 (a6 4)) (j3 6) a0l (a1Z D1))) (a4 (m2 j7 (m2 j7 (a6 4) (mC (.int 0))) (mC (.int 2))) (a4 (a6 4) b5))))))))) l0)
 (i7 (n3 5 (j2 D1 (a4 (m2 j7 (a6 0) (R8 (mC (.int 1)))) (a4 (a6 1) b5))))
 (i7 (o9 (u5 (m2 D4 (a6 2) (mC (.str "across")))) (k7 (r9 (a4 (a6 2) (a4 (m2 j7 (a6 5) (mC (.int 1))) (a4 (m2 u4 (m2 j7 (a6 5) (mC (.int 2))) (m2 j7 (a6 0) (mC (.int 1)))) (a4 (a6 5) b5)))))) l0)
 (i7 (o9 (u5 (m2 D4 (a6 2) (mC (.str "down")))) (k7 (r9 (a4 (a6 2) (a4 (m2 u4 (m2 j7 (a6 5) (mC (.int 1))) (m2 j7 (a6 0) (mC (.int 1)))) (a4 (m2 j7 (a6 5) (mC (.int 2))) (a4 (a6 5) b5)))))) l0)
 (i7 (o9 (u5 (m2 D4 (a6 2) (mC (.str "dye")))) (k7 (r9 (a4 (a6 2) (a4 (m2 j7 (a6 5) (mC (.int 1))) (a4 (m2 j7 (a6 5) (mC (.int 2))) (a4 (a6 5) (a4 (m2 j7 (a6 0) (mC (.int 1))) (a4 (m2 j7 (a6 0) (mC (.int 2))) b5)))))))) l0)
 (i7 (o9 (u5 (m2 (b0n false) (m2 j7 (a6 0) (mC (.int 1))) (L5 (a4 (mC (.str "turn")) (a4 (mC (.str "back")) (a4 (mC (.str "cross")) (a4 (mC (.str "other")) b5))))))) (k7 (r9 (a4 (m2 j7 (a6 0) (mC (.int 1))) (a4 (m2 j7 (a6 5) (mC (.int 2))) (a4 (m2 j7 (a6 5) (mC (.int 1))) (a4 (a6 5) b5)))))) l0)
 (k7 (r9 (a4 (m2 j7 (a6 0) (mC (.int 1))) (a4 (m2 j7 (a6 5) (mC (.int 1))) (a4 (m2 j7 (a6 5) (mC (.int 2))) (a4 (a6 5) b5))))))))))))))
def a7U:Nat->(Λ)
 |0=>(m3 4 (λ_=>ζ))
 |n+1=>(m3 4 (a0T ((a7U n))))
def a3Z(n:Nat):Λ:=(a7U n)
def a5D:Λ:=a3Z 12
def A1:MS:=
 (i7 (n3 4 (m2 (gI λi j=> .int (i - j)) (m2 j7 (a6 1) (mC (.int 1))) (mC (.int 1))))
 (i7 (n3 5 (m2 (gI λi j=> .int (i - j)) (m2 j7 (a6 1) (mC (.int 2))) (mC (.int 1))))
 (i7 (o9 (u5 (m2 D4 (a6 0) (mC (.str "turn")))) (k7 (r9 (a4 (m2 (gI λi j=> .int (i - j)) (a6 4) (a6 3)) (a4 (a6 2) b5)))) l0)
 (i7 (o9 (u5 (m2 D4 (a6 0) (mC (.str "half")))) (k7 (r9 (a4 (m2 (gI λi j=> .int (i - j)) (a6 4) (a6 2)) (a4 (m2 (gI λi j=> .int (i - j)) (a6 5) (a6 3)) b5)))) l0)
 (i7 (o9 (u5 (m2 D4 (a6 0) (mC (.str "back")))) (k7 (r9 (a4 (a6 3) (a4 (m2 (gI λi j=> .int (i - j)) (a6 5) (a6 2)) b5)))) l0)
 (i7 (o9 (u5 (m2 D4 (a6 0) (mC (.str "side")))) (k7 (r9 (a4 (a6 2) (a4 (m2 (gI λi j=> .int (i - j)) (a6 5) (a6 3)) b5)))) l0)
 (i7 (o9 (u5 (m2 D4 (a6 0) (mC (.str "flip")))) (k7 (r9 (a4 (m2 (gI λi j=> .int (i - j)) (a6 4) (a6 2)) (a4 (a6 3) b5)))) l0)
 (i7 (o9 (u5 (m2 D4 (a6 0) (mC (.str "cross")))) (k7 (r9 (a4 (a6 3) (a4 (a6 2) b5)))) l0)
 (k7 (r9 (a4 (m2 (gI λi j=> .int (i - j)) (a6 4) (a6 3)) (a4 (m2 (gI λi j=> .int (i - j)) (a6 5) (a6 2)) b5))))))))))))
def a5B:Λ:=m3 2 A1
def w4(A0 Zag:Λ):MS:=
 (i7 (o9 (u5 (m2 D4 (m2 j7 (a6 0) (mC (.int 0))) (mC (.str "plain")))) (k7 (m2 j7 (m2 j7 (m2 j7 (a6 0) (mC (.int 3))) (a6 1)) (a6 2))) l0)
 (i7 (o9 (a0m (u5 (m2 D4 (m2 j7 (a6 0) (mC (.int 0))) (mC (.str "beside")))) (u5 (m2 D4 (m2 j7 (a6 0) (mC (.int 0))) (mC (.str "above"))))) (k7 (j2 Zag (a4 (a6 0) (a4 (a6 1) (a4 (a6 2) b5))))) l0)
 (i7 (n3 3 (m2 j7 (a6 0) (mC (.int 3))))
 (i7 (o9 (a0m (u5 (m2 D4 (m2 j7 (a6 0) (mC (.int 0))) (mC (.str "across")))) (u5 (m2 D4 (m2 j7 (a6 0) (mC (.int 0))) (mC (.str "down"))))) (k7 (j2 A0 (a4 (a6 3) (a4 (m2 Θ (a6 1) (m2 j7 (a6 3) (mC (.int 1)))) (a4 (m2 Θ (a6 2) (m2 j7 (a6 3) (mC (.int 2)))) b5))))) l0)
 (i7 (o9 (u5 (m2 D4 (m2 j7 (a6 0) (mC (.int 0))) (mC (.str "dye")))) (i7 (n3 4 (j2 A0 (a4 (a6 3) (a4 (a6 1) (a4 (a6 2) b5)))))
 (i7 (o9 (u5 (m2 D4 (a6 4) (m2 j7 (a6 0) (mC (.int 4))))) (k7 (m2 j7 (a6 0) (mC (.int 5)))) l0)
 (k7 (mIf (u5 (m2 D4 (a6 4) (m2 j7 (a6 0) (mC (.int 5))))) (m2 j7 (a6 0) (mC (.int 4))) (a6 4))))) l0)
 (i7 (n3 5 (j2 a5B (a4 (m2 j7 (a6 0) (mC (.int 0))) (a4 (a6 3) (a4 (a6 1) (a4 (a6 2) b5))))))
 (k7 (j2 A0 (a4 (a6 3) (a4 (m2 j7 (a6 5) (mC (.int 0))) (a4 (m2 j7 (a6 5) (mC (.int 1))) b5)))))))))))
def r0(A0 Zag:Λ):MS:=
 (i7 (o9 (P7 (u5 (m2 a6j (a6 1) (m2 j7 (a6 3) (mC (.int 1))))) (u5 (m2 a6j (a6 2) (m2 j7 (a6 3) (mC (.int 2)))))) (k7 (j2 A0 (a4 (a6 3) (a4 (a6 1) (a4 (a6 2) b5))))) l0)
 (o9 (u5 (m2 D4 (m2 j7 (a6 0) (mC (.int 0))) (mC (.str "beside")))) (n3 2 (m2 (gI λi j=> .int (i - j)) (a6 2) (m2 j7 (a6 3) (mC (.int 2))))) (n3 1 (m2 (gI λi j=> .int (i - j)) (a6 1) (m2 j7 (a6 3) (mC (.int 1)))))))
def O2(A0 Zag:Λ):MS:=
 (i7 (M7 (X3 (m2 j7 (a6 0) (mC (.int 3)))) (j3 3) (r0 A0 Zag))
 (k7 (mC (.str ""))))
def S5:Nat->(Λ)×(Λ)
 |0=>(m3 3 (λ_=>ζ),m3 1 (λ_=>ζ))
 |n+1=>(m3 3 (w4 ((S5 n).1) ((S5 n).2)),m3 1 (O2 ((S5 n).1) ((S5 n).2)))
def C9(n:Nat):Λ:=(S5 n).1
def a5E:Λ:=C9 24
def G1(n:Nat):Λ:=(S5 n).2
def U9:M:=
 (j2 a5E (a4 (a6 2) (a4 (a6 4) (a4 (a6 5) b5))))
def a35:MS:=
 (O7 3 (m2 W1 (mC (.str "")) (P6 1 (M1 (a4 (m2 j7 (a6 2) (mC (.int 2))) b5)) (j3 5) a0l U9)))
def a3z:MS:=
 (i7 (n3 2 (j2 a5D (a4 (a6 0) (a4 (a6 1) b5))))
 (i7 (n3 3 (L5 b5))
 (i7 (M7 (M1 (a4 (m2 j7 (a6 2) (mC (.int 1))) b5)) (j3 4) a35)
 (k7 (m1 a2J (a6 3))))))
def a3X:Λ:=m3 3 a3z
def z7:MS:=
 (i7 (O7 2 (V1 a3X 1 (m2 j7 (a6 3) (R8 (mC (.int 1))))))
 (o9 (u5 (m2 gNe (m2 j7 (a6 3) (mC (.int 0))) (mC (.str "knot")))) (V3 1 (m2 j7 (a6 3) (R8 (mC (.int 2)))) (m2 j7 (a6 2) (R8 (mC (.int 1))))) l0))
def z8:MS:=
 (i7 (n3 4 (mIf (u5 (m2 D4 (m2 j7 (a6 3) (mC (.int 0))) (mC (.str "again")))) (m2 j7 (a6 3) (mC (.int 1))) (mC (.int 1))))
 (M7 (M1 (a4 (a6 4) b5)) (j3 5) z7))
def a2x:MS:=
 (i7 (n3 1 b2D)
 (i7 (n3 2 (L5 b5))
 (i7 (M7 (X3 (a6 0)) (j3 3) z8)
 (J8 2))))
def a0F:Λ:=m3 5 a2x
def a33:MS:=
 (V3 2 (a6 4) (m2 y9 (a9g 2 (a6 4) (mC (.int 0))) (mC (.int 1))))
def a34:MS:=
 (M7 (b2C (a6 3)) (j3 4) a33)
def b8z:MS:=
 (i7 (n3 1 (j2 Z2 (a4 (a6 0) (a4 (mC (.int 21)) (a4 (j2 a5C (a4 (a6 0) b5)) b5)))))
 (i7 (n3 2 b2D)
 (i7 (b0u 1 (M7 (X3 (m2 j7 (j2 a0F (a4 (a6 1) b5)) (R8 (mC (.int 1))))) (j3 3) a34))
 (i7 (b0u 1 (n3 5 (j2 a3W (a4 (a6 1) b5))))
 (i7 (b0u 5 (n3 6 (b2A (j2 a2h (a4 (a6 5) b5)))))
 (i7 (o9 (a0m (b4d (mtV (m1 (a3p "dict") (a6 6)))) (u5 (m2 (b3W true) (a6 6) (a6 2)))) (k7 (mC (.bool false))) l0)
 (i7 (c3Y 6 4)
 (i7 (b2y 6)
 (b0u 5 (k7 (m2 (b3W false) (j2 a2h (a4 (a6 5) b5)) (a6 2))))))))))))
def c2J:Λ:=m3 6 b8z
set_option maxHeartbeats 1000000
structure c24(rows:List (List Nat))(n m:Nat):Prop where
 len:rows.length=n
 wid:∀l∈rows,l.length=m
theorem c1f{l:List Nat}{m:Nat}(hl:l.length=m)(hm:m<=10000){j:Int}(h0:0<=j)(h1:j<m):j7 (.v (row l)) (.v (.int j))=φ (row [l.getD j.toNat 0]):=by
 have hk:j.toNat<l.length:=by lia
 refine b88 (by lia) ?_
 rw [b8y h0,Ap hk];simp [List.getD,hk]
theorem b4P:∀(l:List Nat) (g:Nat->Nat),((l.map λc=>[g c]).map (·.length)).sum=l.length
 |[],_=>rfl
 |a::l,g=>by
  have:=b4P l g;simp only [AM,AV,Al,List.sum_cons] at this ⊢
  lia
def lt1(c:Nat):Bool:=decide (97<=c)&& decide (c<=122)
theorem c1u{x:Nat}:lt1 x=true↔97<=x/\x<=122:=by unfold lt1;simp
inductive Mo where
 |plain (rows:List (List Nat))|named (w:List Nat)|beside (ps:List Mo)|above (ps:List Mo)|across (k:Nat) (p:Mo)|down (k:Nat) (p:Mo)|turned (w:List Nat) (p:Mo)|dyed (a b:Nat) (p:Mo)
mutual
def n5:Mo->PV
 | .plain rows=>obV (AD "Plain") [(.str (AD "rows"),.tuple (rows.map row))]
 | .named w=>obV (AD "Named") [(.str (AD "name"),row w)]
 | .beside ps=>obV (AD "Beside") [(.str (AD "parts"),.tuple (a4V ps))]
 | .above ps=>obV (AD "Above") [(.str (AD "parts"),.tuple (a4V ps))]
 | .across k p=>obV (AD "Across") [(.str (AD "many"),.int (k:Nat)),(.str (AD "part"),n5 p)]
 | .down k p=>obV (AD "Down") [(.str (AD "many"),.int (k:Nat)),(.str (AD "part"),n5 p)]
 | .turned w p=>obV (AD "Turned") [(.str (AD "way"),row w),(.str (AD "part"),n5 p)]
 | .dyed a b p=>obV (AD "Dyed") [(.str (AD "one"),row [a]),(.str (AD "other"),row [b]),(.str (AD "part"),n5 p)]
def a4V:List Mo->List PV
 |[]=>[]
 |p::ps=>n5 p::a4V ps
end
theorem a6z:∀ps:List Mo,a4V ps=ps.map n5
 |[]=>by rw [a4V];rfl
 |p::ps=>by rw [a4V,a6z ps];rfl
def c2y:List Nat:=[98,101,115,105,100,101]
def c4T:List Nat:=[97,98,111,118,101]
def c2x:List Nat:=[97,99,114,111,115,115]
def c5X:List Nat:=[100,111,119,110]
def W2:List (List Nat):=[[116,117,114,110],[104,97,108,102],[98,97,99,107],[115,105,100,101],[102,108,105,112],[99,114,111,115,115],[111,116,104,101,114]]
abbrev a62:List (List Nat):=[[107],[115,116,97,121],[108,101,116],[107,110,111,116,115],[122,122]]
abbrev RF:=Λ
theorem b9g(c:Nat)(a b:List Nat)(r:List (List Nat)):J6 [c] (a::b::r)=a++c::J6 [c] (b::r):=by
 show a++[c]++J6 [c] (b::r)=_;simp
theorem b3Y(c:Nat):∀R:List (List Nat),R≠[]->(J6 [c] R).length+1=(R.map (·.length)).sum+R.length
 |[],h=>absurd rfl h
 |[a],_=>by simp [J6]
 |a::b::r,_=>by
  have:=b3Y c (b::r) (by simp)
  rw [b9g];simp only [AW,AV,AM,List.sum_cons] at this ⊢
  lia
theorem a6i{l:List Nat}(h:l.length<=10000):P8 (.v (row l))=φ (.int (l.length:Nat)):=by
 show(if(S l).length<=AO then ξ (d5.v (.int ((S l).length:Nat))) else ζ)=_
 rw [a5Y,if_pos (by rw [sizeLine_eq];lia)]
def dg(k:Nat):List Nat:=if k<10 then [48+k] else [48+k / 10,48+k % 10]
theorem c4K{k:Nat}(hk:k<25):b7H (.v (.int (k:Nat)))=φ (row (dg k)):=by
 match k,hk with
 |0,_=>rfl
 |1,_=>rfl
 |2,_=>rfl
 |3,_=>rfl
 |4,_=>rfl
 |5,_=>rfl
 |6,_=>rfl
 |7,_=>rfl
 |8,_=>rfl
 |9,_=>rfl
 |10,_=>rfl
 |11,_=>rfl
 |12,_=>rfl
 |13,_=>rfl
 |14,_=>rfl
 |15,_=>rfl
 |16,_=>rfl
 |17,_=>rfl
 |18,_=>rfl
 |19,_=>rfl
 |20,_=>rfl
 |21,_=>rfl
 |22,_=>rfl
 |23,_=>rfl
 |24,_=>rfl
 |k+25,h=>lia
theorem c3j(k:Nat):1<=(dg k).length/\(dg k).length<=2:=by unfold dg;split<;>simp
mutual
def M3:Mo->List Nat
 | .plain rows=>[91]++J6 [47] rows++[93]
 | .named w=>w
 | .beside ps=>[98,101,115,105,100,101,40]++J6 [44,32] (a4W ps)++[41]
 | .above ps=>[97,98,111,118,101,40]++J6 [44,32] (a4W ps)++[41]
 | .across k p=>[97,99,114,111,115,115,40]++dg k++[44,32]++M3 p++[41]
 | .down k p=>[100,111,119,110,40]++dg k++[44,32]++M3 p++[41]
 | .turned w p=>w++[40]++M3 p++[41]
 | .dyed a b p=>[100,121,101,40]++[a]++[44,32]++[b]++[44,32]++M3 p++[41]
def a4W:List Mo->List (List Nat)
 |[]=>[]
 |p::ps=>M3 p::a4W ps
end
mutual
def p9:Mo->Nat
 | .plain _=>1
 | .named _=>1
 | .beside ps=>1+a0r ps
 | .above ps=>1+a0r ps
 | .across _ p=>1+p9 p
 | .down _ p=>1+p9 p
 | .turned _ p=>1+p9 p
 | .dyed _ _ p=>1+p9 p
def a0r:List Mo->Nat
 |[]=>0
 |p::ps=>max (p9 p) (a0r ps)
end
def okP(rows:List (List Nat)):Prop:=∃w,1<=w/\w<=3/\1<=rows.length/\rows.length<=3/\∀l∈rows,l.length=w
mutual
def v7:Mo->Prop
 | .plain rows=>okP rows
 | .named w=>w∈a62
 | .beside ps=>2<=ps.length/\ps.length<=6/\a1p ps
 | .above ps=>2<=ps.length/\ps.length<=6/\a1p ps
 | .across k p=>1<=k/\k<=24/\v7 p
 | .down k p=>1<=k/\k<=24/\v7 p
 | .turned w p=>w∈W2/\v7 p
 | .dyed a b p=>lt1 a=true/\lt1 b=true/\v7 p
def a1p:List Mo->Prop
 |[]=>True
 |p::ps=>v7 p/\a1p ps
end
theorem a9N:∀ps:List Mo,a4W ps=ps.map M3
 |[]=>by rw [a4W];rfl
 |p::ps=>by rw [a4W,a9N ps];rfl
theorem C3:∀{ps:List Mo} {p:Mo},a1p ps->p∈ps->v7 p
 |[],_,_,h=>by cases h
 |q::ps,p,h,hp=>by
  rw [a1p] at h;rcases AX.mp hp with rfl|hp
  ·exact h.1
  ·exact C3 h.2 hp
theorem D3:∀{ps:List Mo} {p:Mo},p∈ps->p9 p<=a0r ps
 |[],_,h=>by cases h
 |q::ps,p,hp=>by
  rw [a0r];rcases AX.mp hp with rfl|hp
  ·lia
  ·have:=D3 hp;lia
theorem T6(m:Mo):1<=p9 m:=by cases m<;>rw [p9]<;>lia
theorem a2M{sep:List Nat}:∀{ls:List (List Nat)} {l:List Nat},l∈ls->l.length<=(J6 sep ls).length
 |[],_,h=>by cases h
 |[x],l,h=>by rw [List.mem_singleton.mp h];simp [J6]
 |x::y::r,l,h=>by
  rcases AX.mp h with rfl|h
  ·simp [J6]
  ·have:=a2M (sep:=sep) h;simp [J6];lia
theorem a80{sep:List Nat}:∀{ls:List (List Nat)},(ls.map (·.length)).sum+ls.length*sep.length<=(J6 sep ls).length+sep.length
 |[]=>by simp [J6]
 |[x]=>by simp [J6]
 |x::y::r=>by
  have:=a80 (sep:=sep) (ls:=y::r);simp only [J6,AM,List.sum_cons,AV,AW,Nat.add_mul,Nat.one_mul] at this ⊢
  lia
theorem a4N:∀{ps:List Mo},(∀p∈ps,v7 p)->a1p ps
 |[],_=>by rw [a1p];trivial
 |p::ps,h=>by rw [a1p];exact⟨h p AU,a4N λq hq=>h q (Ab _ hq)⟩
theorem a4H:∀{ps:List Mo} {k:Nat},(∀p∈ps,p9 p<=k)->a0r ps<=k
 |[],k,_=>by rw [a0r];lia
 |p::ps,k,h=>by
  have h1:=h p AU;have h2:=a4H λq hq=>h q (Ab _ hq);rw [a0r]
  lia
theorem a59:AD ", "=S [44,32]:=by decide+kernel
theorem b8d:AD ")"=S [41]:=by decide+kernel
theorem b9A:AD "("=S [40]:=by decide+kernel
theorem c59:AD "["=S [91]:=by decide+kernel
theorem c0T:AD "]"=S [93]:=by decide+kernel
theorem c2m:AD "/"=S [47]:=by decide+kernel
theorem c0P{l k:List Nat}(h:l.length+k.length<=10000):y9 (.v (row l)) (.v (row k))=φ (row (l++k)):=c3y (by lia)
theorem ad{x y:M}{ρ:b7}{a b:List Nat}(hx:x ρ=φ (row a))(hy:y ρ=φ (row b))(h:a.length+b.length<=10000):m2 y9 x y ρ=φ (row (a++b)):=by
 unfold m2;rw [hx,hy];exact c0P h
theorem cst{z:String}{l:List Nat}(h:AD z=S l)(ρ:b7):mC (.str (AD z)) ρ=φ (row l):=by
 unfold mC;rw [h]
theorem a09{a b:List Nat}{n:Nat}(h:(a++b).length<=n):a.length+b.length<=n:=by rw [<-AW];exact h
theorem a4S{a b:List Nat}{n:Nat}(h:(a++b).length<=n):a.length<=n:=by rw [AW] at h;lia
theorem e8{i:Nat}{e:M}{n:MS}{ρ:b7}{p:PV}(h:e ρ=φ p):i7 (n3 i e) n ρ=n (ρ.set i (φ p)):=by
 unfold i7 n3;rw [h]
 rfl
theorem j8{c:MT}{x:M}{n:MS}{ρ:b7}{p:PV}(hc:c ρ=ξ true)(hx:x ρ=φ p):i7 (o9 c (k7 x) l0) n ρ=ξ (.rt (.v p)):=by
 unfold i7 o9;rw [hc];show((k7 x ρ).bind _)=_;unfold k7;rw [hx]
 rfl
theorem b0{c:MT}{x n:MS}{ρ:b7}(hc:c ρ=ξ false):i7 (o9 c x l0) n ρ=n ρ:=by
 unfold i7 o9;rw [hc]
 rfl
theorem m4{n:Nat}{b:MS}{ps:List PV}{r:d5}(h:b (ps.map (λp=>ξ (d5.v p))++AS n ζ)=ξ (.rt r)):m3 n b ps=ξ r:=by
 unfold m3;rw [h]
 rfl
theorem a3j{c:MT}{x y:MS}{ρ:b7}(hc:c ρ=ξ true):o9 c x y ρ=x ρ:=by
 unfold o9;rw [hc];rfl
theorem a9i{c:MT}{x y:MS}{ρ:b7}(hc:c ρ=ξ false):o9 c x y ρ=y ρ:=by
 unfold o9;rw [hc];rfl
theorem a1R{i:Nat}{e:M}{ρ:b7}{p:PV}(h:e ρ=φ p):n3 i e ρ=ξ (.nx (ρ.set i (φ p))):=by
 unfold n3;rw [h]
 rfl
theorem W9{it:MI}{tg:PV->b7->Υ b7}{body n:MS}{ρ ρ':b7}{ps:List PV}(h1:it ρ=ξ ps)(h2:y0 body tg ps ρ=ξ (.nx ρ')):i7 (M7 it tg body) n ρ=n ρ':=by
 unfold i7 M7;rw [h1,AR,h2]
 rfl
theorem a6A{n i:Nat}{p:PV}(h:((AZ n).map λk=>PyData.int (k:Nat))[i]?=ξ p):p= .int (i:Nat)/\i<n:=by
 rw [Ak] at h
 by_cases hi:i<n
 ·rw [List.getElem?_range hi] at h;exact⟨(Option.some.inj h).symm,hi⟩
 ·rw [List.getElem?_eq_none (by simpa using hi)] at h
  cases h
theorem c3H{ns:List Int}{i:Nat}(h:i<ns.length):∃c:Int,j7 (.v (.list (ns.map .int))) (.v (.int (i:Nat)))=φ (.int c):=by
 refine⟨ns[i], ?_⟩;show((L2.atI (ns.map PyData.int) (i:Nat)).map d5.v)=_;rw [b0U,Ak,Ap h]
 rfl
theorem md{a b:M}{ρ:b7}{x k:Int}(h:a ρ=φ (.int x))(hb:b ρ=φ (.int k))(hk:0<k):m2 Θ a b ρ=φ (.int (x % k)):=by
 unfold m2;rw [h,hb];show(if okC (λ_ j=>0<j) x k=true then ξ (d5.v (.int (x % k))) else ζ)=_
 rw [if_pos (a1G (C:=λ_ j=>0<j).mpr hk)]
theorem ml{a:M}{ρ:b7}{x k:Int}(h:a ρ=φ (.int x))(hk: -18446744073709551616<k/\k<18446744073709551616):m2 u4 a (mC (.int k)) ρ=φ (.int (x*k)):=by
 unfold m2;rw [h];exact b6A hk
theorem J7{g:RF}{x:M}{ρ:b7}{p:PV}(h:x ρ=φ p):j2 g (a4 x b5) ρ=g [p]:=by
 unfold j2 a4;rw [h]
 rfl
theorem b8C{g:RF}{x y z:M}{ρ:b7}{p q r:PV}(h1:x ρ=φ p)(h2:y ρ=φ q)(h3:z ρ=φ r):j2 g (a4 x (a4 y (a4 z b5))) ρ=g [p,q,r]:=by
 unfold j2 a4;rw [h1,h2,h3]
 rfl
theorem J5{g:d5->d5->Υ d5}{x y:M}{ρ:b7}{r q:d5}{b:Bool}(h1:x ρ=ξ r)(h2:y ρ=ξ q)(h:g r q=φ (.bool b)):u5 (m2 g x y) ρ=ξ b:=by
 unfold u5 m2;rw [h1,h2];show(g r q).bind _=_;rw [h]
 rfl
theorem K5{c:MT}{b n:MS}{ρ:b7}{r:d5}(hc:c ρ=ξ true)(hb:b ρ=ξ (.rt r)):i7 (o9 c b l0) n ρ=ξ (.rt r):=by
 unfold i7 o9;rw [hc];show(b ρ).bind _=_;rw [hb]
 rfl
theorem L7{x:M}{ρ:b7}{p:PV}(h:x ρ=φ p):k7 x ρ=ξ (.rt (.v p)):=by
 unfold k7;rw [h]
 rfl
theorem N2{g:RF}{x y:M}{ρ:b7}{p q:PV}(h1:x ρ=φ p)(h2:y ρ=φ q):j2 g (a4 x (a4 y b5)) ρ=g [p,q]:=by
 unfold j2 a4;rw [h1,h2]
 rfl
theorem c5s{a b:MT}{ρ:b7}(h1:a ρ=ξ false)(h2:b ρ=ξ false):a0m a b ρ=ξ false:=by
 unfold a0m;rw [h1];exact h2
theorem c6c{a:MT}{ρ:b7}(h:a ρ=ξ true):b4d a ρ=ξ false:=by
 unfold b4d;rw [h]
 rfl
theorem b3j{x:M}{ρ:b7}{b:Bool}(h:x ρ=φ (.bool b)):mtV x ρ=ξ b:=by
 unfold mtV;rw [h]
 rfl
theorem P0{i:Nat}{e:M}{n:MS}{ρ:b7}{l:List PV}(h:e ρ=ξ (.own l)):i7 (n3 i e) n ρ=n (ρ.set i (ξ (.own l))):=by
 unfold i7 n3;rw [h]
 rfl
mutual
def j4:Mo->PV
 | .plain rows=> .tuple [.str (AD "plain"),.tuple (rows.map row)]
 | .named w=> .tuple [.str (AD "name"),row w]
 | .beside ps=> .tuple [.str (AD "beside"),.list (a4D ps)]
 | .above ps=> .tuple [.str (AD "above"),.list (a4D ps)]
 | .across k p=> .tuple [.str (AD "across"),.int (k:Nat),j4 p]
 | .down k p=> .tuple [.str (AD "down"),.int (k:Nat),j4 p]
 | .turned w p=> .tuple [.str (AD "turned"),row w,j4 p]
 | .dyed a b p=> .tuple [.str (AD "dye"),row [a],row [b],j4 p]
def a4D:List Mo->List PV
 |[]=>[]
 |p::ps=>j4 p::a4D ps
end
theorem V9:∀ps:List Mo,a4D ps=ps.map j4
 |[]=>by rw [a4D];rfl
 |p::ps=>by rw [a4D,V9 ps];rfl
theorem c2A{z:String}{l:List Nat}{a:Υ d5}{ρ:b7}(h:AD z=S l):a6 1 (a::φ (.str (AD z))::ρ)=φ (row l):=by
 rw [h]
 rfl
theorem up4{n:Nat}(h:n<=4000):n<=10000:=by lia
section
variable {R:RF}
theorem c2N{ps:List Mo}{w:PV}(hp:ps.length<=6)(h:∀p∈ps,R [j4 p]=φ (row (M3 p)))(hl:(J6 [44,32] (ps.map M3)).length<=4000)(ww:PV):
 m2 W1 (mC (.str (AD ", "))) (P6 1 (A8 (m2 j7 (a6 0) (mC (.int 1)))) (j3 2) a0l (Z6 R)) [φ (.tuple [w,.list (ps.map j4)]),φ ww]=φ (row (J6 [44,32] (ps.map M3))):=by
 have cm:=S4 (ι:=j4) (f:=λp=>row (M3 p)) (k:=1) (it:=A8 (m2 j7 (a6 0) (mC (.int 1)))) (tg:=j3 2) (elt:=Z6 R) (ρ:=[φ (.tuple [w,.list (ps.map j4)]),φ ww]) ps rfl (by lia) λp hp=>by
  refine⟨[φ (.tuple [w,.list (ps.map j4)]),φ ww,φ (j4 p)],rfl, ?_⟩;unfold Z6;rw [(J7 rfl).trans (h p hp)]
  rfl
 have jn:=a2H (sep:=[44,32]) (rows:=ps.map M3) (y:= .own (ps.map λp=>row (M3 p))) (by show ξ _=ξ _;rw [Aj];rfl) (by have:=a80 (sep:=[44,32]) (ls:=ps.map M3);simp only [AV,Al] at this ⊢;lia)
 unfold m2
 rw [cst a59,AR]
 refine(congrArg (λo=>Option.bind o λy=>W1 (.v (row [44,32])) y) cm).trans ?_
 exact jn
theorem c5i{k:Nat}{x:M}{ρ:b7}(hk:k<=24)(h:x ρ=φ (.int (k:Nat))):m1 b7H x ρ=φ (row (dg k)):=by
 show(x ρ).bind b7H=_;rw [h];exact c4K (by lia)
theorem b5E(m:Mo)(ok:v7 m)(hl:(M3 m).length<=4000)(ih:∀p,v7 p->p9 p<p9 m->(M3 p).length<=4000->R [j4 p]=φ (row (M3 p))):m3 1 (a0V R) [j4 m]=φ (row (M3 m)):=by
 refine m4 ?_;show a0V R [φ (j4 m),ζ]=_;unfold a0V;cases m with
 |plain rows=>
  ext u
  rw [j4,e8 (p:= .str (AD "plain")) rfl];rw [M3] at hl ⊢;have h2:=a4S hl;have jn:=a2H (sep:=[47]) (rows:=rows) (y:= .v (.tuple (rows.map row))) rfl (by have:=a80 (sep:=[47]) (ls:=rows);rw [AW] at h2;simp only [AV,Al] at this h2 ⊢;lia)
  refine j8 rfl (ad (ad (cst c59 _) ?_ (up4 (a09 h2))) (cst c0T _) (up4 (a09 hl)));show(mC (.str (AD "/")) _).bind (λx=>Option.bind _ λy=>W1 x y)=_;rw [cst c2m];exact jn
 |named w=>
  rw [j4,e8 (p:= .str (AD "name")) rfl,b0 rfl,M3];exact j8 rfl rfl
 |beside ps=>
  ext u
  have d:p9 (.beside ps)=1+a0r ps:=by rw [p9]
  rw [j4,V9,e8 (p:= .str (AD "beside")) rfl,b0 rfl,b0 rfl];rw [M3,a9N] at hl ⊢;have h2:=a4S hl;have h3:(J6 [44,32] (ps.map M3)).length<=4000:=by rw [AW] at h2;lia
  exact j8 rfl (ad (ad (ad (a:=c2y) (b:=[40]) (c2A (by decide+kernel)) (cst b9A _) (by decide)) (c2N ok.2.1 (λp hp=>ih p (C3 ok.2.2 hp) (by have:=D3 hp;lia) (by have:=a2M (sep:=[44,32]) (List.mem_map_of_mem (f:=M3) hp);lia)) h3 _) (up4 (a09 h2))) (cst b8d _) (up4 (a09 hl)))
 |above ps=>
  ext u
  have d:p9 (.above ps)=1+a0r ps:=by rw [p9]
  rw [j4,V9,e8 (p:= .str (AD "above")) rfl,b0 rfl,b0 rfl];rw [M3,a9N] at hl ⊢;have h2:=a4S hl;have h3:(J6 [44,32] (ps.map M3)).length<=4000:=by rw [AW] at h2;lia
  exact j8 rfl (ad (ad (ad (a:=c4T) (b:=[40]) (c2A (by decide+kernel)) (cst b9A _) (by decide)) (c2N ok.2.1 (λp hp=>ih p (C3 ok.2.2 hp) (by have:=D3 hp;lia) (by have:=a2M (sep:=[44,32]) (List.mem_map_of_mem (f:=M3) hp);lia)) h3 _) (up4 (a09 h2))) (cst b8d _) (up4 (a09 hl)))
 |across k p=>
  ext u
  have d:p9 (.across k p)=1+p9 p:=by rw [p9]
  rw [j4,e8 (p:= .str (AD "across")) rfl,b0 rfl,b0 rfl,b0 rfl];rw [M3] at hl ⊢;have l1:=a4S hl;have l2:=a4S l1;have l3:=a4S l2;have ip:=ih p ok.2.2 (by lia) (by simp only [AW] at hl;lia)
  exact j8 rfl (ad (ad (ad (ad (ad (a:=c2x) (b:=[40]) (c2A (by decide+kernel)) (cst b9A _) (by decide)) (c5i ok.2.1 rfl) (up4 (a09 l3))) (cst a59 _) (up4 (a09 l2))) ((J7 rfl).trans ip) (up4 (a09 l1))) (cst b8d _) (up4 (a09 hl)))
 |down k p=>
  ext u
  have d:p9 (.down k p)=1+p9 p:=by rw [p9]
  rw [j4,e8 (p:= .str (AD "down")) rfl,b0 rfl,b0 rfl,b0 rfl];rw [M3] at hl ⊢;have l1:=a4S hl;have l2:=a4S l1;have l3:=a4S l2;have ip:=ih p ok.2.2 (by lia) (by simp only [AW] at hl;lia)
  exact j8 rfl (ad (ad (ad (ad (ad (a:=c5X) (b:=[40]) (c2A (by decide+kernel)) (cst b9A _) (by decide)) (c5i ok.2.1 rfl) (up4 (a09 l3))) (cst a59 _) (up4 (a09 l2))) ((J7 rfl).trans ip) (up4 (a09 l1))) (cst b8d _) (up4 (a09 hl)))
 |turned w p=>
  ext u
  have d:p9 (.turned w p)=1+p9 p:=by rw [p9]
  rw [j4,e8 (p:= .str (AD "turned")) rfl,b0 rfl,b0 rfl,b0 rfl,b0 rfl];rw [M3] at hl ⊢;have l1:=a4S hl;have l2:=a4S l1;have ip:=ih p ok.2 (by lia) (by simp only [AW] at hl;lia)
  exact j8 rfl (ad (ad (ad (a:=w) rfl (cst b9A _) (up4 (a09 l2))) ((J7 rfl).trans ip) (up4 (a09 l1))) (cst b8d _) (up4 (a09 hl)))
 |dyed a b p=>
  ext u
  have d:p9 (.dyed a b p)=1+p9 p:=by rw [p9]
  rw [j4,e8 (p:= .str (AD "dye")) rfl,b0 rfl,b0 rfl,b0 rfl,b0 rfl,b0 rfl];rw [M3] at hl ⊢;have l1:=a4S hl;have l2:=a4S l1;have l3:=a4S l2;have l4:=a4S l3;have l5:=a4S l4;have ip:=ih p ok.2.2 (by lia) (by simp only [AW] at hl;lia)
  have e:=ad (ad (ad (ad (ad (ad (x:=mC (.str (AD "dye("))) (y:=m2 j7 (a6 0) (mC (.int 1))) (ρ:=[φ (.tuple [.str (AD "dye"),row [a],row [b],j4 p]),φ (.str (AD "dye"))]) (cst (l:=[100,121,101,40]) (by decide+kernel) _) (b:=[a]) rfl (up4 (a09 l5))) (cst a59 _) (up4 (a09 l4))) (y:=m2 j7 (a6 0) (mC (.int 2))) (b:=[b]) rfl (up4 (a09 l3))) (cst a59 _) (up4 (a09 l2))) ((J7 (g:=R) (x:=m2 j7 (a6 0) (mC (.int 3))) rfl).trans ip) (up4 (a09 l1))) (cst b8d _) (up4 (a09 hl))
  show k7 _ _=_;unfold k7;refine(congrArg (λo=>Option.bind o _) e).trans rfl
end
theorem b36:∀(n:Nat) (m:Mo),v7 m->p9 m<=n->(M3 m).length<=4000->a31 n [j4 m]=φ (row (M3 m))
 |0,m,_,h,_=>by have:=T6 m;lia
 |n+1,m,ok,h,hl=>b5E m ok hl λp okp hp hlp=>b36 n p okp (by lia) hlp
theorem mlv{a b:M}{ρ:b7}{x k:Int}(h:a ρ=φ (.int x))(hb:b ρ=φ (.int k))(hk: -18446744073709551616<k/\k<18446744073709551616):m2 u4 a b ρ=φ (.int (x*k)):=by
 unfold m2;rw [h,hb];exact b6A hk
theorem adI{a b:M}{ρ:b7}{x y:Int}(h:a ρ=φ (.int x))(hb:b ρ=φ (.int y)):m2 y9 a b ρ=φ (.int (x+y)):=by
 unfold m2;rw [h,hb]
 rfl
theorem K4{g:d5->d5->Υ d5}{x y:M}{ρ:b7}{r q s:d5}(h1:x ρ=ξ r)(h2:y ρ=ξ q)(h:g r q=ξ s):m2 g x y ρ=ξ s:=by
 unfold m2;rw [h1,h2];exact h
theorem one{g:d5->Υ d5}{x:M}{ρ:b7}{r s:d5}(h1:x ρ=ξ r)(h:g r=ξ s):m1 g x ρ=ξ s:=by
 unfold m1;rw [h1];exact h
abbrev sml(t:List Nat):Prop:=∀x∈t,lt1 x=true
theorem b5B(N:Int)(ρ:b7):∃al:List Nat,1<=al.length/\al.length<=26/\sml al/\R9 (mC (.str (AD "abcdefghijklmnopqrstuvwxyz"))) X4 (V4 (m2 j7 (L5 (a4 (mC (.int 2)) (a4 (mC (.int 4)) (a4 (mC (.int 26)) b5)))) (m2 Θ (a6 0) (mC (.int 3))))) (φ (.int N)::ρ)=φ (row al):=by
 have e:m2 Θ (a6 0) (mC (.int 3)) (φ (.int N)::ρ)=φ (.int (N % 3)):=md rfl rfl (by lia)
 have go:∀(al:List Nat) (k:Int),j7 (.own [.int 2,.int 4,.int 26]) (.v (.int (N % 3)))=φ (.int k)->gSl (.v (.str (AD "abcdefghijklmnopqrstuvwxyz"))) ζ (ξ k)=φ (row al)->R9 (mC (.str (AD "abcdefghijklmnopqrstuvwxyz"))) X4 (V4 (m2 j7 (L5 (a4 (mC (.int 2)) (a4 (mC (.int 4)) (a4 (mC (.int 26)) b5)))) (m2 Θ (a6 0) (mC (.int 3))))) (φ (.int N)::ρ)=φ (row al):=λal k h1 h2=>by
  have ei:m2 j7 (L5 (a4 (mC (.int 2)) (a4 (mC (.int 4)) (a4 (mC (.int 26)) b5)))) (m2 Θ (a6 0) (mC (.int 3))) (φ (.int N)::ρ)=φ (.int k):=K4 (r:= .own [.int 2,.int 4,.int 26]) rfl e h1;unfold R9 V4;rw [ei];exact h2
 have:N % 3=0\/N % 3=1\/N % 3=2:=by lia
 rcases this with h|h|h
 ·exact⟨[97,98],by decide,by decide,by decide,go _ 2 (by rw [h];rfl) (by rfl)⟩
 ·exact⟨[97,98,99,100],by decide,by decide,by decide,go _ 4 (by rw [h];rfl) (by rfl)⟩
 ·exact⟨[97,98,99,100,101,102,103,104,105,106,107,108,109,110,111,112,113,114,115,116,117,118,119,120,121,122],by decide,by decide,by decide,go _ 26 (by rw [h];rfl) (by rfl)⟩
theorem b96{N:Int}{R:List PV}{al:List Nat}(a1:1<=al.length)(a2:al.length<=26)(a3:sml al){w r:Nat}(hr:r<=3){t:List Nat}(ht:t.length<=100)(st:sml t){c:Nat}(hc:c<=3)(q7:Υ d5):∃(q7':Υ d5) (x:Nat),lt1 x=true/\
 U7 [φ (.int N),ξ (.own R),φ (row al),φ (.int (w:Nat)),φ (.int (r:Nat)),φ (row t),φ (.int (c:Nat)),q7]=ξ (.nx [φ (.int N),ξ (.own R),φ (row al),φ (.int (w:Nat)),φ (.int (r:Nat)),φ (row (t++[x])),φ (.int (c:Nat)),q7']):=by
 obtain⟨M,hM⟩:∃M:Int,M=N*(2*(r:Nat)+3*(c:Nat)+69621) % 1000003:=⟨_,rfl⟩
 have e1:m2 Θ (m2 u4 (a6 0) (m2 y9 (m2 y9 (m2 u4 (mC (.int 2)) (a6 4)) (m2 u4 (mC (.int 3)) (a6 6))) (mC (.int 69621)))) (mC (.int 1000003)) [φ (.int N),ξ (.own R),φ (row al),φ (.int (w:Nat)),φ (.int (r:Nat)),φ (row t),φ (.int (c:Nat)),q7]=φ (.int M):=by
  rw [hM];exact md (mlv rfl (adI (adI (mlv rfl rfl (by lia)) (mlv rfl rfl (by lia))) rfl) (by lia)) rfl (by lia)
 have e2:m2 Θ (a6 7) (m1 P8 (a6 2)) [φ (.int N),ξ (.own R),φ (row al),φ (.int (w:Nat)),φ (.int (r:Nat)),φ (row t),φ (.int (c:Nat)),φ (.int M)]=φ (.int (M %(al.length:Nat))):=md rfl (one rfl (a6i (by lia))) (by lia)
 have hj0:0<=M %(al.length:Nat):=Int.emod_nonneg _ (by lia)
 have hj1:M %(al.length:Nat)<(al.length:Nat):=Int.emod_lt_of_pos _ (by lia)
 have e3:=c1f (l:=al) (m:=al.length) rfl (by lia) hj0 hj1
 have hx:lt1 (al.getD (M %(al.length:Nat)).toNat 0)=true:=by
  have hk:(M %(al.length:Nat)).toNat<al.length:=by lia
  rw [List.getD_eq_getElem?_getD,Ap hk];exact a3 _ (List.getElem_mem hk)
 refine⟨φ (.int M),_,hx, ?_⟩
 unfold U7
 rw [e8 e1]
 exact a1R (ad rfl (K4 rfl e2 e3) (by simp;lia))
theorem c0v{t:List Nat}{x:Nat}(h:sml t)(hx:lt1 x=true):sml (t++[x]):=λy hy=>by
 rcases Ar.mp hy with h1|h1
 ·exact h y h1
 ·rw [List.mem_singleton.mp h1];exact hx
theorem b78{N:Int}{R:List PV}{al:List Nat}(a1:1<=al.length)(a2:al.length<=26)(a3:sml al){w r:Nat}(hw:w<=3)(hr:r<=3)(hR:R.length<=100)(q5 q6 q7:Υ d5):∃(t:List Nat) (q6' q7':Υ d5),t.length=w/\sml t/\
 U8 [φ (.int N),ξ (.own R),φ (row al),φ (.int (w:Nat)),φ (.int (r:Nat)),q5,q6,q7]=ξ (.nx [φ (.int N),ξ (.own (R++[row t])),φ (row al),φ (.int (w:Nat)),φ (.int (r:Nat)),φ (row t),q6',q7']):=by
 have e0:M1 (a4 (a6 3) b5) [φ (.int N),ξ (.own R),φ (row al),φ (.int (w:Nat)),φ (.int (r:Nat)),φ (row []),q6,q7]=ξ ((AZ w).map λk=> .int (k:Nat)):=K9 rfl (by lia)
 obtain⟨ρ',e4,t,q6',q7',h1,h2,rfl⟩:=a2e (body:=U7) (tg:=j3 6) (λj ρ=>∃(t:List Nat) (q6 q7:Υ d5),t.length=j/\sml t/\ρ=[φ (.int N),ξ (.own R),φ (row al),φ (.int (w:Nat)),φ (.int (r:Nat)),φ (row t),q6,q7])
  (ps:=(AZ w).map λk=> .int (k:Nat)) (ρ:=[φ (.int N),ξ (.own R),φ (row al),φ (.int (w:Nat)),φ (.int (r:Nat)),φ (row []),q6,q7])
  (by
   rintro j p hp ρ ⟨t,q6,q7,h1,h2,rfl⟩;obtain⟨rfl,hj⟩:=a6A hp;obtain⟨q7',x,hx,eb⟩:=b96 (N:=N) (R:=R) a1 a2 a3 (w:=w) hr (t:=t) (by lia) h2 (c:=j) (by lia) q7
   exact a6O (ρ1:=[φ (.int N),ξ (.own R),φ (row al),φ (.int (w:Nat)),φ (.int (r:Nat)),φ (row t),φ (.int (j:Nat)),q7]) rfl eb ⟨_,_,_,by rw [AW,h1];rfl,c0v h2 hx,rfl⟩)
  ⟨[],q6,q7,rfl,(λx hx=>nomatch hx),rfl⟩
 rw [AT,Au] at h1
 refine⟨t,q6',q7',h1,h2, ?_⟩
 unfold U8
 refine(e8 (p:=row []) (by rfl)).trans ?_
 refine(W9 e0 e4).trans ?_
 show(if R.length<AO then ξ (Fl.nx _) else ζ)=_
 rw [if_pos (by rw [sizeLine_eq];lia)]
 rfl
theorem b97(N:Int):∃rows:List (List Nat),okP rows/\(J6 [47] rows).length<=11/\a1B [.int N]=φ (j4 (.plain rows)):=by
 obtain⟨w,hw0,hw1,hw⟩:∃w:Nat,1<=w/\w<=3/\((w:Nat):Int)=1+N*16807 % 999979 % 3:=⟨(1+N*16807 % 999979 % 3).toNat,by lia,by lia,by lia⟩
 obtain⟨n,hn0,hn1,hn⟩:∃n:Nat,1<=n/\n<=3/\((n:Nat):Int)=1+N*48271 % 999983 % 3:=⟨(1+N*48271 % 999983 % 3).toNat,by lia,by lia,by lia⟩
 obtain⟨al,a1,a2,a3,ea⟩:=b5B N [ξ (.own []),ζ,ζ,ζ,ζ,ζ,ζ];have e3:m2 y9 (mC (.int 1)) (m2 Θ (m2 Θ (m2 u4 (a6 0) (mC (.int 16807))) (mC (.int 999979))) (mC (.int 3))) [φ (.int N),ξ (.own []),φ (row al),ζ,ζ,ζ,ζ,ζ]=φ (.int (w:Nat)):=by
  rw [hw];exact adI rfl (md (md (ml rfl (by lia)) rfl (by lia)) rfl (by lia))
 have e4:M1 (a4 (m2 y9 (mC (.int 1)) (m2 Θ (m2 Θ (m2 u4 (a6 0) (mC (.int 48271))) (mC (.int 999983))) (mC (.int 3)))) b5) [φ (.int N),ξ (.own []),φ (row al),φ (.int (w:Nat)),ζ,ζ,ζ,ζ]=ξ ((AZ n).map λk=> .int (k:Nat)):=by
  refine K9 ?_ (by lia)
  rw [hn];exact adI rfl (md (md (ml rfl (by lia)) rfl (by lia)) rfl (by lia))
 obtain⟨ρ',e5,rows,q4,q5,q6,q7,h1,h2,rfl⟩:=a2e (body:=U8) (tg:=j3 4) (λj ρ=>∃(rows:List (List Nat)) (q4 q5 q6 q7:Υ d5),rows.length=j/\(∀t∈rows,t.length=w/\sml t)/\ρ=[φ (.int N),ξ (.own (rows.map row)),φ (row al),φ (.int (w:Nat)),q4,q5,q6,q7])
  (ps:=(AZ n).map λk=> .int (k:Nat)) (ρ:=[φ (.int N),ξ (.own []),φ (row al),φ (.int (w:Nat)),ζ,ζ,ζ,ζ])
  (by
   rintro j p hp ρ ⟨rows,q4,q5,q6,q7,h1,h2,rfl⟩;obtain⟨rfl,hj⟩:=a6A hp;obtain⟨t,q6',q7',ht1,ht2,eb⟩:=b78 (N:=N) (R:=rows.map row) a1 a2 a3 (w:=w) hw1 (r:=j) (by lia) (by rw [AT];lia) q5 q6 q7
   refine a6O (ρ1:=[φ (.int N),ξ (.own (rows.map row)),φ (row al),φ (.int (w:Nat)),φ (.int (j:Nat)),q5,q6,q7]) rfl eb ⟨rows++[t],_,_,_,_,by rw [AW,h1];rfl,λx hx=> ?_,by rw [Ao];rfl⟩
   rcases Ar.mp hx with h|h
   ·exact h2 x h
   ·rw [List.mem_singleton.mp h];exact⟨ht1,ht2⟩)
  ⟨[],ζ,ζ,ζ,ζ,rfl,(λ_ h=>by cases h),rfl⟩
 rw [AT,Au] at h1;have okc:okP rows:=⟨w,hw0,hw1,by lia,by lia,λl hl=>(h2 l hl).1⟩
 refine⟨rows,okc, ?_, ?_⟩
 ·have hg:=b3Y 47 rows (by intro e;rw [e] at h1;simp at h1;lia)
  have hs:(rows.map (·.length)).sum<=rows.length*3:=by
   have:∀l:List (List Nat),(∀t∈l,t.length=w/\sml t)->(l.map (·.length)).sum<=l.length*3:=λl=>by
    induction l with
    |nil=>intro _;simp
    |cons a l ih=>
     intro h;have:=ih λt ht=>h t (Ab _ ht);have:=(h a AU).1;simp only [AM,List.sum_cons,AV]
     lia
   exact this rows h2
  lia
 ·refine m4 (n:=7) ?_;show a3B [φ (.int N),ζ,ζ,ζ,ζ,ζ,ζ,ζ]=_;unfold a3B;refine(P0 (l:=[]) (by rfl)).trans ?_
  refine(e8 ea).trans ?_;refine(e8 e3).trans ?_;refine(W9 e4 e5).trans ?_;refine L7 ?_;rw [j4];have et:m1 a2J (a6 1) [φ (.int N),ξ (.own (rows.map row)),φ (row al),φ (.int (w:Nat)),q4,q5,q6,q7]=φ (.tuple (rows.map row)):=by
   refine one (r:= .bor (rows.map row)) rfl ?_
   rfl
  unfold r9 a4;rw [et]
  rfl
theorem c5U{x y:M}{ρ:b7}{p:PV}{qs:List PV}(h1:x ρ=φ p)(h2:y ρ=ξ (.own qs)):r9 (a4 x (a4 y b5)) ρ=φ (.tuple [p,.list qs]):=by
 unfold r9 a4;rw [h1,h2]
 rfl
theorem dv{a b:M}{ρ:b7}{x k:Int}(h:a ρ=φ (.int x))(hb:b ρ=φ (.int k))(hk:0<k/\k<1073741824):m2 Ω a b ρ=φ (.int (x / k)):=by
 unfold m2;rw [h,hb];show(if okC a93 x k=true then ξ (d5.v (.int (x / k))) else ζ)=_
 rw [if_pos (a1G (C:=a93).mpr hk)]
theorem c6a{x y:M}{ρ:b7}{p q:PV}(h1:x ρ=φ p)(h2:y ρ=φ q):L5 (a4 x (a4 y b5)) ρ=ξ (.own [p,q]):=by
 unfold L5 a4;rw [h1,h2]
 rfl
theorem c6u{x y z:M}{ρ:b7}{p q r:PV}(h1:x ρ=φ p)(h2:y ρ=φ q)(h3:z ρ=φ r):r9 (a4 x (a4 y (a4 z b5))) ρ=φ (.tuple [p,q,r]):=by
 unfold r9 a4;rw [h1,h2,h3]
 rfl
theorem c6v{x y z u:M}{ρ:b7}{p q r v:PV}(h1:x ρ=φ p)(h2:y ρ=φ q)(h3:z ρ=φ r)(h4:u ρ=φ v):r9 (a4 x (a4 y (a4 z (a4 u b5)))) ρ=φ (.tuple [p,q,r,v]):=by
 unfold r9 a4;rw [h1,h2,h3,h4]
 rfl
theorem c0Q:AD "abcdefghijklmnopqrstuvwxyz"=S ((AZ 26).map (97+·)):=by decide+kernel
theorem b3x(k:Nat)(h:k<26):∃a,lt1 a=true/\j7 (.v (.str (AD "abcdefghijklmnopqrstuvwxyz"))) (.v (.int (k:Nat)))=φ (row [a]):=
 ⟨97+k,c1u.mpr (by lia),by rw [c0Q];exact b88 (by simp) (by rw [b0U,Ak,List.getElem?_range h];rfl)⟩
abbrev sS(N:Int)(m l:Mo)(a b c d:Υ d5):b7:=[φ (.int N),φ (j4 m),φ (j4 l),a,b,c,d]
theorem c2K{k:Nat}:∀{ps:List Mo},(∀p∈ps,(M3 p).length<=k)->(J6 [44,32] (a4W ps)).length<=ps.length*(k+2)
 |[],_=>by rw [a4W];simp [J6]
 |[p],h=>by
  have:=h p AU;rw [a4W,a4W];simp only [J6,AV,Al]
  lia
 |p::q::r,h=>by
  have h1:=h p AU;have h2:=c2K (ps:=q::r) λx hx=>h x (Ab _ hx);rw [a4W];rw [a4W] at h2 ⊢;simp only [J6,AW,AV,Al,Nat.add_mul] at h2 ⊢
  lia
def b9j(m l:Mo)(q:Υ d5):Prop:=∃r,q=φ (j4 r)/\v7 r/\p9 r<=2+max (p9 m) (p9 l)/\(M3 r).length<=6*max (M3 m).length (M3 l).length+40
theorem c2o{m l:Mo}(okm:v7 m)(okl:v7 l)(N:Int):b9j m l (X0 [.int N,j4 m,j4 l]):=by
 obtain⟨s,hs⟩:∃s:Int,s=N*62089911 % 999931 % 9:=⟨_,rfl⟩;have s0:0<=s/\s<9:=by lia
 obtain⟨b,hb⟩:∃b:Bool,b=decide (N % 7=1):=⟨_,rfl⟩;obtain⟨t,ht0,ht1,ht⟩:∃t:Nat,1<=t/\t<=24/\((t:Nat):Int)=1+N*742938285 % 999959 %(if b=true then 24 else 4):=by
  refine⟨(1+N*742938285 % 999959 %(if b=true then 24 else 4)).toNat, ?_, ?_, ?_⟩<;>split<;>lia
 have e3:m2 Θ (m2 Θ (m2 u4 (a6 0) (mC (.int 62089911))) (mC (.int 999931))) (mC (.int 9)) (sS N m l ζ ζ ζ ζ)=φ (.int s):=by
  rw [hs];exact md (md (ml rfl (by lia)) rfl (by lia)) rfl (by lia)
 have e4:∀q3,m2 y9 (mC (.int 1)) (m2 Θ (m2 Θ (m2 u4 (a6 0) (mC (.int 742938285))) (mC (.int 999959))) (m2 j7 (L5 (a4 (mC (.int 4)) (a4 (mC (.int 24)) b5))) (m1 b87 (m2 D4 (m2 Θ (a6 0) (mC (.int 7))) (mC (.int 1)))))) (sS N m l q3 ζ ζ ζ)=φ (.int (t:Nat)):=λq3=>by
  rw [ht];refine adI rfl (md (md (ml rfl (by lia)) rfl (by lia)) (K4 (r:= .own [.int 4,.int 24]) (q:= .v (.int (if b=true then 1 else 0))) rfl (one (K4 (md rfl rfl (by lia)) rfl (b85 _ _)) ?_) (by cases b<;>rfl)) (by split<;>lia))
  have:(N % 7==1)=b:=by rw [hb];rfl
  rw [this]
  rfl
 have go:∀{r:Mo},v7 r->p9 r<=2+max (p9 m) (p9 l)->(M3 r).length<=6*max (M3 m).length (M3 l).length+40->a8D (sS N m l ζ ζ ζ ζ)=ξ (.rt (.v (j4 r)))->b9j m l (X0 [.int N,j4 m,j4 l]):=λ {r} h1 h3 h4 h=>⟨r,m4 (n:=4) h,h1,h3,h4⟩;have hd:∀{q:Υ Fl} {n:MS},n (sS N m l (φ (.int s)) (φ (.int (t:Nat))) (φ (.str (AD "abcdefghijklmnopqrstuvwxyz"))) ζ)=q->i7 (n3 3 (m2 Θ (m2 Θ (m2 u4 (a6 0) (mC (.int 62089911))) (mC (.int 999931))) (mC (.int 9)))) (i7 (n3 4 (m2 y9 (mC (.int 1)) (m2 Θ (m2 Θ (m2 u4 (a6 0) (mC (.int 742938285))) (mC (.int 999959))) (m2 j7 (L5 (a4 (mC (.int 4)) (a4 (mC (.int 24)) b5))) (m1 b87 (m2 D4 (m2 Θ (a6 0) (mC (.int 7))) (mC (.int 1)))))))) (i7 (n3 5 (mC (.str (AD "abcdefghijklmnopqrstuvwxyz")))) n)) (sS N m l ζ ζ ζ ζ)=q:=λ {q n} h=>by
  refine(e8 e3).trans ?_;refine(e8 (e4 _)).trans ?_;refine(e8 (p:= .str (AD "abcdefghijklmnopqrstuvwxyz")) rfl).trans ?_;exact h
 clear e3 e4 hs ht;have dm:p9 m<=max (p9 m) (p9 l):=Nat.le_max_left _ _;have dl:p9 l<=max (p9 m) (p9 l):=Nat.le_max_right _ _;have sm:(M3 m).length<=max (M3 m).length (M3 l).length:=Nat.le_max_left _ _;have sl:(M3 l).length<=max (M3 m).length (M3 l).length:=Nat.le_max_right _ _;have tl:∀w∈W2,w.length<=5:=by decide
 have dl2:=(c3j t).2;have hc:s=0\/s=1\/s=2\/s=3\/s=4\/s=5\/s=6\/s=7\/s=8:=by lia
 rcases hc with rfl|rfl|rfl|rfl|rfl|rfl|rfl|rfl|rfl
 ·obtain⟨j,hj⟩:∃j:Int,j=N % 7:=⟨_,rfl⟩;have tw:∃w∈W2,j7 (.bo (.lst (W2.map row))) (.v (.int j))=φ (row w):=by
   have:j=0\/j=1\/j=2\/j=3\/j=4\/j=5\/j=6:=by lia
   rcases this with h|h|h|h|h|h|h<;>rw [h]
   ·exact⟨[116,117,114,110],by decide,rfl⟩
   ·exact⟨[104,97,108,102],by decide,rfl⟩
   ·exact⟨[98,97,99,107],by decide,rfl⟩
   ·exact⟨[115,105,100,101],by decide,rfl⟩
   ·exact⟨[102,108,105,112],by decide,rfl⟩
   ·exact⟨[99,114,111,115,115],by decide,rfl⟩
   ·exact⟨[111,116,104,101,114],by decide,rfl⟩
  obtain⟨w,hw,ew⟩:=tw;refine go (r:= .turned w m) (by rw [v7];exact⟨hw,okm⟩) (by rw [p9];lia) (by have:=tl w hw;rw [M3];simp only [AW,AV,Al];lia) (hd ?_)
  refine K5 rfl ?_;refine(P0 (l:=W2.map row) rfl).trans ?_;refine L7 ?_;rw [j4];exact c6u rfl (K4 rfl (md rfl rfl (by lia)) (hj▸ew)) rfl
 ·obtain⟨a,ha,ea⟩:=b3x (N % 4).toNat (by lia)
  obtain⟨c,hc,ec⟩:=b3x (N / 4 % 26).toNat (by lia)
  rw [show(((N % 4).toNat:Nat):Int)=N % 4 by lia] at ea
  rw [show(((N / 4 % 26).toNat:Nat):Int)=N / 4 % 26 by lia] at ec
  refine go (r:= .dyed a c m) (by rw [v7];exact⟨ha,hc,okm⟩) (by rw [p9];lia) (by rw [M3];simp only [AW,AV,Al];lia) (hd ?_)
  rw [b0 rfl];refine j8 rfl ?_;rw [j4];exact c6v rfl (K4 rfl (md rfl rfl (by lia)) ea) (K4 rfl (md (dv rfl rfl (by lia)) rfl (by lia)) ec) rfl
 ·refine go (r:= .across t m) (by rw [v7];exact⟨ht0,ht1,okm⟩) (by rw [p9];lia) (by rw [M3];simp only [AW,AV,Al];lia) (hd ?_)
  rw [b0 rfl,b0 rfl];refine j8 rfl ?_;rw [j4]
  rfl
 ·refine go (r:= .down t m) (by rw [v7];exact⟨ht0,ht1,okm⟩) (by rw [p9];lia) (by rw [M3];simp only [AW,AV,Al];lia) (hd ?_)
  rw [b0 rfl,b0 rfl,b0 rfl];refine j8 rfl ?_;rw [j4]
  rfl
 ·refine go (r:= .beside [m,l]) (by rw [v7];exact⟨by simp,by simp,a4N (by simp [okm,okl])⟩) (by have:=a4H (ps:=[m,l]) (k:=max (p9 m) (p9 l)) (by simp [dm,dl]);rw [p9];lia) (by rw [M3];simp only [a4W,J6,M3,AW,AV,Al];lia) (hd ?_)
  rw [b0 rfl,b0 rfl,b0 rfl,b0 rfl];refine j8 rfl ?_;rw [j4]
  rfl
 ·refine go (r:= .above [m,l]) (by rw [v7];exact⟨by simp,by simp,a4N (by simp [okm,okl])⟩) (by have:=a4H (ps:=[m,l]) (k:=max (p9 m) (p9 l)) (by simp [dm,dl]);rw [p9];lia) (by rw [M3];simp only [a4W,J6,M3,AW,AV,Al];lia) (hd ?_)
  rw [b0 rfl,b0 rfl,b0 rfl,b0 rfl,b0 rfl];refine j8 rfl ?_;rw [j4]
  rfl
 ·refine go (r:= .beside [m,.turned [115,105,100,101] m]) (by rw [v7];exact⟨by simp,by simp,a4N (by simp [okm,v7,W2])⟩) (by have:=a4H (ps:=[m,.turned [115,105,100,101] m]) (k:=1+max (p9 m) (p9 l)) (by simp [p9];lia);rw [p9];lia) (by rw [M3];simp only [a4W,J6,M3,AW,AV,Al];lia) (hd ?_)
  rw [b0 rfl,b0 rfl,b0 rfl,b0 rfl,b0 rfl,b0 rfl];refine j8 rfl ?_;rw [j4,a4D,a4D,j4]
  rfl
 ·refine go (r:= .above [m,.turned [102,108,105,112] m,m]) (by rw [v7];exact⟨by simp,by simp,a4N (by simp [okm,v7,W2])⟩) (by have:=a4H (ps:=[m,.turned [102,108,105,112] m,m]) (k:=1+max (p9 m) (p9 l)) (by simp [p9];lia);rw [p9];lia) (by rw [M3];simp only [a4W,J6,M3,AW,AV,Al];lia) (hd ?_)
  rw [b0 rfl,b0 rfl,b0 rfl,b0 rfl,b0 rfl,b0 rfl,b0 rfl];refine j8 rfl ?_;rw [j4,a4D,a4D,a4D,j4]
  rfl
 ·obtain⟨j,hj⟩:∃j:Int,j=N % 5:=⟨_,rfl⟩;have fin:∀{ps:List Mo},2<=ps.length->ps.length<=6->(∀p∈ps,p=m\/p=l)->gSl (.own [j4 l,j4 m,j4 l,j4 m,j4 l,j4 m]) ζ (ξ (2+j))=ξ (.own (a4D ps))->b9j m l (X0 [.int N,j4 m,j4 l]):=λ {ps} p1 p2 p3 p4=>by
   refine go (r:= .beside ps) (by rw [v7];exact⟨p1,p2,a4N λp hp=>by rcases p3 p hp with rfl|rfl<;>assumption⟩) (by have:=a4H (ps:=ps) (k:=max (p9 m) (p9 l)) (λp hp=>by rcases p3 p hp with rfl|rfl<;>assumption);rw [p9];lia) (by have g:=c2K (ps:=ps) (k:=max (M3 m).length (M3 l).length) (λp hp=>by rcases p3 p hp with rfl|rfl<;>assumption);have:=Nat.mul_le_mul_right (max (M3 m).length (M3 l).length+2) p2;rw [M3];simp only [AW,AV,Al];lia) (hd ?_)
   rw [b0 rfl,b0 rfl,b0 rfl,b0 rfl,b0 rfl,b0 rfl,b0 rfl,b0 rfl];refine L7 ?_;rw [j4];refine c5U rfl ?_;rw [b5F,K4 (c6a rfl rfl) rfl (b7G ⟨⟨by lia,by lia⟩,by simp⟩),AR]
   show((m2 y9 (mC (.int 2)) (m2 Θ (a6 0) (mC (.int 5))) _).bind b9n).bind _=_;rw [adI rfl (md rfl rfl (by lia)),<-hj]
   exact p4
  have:j=0\/j=1\/j=2\/j=3\/j=4:=by lia
  rcases this with h|h|h|h|h<;>rw [h] at fin
  ·exact fin (ps:=[l,m]) (by simp) (by simp) (by simp) rfl
  ·exact fin (ps:=[l,m,l]) (by simp) (by simp) (by simp) rfl
  ·exact fin (ps:=[l,m,l,m]) (by simp) (by simp) (by simp) rfl
  ·exact fin (ps:=[l,m,l,m,l]) (by simp) (by simp) (by simp) rfl
  ·exact fin (ps:=[l,m,l,m,l,m]) (by simp) (by simp) (by simp) rfl
theorem b3A{bt:Nat->Nat->Bool}{K:Nat->Int}(h:∀i j,bt i j=decide (K i>K j)):∀m,argBest bt m<=m/\∀j,j<=m->K j<=K (argBest bt m)
 |0=>⟨AQ _,λj hj=>by
  have:j=0:=by lia
  subst this;exact Int.le_refl _⟩
 |m+1=>by
  obtain⟨h1,h2⟩:=b3A h m;have hb:=h (m+1) (argBest bt m);simp only [argBest]
  by_cases c:K (m+1)>K (argBest bt m)
  ·rw [hb,decide_eq_true c];simp only [if_true];refine⟨AQ _,λj hj=> ?_⟩;rcases Nat.lt_or_ge j (m+1) with hj'|hj'
   ·have:=h2 j (by lia);lia
   ·have:j=m+1:=by lia
    subst this;exact Int.le_refl _
  ·rw [hb,decide_eq_false c];simp only [Ax,if_false];refine⟨by lia,λj hj=> ?_⟩
   rcases Nat.lt_or_ge j (m+1) with hj'|hj'
   ·exact h2 j (by lia)
   ·have:j=m+1:=by lia
    subst this
    lia
theorem b7n{is:List Int}(h0:0<is.length):a19 is∈is/\∀i∈is,i<=a19 is:=by
 obtain⟨h1,h2⟩:=b3A (bt:=λi j=>decide (is.getD i 0>is.getD j 0)) (K:=λi=>is.getD i 0) (λi j=>rfl) (is.length - 1);have hb:argBest (λi j=>decide (is.getD i 0>is.getD j 0)) (is.length - 1)<is.length:=by lia
 constructor
 ·unfold a19;rw [List.getD_eq_getElem?_getD,Ap hb];exact List.getElem_mem hb
 ·intro i hi;obtain⟨j,hj,rfl⟩:=List.getElem_of_mem hi;have:=h2 j (by lia)
  simp only [List.getD_eq_getElem?_getD,Ap hj] at this;unfold a19;rw [List.getD_eq_getElem?_getD]
  simpa using this
abbrev NL(α:Type):=List (List Nat×α)
section
variable {α:Type}
def dN(f:α->PV)(K:NL α):Γ:=K.map λx=>([.inr (S x.1)],f x.2)
def t5(K:NL α)(w:List Nat):Υ α:=(K.find? λx=>decide (x.1=w)).map (·.2)
def E1(K:NL α)(w:List Nat)(a:α):NL α:=if(K.any λx=>decide (x.1=w))=true then K.map (λx=>if x.1=w then(x.1,a) else x) else K++[(w,a)]
theorem a6n{v w:List Nat}:([Sum.inr (S v)]:List n4)=[.inr (S w)]↔v=w:=⟨λh=>b8r (Sum.inr.inj (List.cons.inj h).1),λh=>by rw [h]⟩
theorem a15(f:α->PV)(w:List Nat):∀K:NL α,D6 (dN f K) [.inr (S w)]=(t5 K w).map f
 |[]=>rfl
 |(v,a)::K=>by
  unfold t5;rw [List.find?_cons];show D6 (([.inr (S v)],f a)::dN f K) _=_;rw [P4]
  by_cases h:v=w
  ·rw [if_pos (a6n.mpr h),decide_eq_true h];rfl
  ·rw [if_neg (λz=>h (a6n.mp z)),decide_eq_false h];exact a15 f w K
theorem b27(f:α->PV)(K:NL α)(w:List Nat)(a:α):b5T (dN f K) [.inr (S w)] (f a)=dN f (E1 K w a):=by
 have ha:((dN f K).any λkv=>decide (kv.1=[.inr (S w)]))=K.any λx=>decide (x.1=w):=by
  unfold dN;rw [List.any_map]
  congr 1
  funext x
  exact decide_eq_decide.mpr a6n
 unfold b5T E1;rw [ha];split
 ·unfold dN;rw [Aj,Aj];refine List.map_congr_left λx _=> ?_;show(if _ then _ else _)=_
  by_cases h:x.1=w
  ·rw [if_pos (a6n.mpr h)];show _=([Sum.inr (S (if x.1=w then(x.1,a) else x).1)],f (if x.1=w then(x.1,a) else x).2)
   rw [if_pos h]
  ·rw [if_neg (λz=>h (a6n.mp z))];show _=([Sum.inr (S (if x.1=w then(x.1,a) else x).1)],f (if x.1=w then(x.1,a) else x).2)
   rw [if_neg h]
 ·unfold dN;rw [Ao]
  rfl
theorem a1a(K:NL α)(w:List Nat)(a:α)(v:List Nat):t5 (E1 K w a) v=if w=v then ξ a else t5 K v:=by
 have h1:=c0K (dN (λ_=>PyData.none) K) [.inr (S w)] .none [.inr (S v)];unfold E1;split
 ·rename_i ha;clear h1
  induction K with
  |nil=>cases ha
  |cons x K ih=>
   unfold t5;rw [AM,List.find?_cons,List.find?_cons]
   by_cases hx:x.1=w
   ·rw [if_pos hx]
    by_cases hv:w=v
    ·rw [if_pos hv,decide_eq_true (by rw [hx];exact hv)];rfl
    ·rw [if_neg hv,decide_eq_false (λz=>hv (hx.symm.trans z))];have:∀L:NL α,(L.map (λx=>if x.1=w then(x.1,a) else x)).find? (λx=>decide (x.1=v))=L.find? (λx=>decide (x.1=v)):=λL=>by
      induction L with
      |nil=>rfl
      |cons y L ih=>
       rw [AM,List.find?_cons,List.find?_cons,ih]
       by_cases hy:y.1=w
       ·rw [if_pos hy,decide_eq_false (λz=>hv (hy.symm.trans z))]
       ·rw [if_neg hy]
     rw [this]
   ·rw [if_neg hx];rw [List.any_cons,decide_eq_false hx,Bool.false_or] at ha;have:=ih ha;unfold t5 at this
    by_cases hv:x.1=v
    ·rw [decide_eq_true hv,if_neg (λz=>hx (hv.trans z.symm))]
    ·rw [decide_eq_false hv];exact this
 ·rename_i ha;clear h1
  induction K with
  |nil=>
   unfold t5;rw [BD,List.find?_cons]
   by_cases hv:w=v
   ·rw [if_pos hv,decide_eq_true hv];rfl
   ·rw [if_neg hv,decide_eq_false hv]
  |cons x K ih=>
   rw [List.any_cons,Bool.or_eq_true,not_or] at ha;have hx:x.1≠w:=λz=>ha.1 (decide_eq_true z);have:=ih ha.2;unfold t5 at this ⊢;rw [Av,List.find?_cons,List.find?_cons]
   by_cases hv:x.1=v
   ·rw [decide_eq_true hv,if_neg (λz=>hx (hv.trans z.symm))]
   ·rw [decide_eq_false hv];exact this
theorem Q5{K:NL α}{w:List Nat}{a:α}(h:t5 K w=ξ a):(w,a)∈K:=by
 unfold t5 at h;cases e:K.find? λx=>decide (x.1=w) with
 |none=>rw [e] at h;cases h
 |some x=>
  rw [e] at h;cases h;have h1:=List.mem_of_find?_eq_some e;have h2:x.1=w:=by simpa using List.find?_some e
  rw [<-h2];exact h1
theorem a9h{K:NL α}{w:List Nat}(h:w∈K.map (·.1)):∃a,t5 K w=ξ a:=by
 obtain⟨x,hx,rfl⟩:=Ag.mp h;unfold t5;cases e:K.find? λy=>decide (y.1=x.1) with
 |none=>have:=List.find?_eq_none.mp e x hx;simp at this
 |some y=>exact⟨_,rfl⟩
theorem Z7(f:α->PV)(K:NL α):b4t (dN f K)=true:=by
 unfold b4t dN;rw [List.all_map];exact List.all_eq_true.mpr λ_ _=>rfl
theorem c1q(f:α->PV)(K:NL α):((dN f K).map λkv=>k1 kv.1)=(K.map (·.1)).map row:=by
 unfold dN;rw [Aj,Aj]
 rfl
theorem a2R(f:α->PV)(K:NL α):(dN f K).length=K.length:=AT _
theorem a2n(K:NL α)(w:List Nat)(a:α):(E1 K w a).length<=K.length+1:=by
 unfold E1;split
 ·rw [AT];lia
 ·rw [AW,List.length_singleton];exact AQ _
end
abbrev u9:=Nat×Nat
def PR(d:u9):PV:= .tuple [.int (d.1:Nat),.int (d.2:Nat)]
def a37(w:List Nat):Bool:=decide (w∈[[116,117,114,110],[98,97,99,107],[99,114,111,115,115],[111,116,104,101,114]])
def a08(be:Bool)(x d:u9):Υ u9:=if be=true then(if d.1=x.1/\x.1<=24/\x.2+d.2<=24 then ξ (x.1,x.2+d.2) else ζ) else(if d.2=x.2/\x.1+d.1<=24/\x.2<=24 then ξ (x.1+d.1,x.2) else ζ)
def U4(be:Bool):u9->List u9->Υ u9
 |x,[]=>ξ x
 |x,d::ds=>(a08 be x d).bind λy=>U4 be y ds
def a7N(be:Bool):List u9->Υ u9
 |[]=>ζ
 |d::ds=>U4 be d ds
def a1E(ac:Bool)(k:Nat)(d:u9):Υ u9:=if ac=true then(if d.1<=24/\d.2*k<=24 then ξ (d.1,d.2*k) else ζ) else(if d.1*k<=24/\d.2<=24 then ξ (d.1*k,d.2) else ζ)
def b1L(w:List Nat)(d:u9):u9:=if a37 w=true then(d.2,d.1) else d
mutual
def x6(K:NL u9):Mo->Υ u9
 | .plain rows=>ξ (rows.length,(rows.headD []).length)
 | .named w=>t5 K w
 | .beside ps=>(J3 K ps).bind (a7N true)
 | .above ps=>(J3 K ps).bind (a7N false)
 | .across k p=>(x6 K p).bind (a1E true k)
 | .down k p=>(x6 K p).bind (a1E false k)
 | .turned w p=>(x6 K p).map (b1L w)
 | .dyed _ _ p=>x6 K p
def J3(K:NL u9):List Mo->Υ (List u9)
 |[]=>ξ []
 |p::ps=>(x6 K p).bind λd=>(J3 K ps).map λds=>d::ds
end
def isE(q:PV):Prop:=∃z y:Str,q= .tuple [.str z,.str y]
def RS(o:Υ u9)(q:PV):Prop:=match o with
 |some d=>q=PR d
 |none=>isE q
def sz(p:PV):Prop:=(∃d:u9,p=PR d)\/isE p
theorem RS.sz{o:Υ u9}{q:PV}(h:RS o q):sz q:=by
 cases o with
 |none=>exact .inr h
 |some d=>exact .inl ⟨d,h⟩
theorem b5J(d:u9):∃k:Int,a2f (.v (PR d))=φ (.int k)/\(d.1:Int)<=k/\(d.2:Int)<=k/\(k=d.1\/k=d.2):=by
 obtain⟨h1,h2⟩:=b7n (is:=[(d.1:Int),(d.2:Int)]) (by simp)
 exact⟨a19 [(d.1:Int),(d.2:Int)],rfl,h2 _ (by simp),h2 _ (by simp),by simpa using h1⟩
theorem b2G(a b:Int):gNe (.v (.int a)) (.v (.int b))=φ (.bool (!decide (a=b))):=by
 have:gNe (.v (.int a)) (.v (.int b))=φ (.bool (!η (.int a) (.int b))):=rfl;rw [this];have:η (.int a) (.int b)=decide (a=b):=by
  by_cases h:a=b<;>simp [η,h]
 rw [this]
theorem b2k{it:MI}{tg:PV->b7->Υ b7}{body n:MS}{ρ:b7}{ps:List PV}{r:d5}(h1:it ρ=ξ ps)(h2:y0 body tg ps ρ=ξ (.rt r)):i7 (M7 it tg body) n ρ=ξ (.rt r):=by
 unfold i7 M7;rw [h1,AR,h2]
 rfl
theorem c0s{m n:MS}{ρ:b7}{r:d5}(h:m ρ=ξ (.rt r)):i7 m n ρ=ξ (.rt r):=by
 unfold i7;rw [h]
 rfl
theorem B6{m n:MS}{ρ ρ':b7}(h:m ρ=ξ (.nx ρ')):i7 m n ρ=n ρ':=by
 unfold i7;rw [h]
 rfl
theorem at0{x:d5}{p:PV}{ds:List PV}(h:x.rd= .list (p::ds)\/x.rd= .tuple (p::ds)):j7 x (.v (.int 0))=φ p:=by
 have e:L2.atI (p::ds) 0=ξ p:=(b0U (k:=0)).trans rfl;unfold j7;rcases h with h|h<;>rw [h]<;>show(L2.atI (p::ds) 0).map d5.v=_<;>rw [e]<;>rfl
theorem c0G{x y:M}{ρ:b7}{p q:PV}(h1:x ρ=φ p)(h2:y ρ=φ q):r9 (a4 x (a4 y b5)) ρ=φ (.tuple [p,q]):=by
 unfold r9 a4;rw [h1,h2]
 rfl
def a6m(o:Υ u9)(f:Υ Fl):Prop:=∃p,f=ξ (.rt (.v p))/\RS o p
theorem a8k(z y:Str):a6m ζ (ξ (.rt (.v (.tuple [.str z,.str y])))):=⟨_,rfl,_,_,rfl⟩
def U5(w:PV)(s1 q3:Υ d5)(d:u9):b7:=[φ w,s1,φ (PR d),q3]
theorem c2C{i:Nat}{ρ:b7}{d:u9}(h:ρ[i]?=ξ (φ (PR d))):u5 (m2 (gI λi j=> .bool (decide (j<i))) (m1 a2f (a6 i)) (mC (.int 24))) ρ=ξ (decide (¬(d.1<=24/\d.2<=24))):=by
 obtain⟨k,hk,h1,h2,h3⟩:=b5J d;have v:a6 i ρ=φ (PR d):=by unfold a6;rw [h]
 refine(J5 (r:= .v (.int k)) (one v hk) (q:= .v (.int 24)) (b:=decide ((24:Int)<k)) rfl rfl).trans ?_
 congr 1
 exact decide_eq_decide.mpr ⟨λz=>by lia,λz=>by lia⟩
abbrev wrd(be:Bool):PV:= .str (if be=true then AD "beside" else AD "above")
theorem b7T(be:Bool){s1:Υ d5}(x d:u9):(a08 be x d=ζ/\a6m ζ (o8 (U5 (wrd be) s1 (φ (PR d)) x)))\/∃y,a08 be x d=ξ y/\o8 (U5 (wrd be) s1 (φ (PR d)) x)=ξ (.nx (U5 (wrd be) s1 (φ (PR d)) y)):=by
 have fin:∀y:u9,(y.1<=24/\y.2<=24->a08 be x d=ξ y)->(¬(y.1<=24/\y.2<=24)->a08 be x d=ζ)->o8 (U5 (wrd be) s1 (φ (PR d)) x)=o9 (u5 (m2 (gI λi j=> .bool (decide (j<i))) (m1 a2f (a6 2)) (mC (.int 24)))) (k7 (r9 (a4 (mC (.str (AD "wide"))) (a4 (mC (.str (AD ""))) b5)))) l0 (U5 (wrd be) s1 (φ (PR d)) y)->(a08 be x d=ζ/\a6m ζ (o8 (U5 (wrd be) s1 (φ (PR d)) x)))\/∃y,a08 be x d=ξ y/\o8 (U5 (wrd be) s1 (φ (PR d)) x)=ξ (.nx (U5 (wrd be) s1 (φ (PR d)) y)):=λy h1 h2 h3=>by
  have e:=c2C (i:=2) (ρ:=U5 (wrd be) s1 (φ (PR d)) y) (d:=y) rfl;rw [h3]
  by_cases h:y.1<=24/\y.2<=24
  ·rw [decide_eq_false (λz=>z h)] at e;exact .inr ⟨y,h1 h,by rw [a9i e];rfl⟩
  ·rw [decide_eq_true h] at e;rw [a3j e];exact .inl ⟨h2 h,a8k _ _⟩
 cases be with
 |true=>
  have t0:u5 (m2 D4 (a6 0) (mC (.str (AD "beside")))) (U5 (wrd true) s1 (φ (PR d)) x)=ξ true:=rfl;have t1:u5 (m2 gNe (m2 j7 (a6 3) (mC (.int 0))) (m2 j7 (a6 2) (mC (.int 0)))) (U5 (wrd true) s1 (φ (PR d)) x)=ξ (!decide ((d.1:Int)=x.1)):=J5 (r:= .v (.int (d.1:Nat))) rfl (q:= .v (.int (x.1:Nat))) rfl (b2G _ _)
  by_cases h:d.1=x.1
  ·rw [decide_eq_true (by lia)] at t1
   refine fin (x.1,x.2+d.2) (λz=> ?_) (λz=> ?_) ?_
   ·unfold a08;rw [if_pos rfl,if_pos ⟨h,z.1,z.2⟩]
   ·unfold a08;rw [if_pos rfl,if_neg (λc=>z ⟨c.2.1,c.2.2⟩)]
   ·unfold o8;refine B6 ?_;rw [a3j t0,b0 t1];exact a1R rfl
  ·rw [decide_eq_false (by lia)] at t1
   refine .inl ⟨by unfold a08;rw [if_pos rfl,if_neg (λc=>h c.1)], ?_⟩
   unfold o8;rw [c0s (r:= .v (.tuple [.str (AD "misfit"),.str (AD "")])) (by rw [a3j t0];exact j8 t1 rfl)]
   exact a8k _ _
 |false=>
  have t0:u5 (m2 D4 (a6 0) (mC (.str (AD "beside")))) (U5 (wrd false) s1 (φ (PR d)) x)=ξ false:=rfl;have t1:u5 (m2 gNe (m2 j7 (a6 3) (mC (.int 1))) (m2 j7 (a6 2) (mC (.int 1)))) (U5 (wrd false) s1 (φ (PR d)) x)=ξ (!decide ((d.2:Int)=x.2)):=J5 (r:= .v (.int (d.2:Nat))) rfl (q:= .v (.int (x.2:Nat))) rfl (b2G _ _)
  by_cases h:d.2=x.2
  ·rw [decide_eq_true (by lia)] at t1
   refine fin (x.1+d.1,x.2) (λz=> ?_) (λz=> ?_) ?_
   ·unfold a08;rw [if_neg Af,if_pos ⟨h,z.1,z.2⟩]
   ·unfold a08;rw [if_neg Af,if_neg (λc=>z ⟨c.2.1,c.2.2⟩)]
   ·unfold o8;refine B6 ?_;rw [a9i t0,b0 t1];exact a1R rfl
  ·rw [decide_eq_false (by lia)] at t1
   refine .inl ⟨by unfold a08;rw [if_neg Af,if_neg (λc=>h c.1)], ?_⟩
   unfold o8;rw [c0s (r:= .v (.tuple [.str (AD "misfit"),.str (AD "")])) (by rw [a9i t0];exact j8 t1 rfl)]
   exact a8k _ _
theorem b1k(be:Bool){s1:Υ d5}:∀(ds:List u9) (x:u9) (q3:Υ d5),(U4 be x ds=ζ/\a6m ζ (y0 o8 (j3 3) (ds.map PR) (U5 (wrd be) s1 q3 x)))\/∃y q3',U4 be x ds=ξ y/\y0 o8 (j3 3) (ds.map PR) (U5 (wrd be) s1 q3 x)=ξ (.nx (U5 (wrd be) s1 q3' y))
 |[],x,q3=> .inr ⟨x,q3,rfl,rfl⟩
 |d::ds,x,q3=>by
  have e:y0 o8 (j3 3) ((d::ds).map PR) (U5 (wrd be) s1 q3 x)=(o8 (U5 (wrd be) s1 (φ (PR d)) x)).bind (λfl=>match fl with
   | .nx ρ2=>y0 o8 (j3 3) (ds.map PR) ρ2
   | .ct ρ2=>y0 o8 (j3 3) (ds.map PR) ρ2
   | .bk ρ2=>ξ (.nx ρ2)
   | .rt r=>ξ (.rt r)):=by
   rw [AM,y0]
   rfl
  rw [U4];rcases b7T be (s1:=s1) x d with⟨h0,p,e1,e2⟩|⟨y,h0,e1⟩
  ·refine .inl ⟨by rw [h0];rfl,p, ?_,e2⟩
   rw [e,e1]
   rfl
  ·rw [e,e1,h0,AR];exact b1k be ds y _
theorem b1D{n:Nat}{b:MS}{ps:List PV}{o:Υ u9}(h:a6m o (b (ps.map (λp=>ξ (d5.v p))++AS n ζ))):∃p,m3 n b ps=φ p/\RS o p:=by
 obtain⟨p,e,s⟩:=h;exact⟨p,m4 e,s⟩
theorem b9z(be:Bool){ds:List u9}(hn:ds≠[]):∃p,a2L [wrd be,.list (ds.map PR)]=φ p/\RS (a7N be ds) p:=by
 refine b1D (n:=2) ?_;show a6m _ (a5t [φ (wrd be),φ (.list (ds.map PR)),ζ,ζ]);unfold a5t;cases ds with
 |nil=>exact absurd rfl hn
 |cons d ds=>
  rw [e8 (p:=PR d) (K4 (r:= .v (.list (PR d::ds.map PR))) (q:= .v (.int 0)) rfl rfl (at0 (.inl rfl)))];have e0:X3 (R9 (a6 1) (V4 (mC (.int 1))) X4) (U5 (wrd be) (φ (.list (PR d::ds.map PR))) ζ d)=ξ (ds.map PR):=by
   show ξ (cut (PR d::ds.map PR) (ξ 1) ζ)=ξ (ds.map PR);unfold cut HT.sIx;simp;exact List.take_of_length_le (by simp)
  rcases b1k be (s1:=φ (.list (PR d::ds.map PR))) ds d ζ with⟨h0,p,e1,s⟩|⟨y,q3',h0,e1⟩
  ·exact⟨p,b2k e0 e1,by rw [a7N,h0];exact s⟩
  ·exact⟨PR y,(W9 e0 e1).trans rfl,by rw [a7N,h0];rfl⟩
def isS:PV->Bool
 | .tuple (.str _::_)=>true
 |_=>false
theorem a1C{p:PV}(h:sz p){x:M}{ρ:b7}(hx:x ρ=φ p):m1 (a3p "str") (m2 j7 x (mC (.int 0))) ρ=φ (.bool (isS p)):=by
 rcases h with⟨d,rfl⟩|⟨z,y,rfl⟩
 ·exact one (r:= .v (.int (d.1:Nat))) (K4 (q:= .v (.int 0)) hx rfl rfl) rfl
 ·exact one (r:= .v (.str z)) (K4 (q:= .v (.int 0)) hx rfl rfl) rfl
theorem c4L{l:List PV}(h:∀p∈l,sz p)(k:Nat):G4 l (k+2)=true:=b3R λp hp=>by
 rcases h p hp with⟨d,rfl⟩|⟨z,y,rfl⟩<;>rfl
theorem c31{l:List PV}(h:∀p∈l,sz p):gNe (.bor l) (.own [])=φ (.bool (!l.isEmpty)):=by
 have e:gNe (.bor l) (.own [])=if G4 l 49=true/\G4 [] 49=true then φ (.bool (!η (.list l) (.list []))) else ζ:=rfl
 rw [e,if_pos ⟨c4L h 47,rfl⟩];cases l<;>rfl
def b4Q:Υ d5->PV
 |some (.v q)=>q
 |_=> .none
theorem a6v{c:MT}{i:Nat}{n:MS}{ρ:b7}{p:PV}(hc:c ρ=ξ true)(hx:ρ[i]?=ξ (φ p)):i7 (o9 c (J8 i) l0) n ρ=ξ (.rt (.v p)):=by
 refine K5 hc ?_;unfold J8;rw [hx]
theorem b75{a b:MT}{ρ:b7}{x y:Bool}(h1:a ρ=ξ x)(h2:b ρ=ξ y):a0m a b ρ=ξ (x||y):=by
 unfold a0m;rw [h1];cases x
 ·exact h2
 ·rfl
theorem b7f{w:List Nat}(h:w∈W2):b0n false (.v (row w)) (.own [.str (AD "turn"),.str (AD "back"),.str (AD "cross"),.str (AD "other")])=φ (.bool (a37 w)):=by
 have h2:w=[116,117,114,110]\/w=[104,97,108,102]\/w=[98,97,99,107]\/w=[115,105,100,101]\/w=[102,108,105,112]\/w=[99,114,111,115,115]\/w=[111,116,104,101,114]:=by
  simpa [W2] using h
 rcases h2 with rfl|rfl|rfl|rfl|rfl|rfl|rfl<;>rfl
theorem b4a{s0 s1 s2 s3 s4:Υ d5}{o:Υ u9}(d:u9)(h1:d.1<=24/\d.2<=24->o=ξ d)(h2:¬(d.1<=24/\d.2<=24)->o=ζ):a6m o (i7 (o9 (u5 (m2 (gI λi j=> .bool (decide (j<i))) (m1 a2f (a6 5)) (mC (.int 24)))) (k7 (r9 (a4 (mC (.str (AD "wide"))) (a4 (mC (.str (AD ""))) b5)))) l0) (J8 5) [s0,s1,s2,s3,s4,φ (PR d)]):=by
 have e:=c2C (i:=5) (ρ:=[s0,s1,s2,s3,s4,φ (PR d)]) (d:=d) rfl
 by_cases h:d.1<=24/\d.2<=24
 ·rw [decide_eq_false (λz=>z h)] at e;rw [b0 e,h1 h];exact⟨_,rfl,rfl⟩
 ·rw [decide_eq_true h] at e;rw [j8 e rfl,h2 h];exact a8k _ _
abbrev kd(K:NL u9):PV:=tv (dN PR K)
section
variable {R:RF}{K:NL u9}
theorem a9V:∀(ps:List Mo) (f:Mo->PV),(∀p∈ps,RS (x6 K p) (f p))->(∃ds,J3 K ps=ξ ds/\ps.map f=ds.map PR/\(ps.map f).filter isS=[])\/(J3 K ps=ζ/\∃q r,(ps.map f).filter isS=q::r/\isE q)
 |[],f,_=> .inl ⟨[],by rw [J3],rfl,rfl⟩
 |p::ps,f,h=>by
  have hp:=h p AU;rw [J3];cases e:x6 K p with
  |none=>
   rw [e] at hp;obtain⟨z,y,hq⟩:isE (f p):=hp;refine .inr ⟨rfl,f p,(ps.map f).filter isS, ?_,z,y,hq⟩;rw [AM,List.filter_cons,hq]
   rfl
  |some d=>
   rw [e] at hp;have hq:f p=PR d:=hp;rw [AR,AM,List.filter_cons,hq];rcases a9V ps f λq hq=>h q (Ab _ hq) with⟨ds,h1,h2,h3⟩|⟨h1,h2⟩
   ·exact .inl ⟨d::ds,by rw [h1];rfl,by rw [AM,h2],h3⟩
   ·exact .inr ⟨by rw [h1];rfl,h2⟩
theorem a9d{ps:List Mo}(be:Bool)(hp0:ps≠[])(hp:ps.length<=6)(h:∀p∈ps,∃q,R [j4 p,kd K]=φ q/\RS (x6 K p) q){ww:PV}:
 a6m ((J3 K ps).bind (a7N be)) (i7 (n3 3 (P6 1 (A8 (m2 j7 (a6 0) (mC (.int 1)))) (j3 6) a0l (Z5 R)))
 (i7 (n3 4 (P6 1 (A8 (a6 3)) (j3 6) (mtV (m1 (a3p "str") (m2 j7 (a6 6) (mC (.int 0))))) (a10 R)))
 (i7 (o9 (u5 (m2 gNe (a6 4) (L5 b5))) (k7 (m2 j7 (a6 4) (mC (.int 0)))) l0)
 (b0u 3 (k7 (j2 a2L (a4 (a6 2) (a4 (a6 3) b5))))))) [φ (.tuple [ww,.list (ps.map j4)]),φ (kd K),φ (wrd be),ζ,ζ,ζ]):=by
 have hf:∀p∈ps,R [j4 p,kd K]=φ (b4Q (R [j4 p,kd K]))/\RS (x6 K p) (b4Q (R [j4 p,kd K])):=λp hp=>by
  obtain⟨q,e,s⟩:=h p hp;rw [e];exact⟨rfl,s⟩
 have c1:=S4 (ι:=j4) (f:=λp=>b4Q (R [j4 p,kd K])) (k:=1) (it:=A8 (m2 j7 (a6 0) (mC (.int 1)))) (tg:=j3 6) (elt:=Z5 R) (ρ:=[φ (.tuple [ww,.list (ps.map j4)]),φ (kd K),φ (wrd be),ζ,ζ,ζ]) ps rfl (by lia) λp hp=>by
  refine⟨[φ (.tuple [ww,.list (ps.map j4)]),φ (kd K),φ (wrd be),ζ,ζ,ζ,φ (j4 p)],rfl, ?_⟩;unfold Z5;rw [(N2 rfl rfl).trans (hf p hp).1]
  rfl
 have cs:=a9V (K:=K) ps (λp=>b4Q (R [j4 p,kd K])) λp hp=>(hf p hp).2
 obtain⟨ds,hds⟩:∃ds,ds=ps.map λp=>b4Q (R [j4 p,kd K]):=⟨_,rfl⟩
 rw [<-hds] at c1 cs
 have dl:ds.length<=6:=by rw [hds,AT];exact hp
 have dz:∀q∈ds,sz q:=λq hq=>by
  rw [hds] at hq;obtain⟨p,hp,rfl⟩:=Ag.mp hq;exact(hf p hp).2.sz
 have c2:=b2z (ι:=id) (f:=id) (q:=isS) (k:=1) (it:=A8 (a6 3)) (c:=mtV (m1 (a3p "str") (m2 j7 (a6 6) (mC (.int 0))))) (tg:=j3 6) (elt:=a10 R) (ρ:=[φ (.tuple [ww,.list (ps.map j4)]),φ (kd K),φ (wrd be),ξ (.own ds),ζ,ζ]) ds (by rw [List.map_id];rfl) (by lia) λp hp=>by
  refine⟨[φ (.tuple [ww,.list (ps.map j4)]),φ (kd K),φ (wrd be),ξ (.own ds),ζ,ζ,φ p],rfl,b3j (a1C (dz p hp) rfl),λ_=>rfl⟩
 rw [List.map_id] at c2
 rw [P0 c1]
 refine Eq.mpr (congrArg _ (P0 c2)) ?_
 have bz:∀q∈ds.filter isS,sz q:=λq hq=>dz q (List.mem_filter.mp hq).1
 have t1:u5 (m2 gNe (a6 4) (L5 b5)) [φ (.tuple [ww,.list (ps.map j4)]),φ (kd K),φ (wrd be),ξ (.own ds),ξ (.own (ds.filter isS)),ζ]=ξ (!(ds.filter isS).isEmpty):=J5 (r:= .bor (ds.filter isS)) rfl (q:= .own []) rfl (c31 bz)
 rcases cs with⟨es,h1,h2,h3⟩|⟨h1,q,r,h2,h3⟩
 ·rw [h3] at t1
  have en:es≠[]:=λz=>by
   rw [z] at h2;rw [hds] at h2;exact hp0 (List.map_eq_nil_iff.mp h2)
  obtain⟨p,e1,s⟩:=b9z be en
  rw [h1,AR]
  refine⟨p, ?_,s⟩
  rw [h3]
  refine(b0 t1).trans ?_
  show k7 _ [φ (.tuple [ww,.list (ps.map j4)]),φ (kd K),φ (wrd be),φ (.list ds),ξ (.own []),ζ]=_
  rw [h2]
  exact L7 ((N2 rfl rfl).trans e1)
 ·rw [h2] at t1
  rw [h1,h2]
  exact⟨q,j8 t1 (K4 (r:= .bor (q::r)) (q:= .v (.int 0)) rfl rfl (at0 (.inl rfl))),h3⟩
theorem b9f(K:NL u9)(w:List Nat){ek ed:M}{ρ:b7}{p:PV}(h1:ρ[1]?=ξ (φ (kd K)))(hk:ek ρ=φ (row w))(hd:ed ρ=φ p):a8m 1 ek ed ρ=φ (((t5 K w).map PR).getD p):=by
 unfold a8m;rw [hk];show(b0r (.v (row w))).bind _=_;rw [show b0r (.v (row w))=ξ (S w) from rfl,AR,hd];show(ξ p).bind _=_;rw [AR,a90 h1 (Z7 PR K),AR,a15]
theorem b5D(m:Mo)(ok:v7 m)(ih:∀p,v7 p->p9 p<p9 m->∃q,R [j4 p,kd K]=φ q/\RS (x6 K p) q):∃q,m3 4 (a0U R) [j4 m,kd K]=φ q/\RS (x6 K m) q:=by
 refine b1D ?_;show a6m _ (a0U R [φ (j4 m),φ (kd K),ζ,ζ,ζ,ζ]);unfold a0U;cases m with
 |plain rows=>
  ext u
  obtain⟨v,v1,v2,v3,v4,v5⟩:=ok;rw [x6];cases rows with
  |nil=>simp at v3
  |cons r rows=>
   rw [j4,e8 (p:= .str (AD "plain")) rfl];have hr:r.length<=10000:=by have:=v5 r AU;lia
   have hl:P8 (.v (.tuple ((r::rows).map row)))=φ (.int (((r::rows).length:Nat):Int)):=by
    show ξ _=_;rw [AT]
   exact⟨PR ((r::rows).length,r.length),j8 rfl (c0G (one (r:= .v (.tuple ((r::rows).map row))) rfl hl) (one (r:= .v (row r)) (K4 (r:= .v (.tuple ((r::rows).map row))) (q:= .v (.int 0)) rfl rfl (at0 (.inr rfl))) (a6i hr))),rfl⟩
 |named w=>
  rw [j4,e8 (p:= .str (AD "name")) rfl,b0 rfl,x6];have e:=b9f K w (ek:=m2 j7 (a6 0) (mC (.int 1))) (ed:=r9 (a4 (mC (.str (AD "name"))) (a4 (m2 j7 (a6 0) (mC (.int 1))) b5))) (ρ:=[φ (.tuple [.str (AD "name"),row w]),φ (kd K),φ (.str (AD "name")),ζ,ζ,ζ]) (p:= .tuple [.str (AD "name"),row w]) rfl rfl rfl;refine⟨_,j8 rfl e, ?_⟩;cases t5 K w with
  |none=>exact⟨_,_,rfl⟩
  |some d=>rfl
 |beside ps=>
  ext u
  have d:p9 (.beside ps)=1+a0r ps:=by rw [p9]
  rw [j4,V9,e8 (p:= .str (AD "beside")) rfl,b0 rfl,b0 rfl,x6];obtain⟨q,e,s⟩:=a9d (R:=R) (K:=K) true (ww:= .str (AD "beside")) (ps:=ps) (by intro e;rw [e] at ok;simp at ok) ok.2.1 λp hp=>ih p (C3 ok.2.2 hp) (by have:=D3 hp;lia)
  exact⟨q,K5 rfl e,s⟩
 |above ps=>
  ext u
  have d:p9 (.above ps)=1+a0r ps:=by rw [p9]
  rw [j4,V9,e8 (p:= .str (AD "above")) rfl,b0 rfl,b0 rfl,x6];obtain⟨q,e,s⟩:=a9d (R:=R) (K:=K) false (ww:= .str (AD "above")) (ps:=ps) (by intro e;rw [e] at ok;simp at ok) ok.2.1 λp hp=>ih p (C3 ok.2.2 hp) (by have:=D3 hp;lia)
  exact⟨q,K5 rfl e,s⟩
 |across k p=>
  ext u
  obtain⟨q,e,s⟩:=ih p ok.2.2 (by rw [p9];lia)
  rw [j4,e8 (p:= .str (AD "across")) rfl,b0 rfl,b0 rfl,b0 rfl,e8 ((N2 rfl rfl).trans e),x6];have t1:=b75 (b:=u5 (m2 D4 (a6 2) (mC (.str (AD "dye"))))) (y:=false) (b3j (a1C (x:=a6 5) (ρ:=[φ (.tuple [.str (AD "across"),.int (k:Nat),j4 p]),φ (kd K),φ (.str (AD "across")),ζ,ζ,φ q]) s.sz rfl)) rfl;cases es:x6 K p with
  |none=>
   rw [es] at s;obtain⟨z,y,rfl⟩:=s;exact⟨_,a6v t1 rfl,_,_,rfl⟩
  |some d=>
   rw [es] at s;obtain rfl:q=PR d:=s;refine Eq.mpr (congrArg _ ((b0 t1).trans (b0 rfl))) ?_;refine Eq.mpr (congrArg _ (B6 (ρ':=[φ (.tuple [.str (AD "across"),.int (k:Nat),j4 p]),φ (kd K),φ (.str (AD "across")),ζ,ζ,φ (PR (d.1,d.2*k))]) ?_)) (b4a (d.1,d.2*k) (λz=> ?_) (λz=> ?_))
   ·rw [a3j rfl];have hc:((d.2:Nat):Int)*(k:Nat)=((d.2*k:Nat):Int):=by rw [Int.natCast_mul]
    exact a1R (p:=PR (d.1,d.2*k)) (c0G (ρ:=[φ (.tuple [.str (AD "across"),.int (k:Nat),j4 p]),φ (kd K),φ (.str (AD "across")),ζ,ζ,φ (PR d)]) rfl (hc▸mlv (a:=m2 j7 (a6 5) (mC (.int 1))) (b:=m2 j7 (a6 0) (mC (.int 1))) (x:=(d.2:Nat)) (k:=(k:Nat)) rfl rfl (by lia)))
   ·rw [AR];unfold a1E;rw [if_pos rfl,if_pos z]
   ·rw [AR];unfold a1E;rw [if_pos rfl,if_neg z]
 |down k p=>
  ext u
  obtain⟨q,e,s⟩:=ih p ok.2.2 (by rw [p9];lia)
  rw [j4,e8 (p:= .str (AD "down")) rfl,b0 rfl,b0 rfl,b0 rfl,e8 ((N2 rfl rfl).trans e),x6];have t1:=b75 (b:=u5 (m2 D4 (a6 2) (mC (.str (AD "dye"))))) (y:=false) (b3j (a1C (x:=a6 5) (ρ:=[φ (.tuple [.str (AD "down"),.int (k:Nat),j4 p]),φ (kd K),φ (.str (AD "down")),ζ,ζ,φ q]) s.sz rfl)) rfl;cases es:x6 K p with
  |none=>
   rw [es] at s;obtain⟨z,y,rfl⟩:=s;exact⟨_,a6v t1 rfl,_,_,rfl⟩
  |some d=>
   rw [es] at s;obtain rfl:q=PR d:=s;refine Eq.mpr (congrArg _ ((b0 t1).trans (b0 rfl))) ?_;refine Eq.mpr (congrArg _ (B6 (ρ':=[φ (.tuple [.str (AD "down"),.int (k:Nat),j4 p]),φ (kd K),φ (.str (AD "down")),ζ,ζ,φ (PR (d.1*k,d.2))]) ?_)) (b4a (d.1*k,d.2) (λz=> ?_) (λz=> ?_))
   ·rw [a9i rfl];have hc:((d.1:Nat):Int)*(k:Nat)=((d.1*k:Nat):Int):=by rw [Int.natCast_mul]
    exact a1R (p:=PR (d.1*k,d.2)) (c0G (ρ:=[φ (.tuple [.str (AD "down"),.int (k:Nat),j4 p]),φ (kd K),φ (.str (AD "down")),ζ,ζ,φ (PR d)]) (hc▸mlv (a:=m2 j7 (a6 5) (mC (.int 0))) (b:=m2 j7 (a6 0) (mC (.int 1))) (x:=(d.1:Nat)) (k:=(k:Nat)) rfl rfl (by lia)) rfl)
   ·rw [AR];unfold a1E;rw [if_neg Af,if_pos z]
   ·rw [AR];unfold a1E;rw [if_neg Af,if_neg z]
 |turned w p=>
  ext u
  obtain⟨q,e,s⟩:=ih p ok.2 (by rw [p9];lia)
  rw [j4,e8 (p:= .str (AD "turned")) rfl,b0 rfl,b0 rfl,b0 rfl,e8 ((N2 rfl rfl).trans e),x6];have t1:=b75 (b:=u5 (m2 D4 (a6 2) (mC (.str (AD "dye"))))) (y:=false) (b3j (a1C (x:=a6 5) (ρ:=[φ (.tuple [.str (AD "turned"),row w,j4 p]),φ (kd K),φ (.str (AD "turned")),ζ,ζ,φ q]) s.sz rfl)) rfl;cases es:x6 K p with
  |none=>
   rw [es] at s;obtain⟨z,y,rfl⟩:=s;exact⟨_,a6v t1 rfl,_,_,rfl⟩
  |some d=>
   rw [es] at s;obtain rfl:q=PR d:=s;refine Eq.mpr (congrArg _ (b0 t1)) ?_;have t2:u5 (m2 (b0n false) (m2 j7 (a6 0) (mC (.int 1))) (L5 (a4 (mC (.str (AD "turn"))) (a4 (mC (.str (AD "back"))) (a4 (mC (.str (AD "cross"))) (a4 (mC (.str (AD "other"))) b5)))))) [φ (.tuple [.str (AD "turned"),row w,j4 p]),φ (kd K),φ (.str (AD "turned")),ζ,ζ,φ (PR d)]=ξ (a37 w):=J5 (r:= .v (row w)) rfl (q:= .own [.str (AD "turn"),.str (AD "back"),.str (AD "cross"),.str (AD "other")]) rfl (b7f ok.1);rw [BB];unfold b1L;cases hv:a37 w with
   |true=>rw [hv] at t2;exact⟨PR (d.2,d.1),K5 rfl (j8 t2 rfl),rfl⟩
   |false=>rw [hv] at t2;exact⟨PR d,K5 rfl ((b0 t2).trans rfl),rfl⟩
 |dyed x y p=>
  ext u
  obtain⟨q,e,s⟩:=ih p ok.2.2 (by rw [p9];lia)
  rw [j4,e8 (p:= .str (AD "dye")) rfl,b0 rfl,b0 rfl,b0 rfl,e8 ((N2 rfl rfl).trans e),x6];have t1:=b75 (b:=u5 (m2 D4 (a6 2) (mC (.str (AD "dye"))))) (y:=true) (b3j (a1C (x:=a6 5) (ρ:=[φ (.tuple [.str (AD "dye"),row [x],row [y],j4 p]),φ (kd K),φ (.str (AD "dye")),ζ,ζ,φ q]) s.sz rfl)) rfl;rw [Bool.or_true] at t1;exact⟨q,a6v t1 rfl,s⟩
end
theorem a36(K:NL u9):∀(n:Nat) (m:Mo),v7 m->p9 m<=n->∃q,a30 n [j4 m,kd K]=φ q/\RS (x6 K m) q
 |0,m,_,h=>by have:=T6 m;lia
 |n+1,m,ok,h=>b5D m ok λp okp hp=>a36 K n p okp (by lia)
def KM(M:Nat)(K:NL u9):Prop:=∀x∈K,x.1∈a62/\1<=x.2.1/\x.2.1<=M/\1<=x.2.2/\x.2.2<=M
def b4z(d:u9):Prop:=1<=d.1/\1<=d.2
theorem a7b{be:Bool}:∀{ds:List u9} {x y:u9},b4z x->U4 be x ds=ξ y->b4z y
 |[],x,y,h,e=>by cases e;exact h
 |d::ds,x,y,h,e=>by
  rw [U4] at e;obtain⟨z,e1,e⟩:=bind_some e;refine a7b ?_ e;unfold a08 at e1;unfold b4z at*;split at e1<;>split at e1<;>cases e1<;>simp only<;>lia
section
variable {K:NL u9}(hK:∀w d,t5 K w=ξ d->b4z d)
include hK
theorem a1N:∀(n:Nat) (m:Mo) (d:u9),v7 m->p9 m<=n->x6 K m=ξ d->b4z d
 |0,m,_,_,h,_=>by have:=T6 m;lia
 |n+1,m,d,ok,h,e=>by
  have lst:∀(ps:List Mo) (ds:List u9),a1p ps->a0r ps<=n->J3 K ps=ξ ds->∀d∈ds,b4z d:=λps=>by
   induction ps with
   |nil=>intro ds _ _ e;rw [J3] at e;cases e;intro d hd;cases hd
   |cons p ps ih=>
    ext k
    cases e2:J3 K ps with
    |none=>rw [e2] at e;cases e
    |some es=>
     rw [e2] at e;cases e;intro x hx;rcases AX.mp hx with rfl|hx
     ·exact a1N n p _ o.1 (by lia) e1
     ·exact ih es o.2 (by lia) e2 x hx
  cases m with
  |plain rows=>
   ext u
   obtain⟨v,v1,v2,v3,v4,v5⟩:=ok;rw [x6] at e;cases e;cases rows with
   |nil=>simp at v3
   |cons r rows=>have:=v5 r AU;exact⟨v3,by show 1<=r.length;lia⟩
  |named w=>rw [x6] at e;exact hK w d e
  |beside ps=>
   ext e
   ext v
   have hp:=lst ps ds ok.2.2 (by lia) e1
   cases ds with
   |nil=>cases e
   |cons x ds=>exact a7b (hp x AU) e
  |above ps=>
   ext e
   ext v
   have hp:=lst ps ds ok.2.2 (by lia) e1
   cases ds with
   |nil=>cases e
   |cons x ds=>exact a7b (hp x AU) e
  |across k p=>
   ext e
   ext p
   have hp:=a1N n p x ok.2.2 (by lia) e1
   unfold a1E at e;rw [if_pos rfl] at e;split at e
   ·cases e;exact⟨hp.1,Nat.mul_pos hp.2 ok.1⟩
   ·cases e
  |down k p=>
   ext e
   ext p
   have hp:=a1N n p x ok.2.2 (by lia) e1
   unfold a1E at e;rw [if_neg Af] at e;split at e
   ·cases e;exact⟨Nat.mul_pos hp.1 ok.1,hp.2⟩
   ·cases e
  |turned w p=>
   ext e
   cases e1:x6 K p with
   |none=>rw [e1] at e;cases e
   |some x=>
    rw [e1] at e;cases e;have hp:=a1N n p x ok.2 (by lia) e1
    unfold b1L;split
    ·exact⟨hp.2,hp.1⟩
    ·exact hp
  |dyed a b p=>
   ext e
   exact a1N n p d ok.2.2 (by lia) e
end
def okS(K:NL u9)(M:Nat)(m:Mo):Prop:=∃d,x6 K m=ξ d/\1<=d.1/\d.1<=M/\1<=d.2/\d.2<=M
def b9w(m:Mo):Prop:=v7 m/\p9 m=1/\(M3 m).length<=13
theorem b5A{rows:List (List Nat)}(h1:okP rows)(h2:(J6 [47] rows).length<=11):b9w (.plain rows):=by
 refine⟨by rw [v7];exact h1,by rw [p9], ?_⟩
 rw [M3];simp only [AW,AV,Al];lia
theorem b98{K:NL u9}{M:Nat}(hM:3<=M){rows:List (List Nat)}(h:okP rows):okS K M (.plain rows):=by
 obtain⟨v,v1,v2,v3,v4,v5⟩:=h;refine⟨_,by rw [x6], ?_⟩
 cases rows with
 |nil=>simp at v3
 |cons r rows=>have:=v5 r AU;exact⟨v3,by lia,by show 1<=r.length;lia,by show r.length<=M;lia⟩
theorem b7U{w:List Nat}(h:w∈a62):b9w (.named w):=by
 have l:∀w∈a62,w.length<=5:=by decide
 have:=l w h;refine⟨by rw [v7];exact h,by rw [p9],by rw [M3];lia⟩
theorem c0l(R:List (List Nat))(n:Nat):G4 (R.map row) n=true:=b3R λp hp=>by
 obtain⟨l,_,rfl⟩:=Ag.mp hp;cases n<;>rfl
theorem c1E(ns:List (List Nat)):gNe (.v (.list (ns.map row))) (.own [])=φ (.bool (!ns.isEmpty)):=by
 have e:gNe (.v (.list (ns.map row))) (.own [])=if G4 (ns.map row) 49=true/\G4 [] 49=true then φ (.bool (!η (.list (ns.map row)) (.list []))) else ζ:=rfl
 rw [e,if_pos ⟨c0l ns 49,rfl⟩];cases ns<;>rfl
section
variable {K:NL u9}{M:Nat}(hM:3<=M)(hK:KM M K)(hl:K.length<=100)
include hM hK hl
theorem b6I(N:Int):∃m,b9w m/\okS K M m/\a03 [.int N,.list ((K.map (·.1)).map row)]=φ (j4 m):=by
 obtain⟨ns,hns⟩:∃ns,ns=K.map (·.1):=⟨_,rfl⟩;rw [<-hns];have e1:u5 (m2 gNe (a6 1) (L5 b5)) [φ (.int N),φ (.list (ns.map row))]=ξ (!ns.isEmpty):=J5 (r:= .v (.list (ns.map row))) rfl (q:= .own []) rfl (c1E ns);have e2:m2 Θ (m2 Θ (m2 u4 (a6 0) (mC (.int 40692))) (mC (.int 999961))) (mC (.int 5)) [φ (.int N),φ (.list (ns.map row))]=φ (.int (N*40692 % 999961 % 5)):=md (md (ml rfl (by lia)) rfl (by lia)) rfl (by lia)
 have e3:u5 (m2 a6j (m2 Θ (m2 Θ (m2 u4 (a6 0) (mC (.int 40692))) (mC (.int 999961))) (mC (.int 5))) (mC (.int 3))) [φ (.int N),φ (.list (ns.map row))]=ξ (decide (N*40692 % 999961 % 5<3)):=J5 e2 (q:= .v (.int 3)) rfl rfl;have e4:P7 (u5 (m2 gNe (a6 1) (L5 b5))) (u5 (m2 a6j (m2 Θ (m2 Θ (m2 u4 (a6 0) (mC (.int 40692))) (mC (.int 999961))) (mC (.int 5))) (mC (.int 3)))) [φ (.int N),φ (.list (ns.map row))]=ξ (!ns.isEmpty && decide (N*40692 % 999961 % 5<3)):=by
  unfold P7;rw [e1,AR,e3];cases ns.isEmpty<;>rfl
 by_cases hc:(!ns.isEmpty && decide (N*40692 % 999961 % 5<3))=true
 ·rw [hc] at e4;have h0:0<ns.length:=by
   cases ns with
   |nil=>cases hc
   |cons a l=>simp
  have hj0:0<=N*39373 % 999953 %(ns.length:Nat):=Int.emod_nonneg _ (by lia)
  have hj1:N*39373 % 999953 %(ns.length:Nat)<(ns.length:Nat):=Int.emod_lt_of_pos _ (by lia)
  obtain⟨t,ht⟩:∃t:Nat,(t:Int)=N*39373 % 999953 %(ns.length:Nat):=⟨(N*39373 % 999953 %(ns.length:Nat)).toNat,by lia⟩
  have htl:t<ns.length:=by lia
  have ew:j7 (.v (.list (ns.map row))) (.v (.int (N*39373 % 999953 %(ns.length:Nat))))=φ (row ns[t]):=by
   rw [<-ht];exact b3X (by rw [b0U,Ak,Ap htl];rfl)
  have hm:ns[t]∈K.map (·.1):=hns▸List.getElem_mem htl;obtain⟨d,hd⟩:=a9h hm;have hx:=hK _ (Q5 hd);refine⟨.named ns[t],b7U hx.1,⟨d,by rw [x6];exact hd,hx.2⟩,m4 (n:=0) ?_⟩
  show a0R [φ (.int N),φ (.list (ns.map row))]=_;unfold a0R;refine j8 e4 ?_;rw [j4];have gl:P8 (.v (.list (ns.map row)))=φ (.int (ns.length:Nat)):=by
   show ξ _=_;rw [AT]
  have ei:=K4 (g:=j7) (x:=a6 1) (r:= .v (.list (ns.map row))) (ρ:=[φ (.int N),φ (.list (ns.map row))]) rfl (md (b:=m1 P8 (a6 1)) (k:=(ns.length:Nat)) (md (b:=mC (.int 999953)) (k:=999953) (ml (a:=a6 0) (x:=N) (k:=39373) rfl (by lia)) rfl (by lia)) (one rfl gl) (by lia)) ew
  unfold r9 a4;rw [ei]
  rfl
 ·rw [Bool.eq_false_iff.mpr hc] at e4;obtain⟨rows,h1,h2,h3⟩:=b97 N;refine⟨.plain rows,b5A h1 h2,b98 hM h1,m4 (n:=0) ?_⟩;show a0R [φ (.int N),φ (.list (ns.map row))]=_;unfold a0R;rw [b0 e4];exact L7 ((J7 rfl).trans h3)
omit hM hK hl in
theorem c1a{r:Mo}{q:PV}(s:RS (x6 K r) q){ρ:b7}(h8:ρ[8]?=ξ (φ q))(h3:ρ[3]?=ξ (φ (.int (M:Nat)))):∃b:Bool,c1x (b9D (m1 (a3p "str") (m2 j7 (a6 8) (mC (.int 0))))) (m2 c1h (m1 a2f (a6 8)) (a6 3)) ρ=φ (.bool b)/\(b=true->∃d,x6 K r=ξ d/\d.1<=M/\d.2<=M):=by
 have v8:a6 8 ρ=φ q:=by unfold a6;rw [h8]
 have v3:a6 3 ρ=φ (.int (M:Nat)):=by unfold a6;rw [h3]
 have e1:=a1C s.sz v8;have e2:b9D (m1 (a3p "str") (m2 j7 (a6 8) (mC (.int 0)))) ρ=φ (.bool (!isS q)):=by
  unfold b9D;rw [e1]
  rfl
 unfold c1x;rw [e2];cases es:x6 K r with
 |none=>
  rw [es] at s;obtain⟨z,y,rfl⟩:=s;exact⟨false,rfl,λh=>nomatch h⟩
 |some d=>
  rw [es] at s;obtain rfl:q=PR d:=s;obtain⟨k,hk,k1,k2,k3⟩:=b5J d;exact⟨decide (k<=(M:Nat)),K4 (one v8 hk) v3 rfl,λh=>⟨d,rfl,by have:=of_decide_eq_true h;lia,by have:=of_decide_eq_true h;lia⟩⟩
def L4(N:Int)(m:Mo)(q5 q6 q7 q8 q9:Υ d5):b7:=[φ (.int N),φ (kd K),φ (.list ((K.map (·.1)).map row)),φ (.int (M:Nat)),φ (j4 m),q5,q6,q7,q8,q9]
omit hM hK hl in
theorem c2B{a b:MT}{ρ:b7}{y:Bool}(h1:a ρ=ξ true)(h2:b ρ=ξ y):P7 a b ρ=ξ y:=by
 unfold P7;rw [h1];exact h2
theorem b5u{N:Int}{m:Mo}(ok:v7 m)(hs:okS K M m){d:Nat}(hd:p9 m<=d)(hd2:1<=d/\d<=10)(hlm:(M3 m).length<=380){j:Nat}(hj:j<=3)(q6 q7 q8 q9:Υ d5):∃m' q6' q7' q8' q9',v7 m'/\okS K M m'/\p9 m'<=d+2/\(M3 m').length<=380/\
 O0 (L4 (K:=K) (M:=M) N m (φ (.int (j:Nat))) q6 q7 q8 q9)=ξ (.nx (L4 (K:=K) (M:=M) N m' (φ (.int (j:Nat))) q6' q7' q8' q9')):=by
 obtain⟨A,hA⟩:∃A:Int,A=N*(2*(j:Nat)+39373) % 2147483629:=⟨_,rfl⟩
 obtain⟨l,hl1,_,el⟩:=b6I hM hK hl (A*7+1)
 obtain⟨r,er,okr,hdr,hlr⟩:=c2o ok hl1.1 A
 have dl:=hl1.2.1
 have ll:=hl1.2.2
 have dr:p9 r<=d+2:=by lia
 have lr:(M3 r).length<=4000:=by lia
 obtain⟨q,eq,sq⟩:=a36 K 12 r okr (by lia)
 have lt:X1 [j4 r]=φ (row (M3 r)):=b36 12 r okr (by lia) lr
 have e1:m2 Θ (m2 u4 (a6 0) (m2 y9 (m2 u4 (mC (.int 2)) (a6 5)) (mC (.int 39373)))) (mC (.int 2147483629)) (L4 (K:=K) (M:=M) N m (φ (.int (j:Nat))) q6 q7 q8 q9)=φ (.int A):=by
  rw [hA];exact md (mlv rfl (adI (mlv rfl rfl (by lia)) rfl) (by lia)) rfl (by lia)
 have e2:j2 X0 (a4 (a6 6) (a4 (a6 4) (a4 (j2 a03 (a4 (m2 y9 (m2 u4 (a6 6) (mC (.int 7))) (mC (.int 1))) (a4 (a6 2) b5))) b5))) (L4 (K:=K) (M:=M) N m (φ (.int (j:Nat))) (φ (.int A)) q7 q8 q9)=φ (j4 r):=(b8C rfl rfl ((N2 (adI (ml rfl (by lia)) rfl) rfl).trans el)).trans er
 have e3:j2 C5 (a4 (a6 7) (a4 (a6 1) b5)) (L4 (K:=K) (M:=M) N m (φ (.int (j:Nat))) (φ (.int A)) (φ (j4 r)) q8 q9)=φ q:=(N2 rfl rfl).trans eq
 obtain⟨b,e4,hb⟩:=c1a (K:=K) (M:=M) sq (ρ:=L4 (K:=K) (M:=M) N m (φ (.int (j:Nat))) (φ (.int A)) (φ (j4 r)) (φ q) q9) rfl rfl
 have t1:a0m (mtV (a6 9)) (u5 (m2 D4 (a6 3) (mC (.int 0)))) (L4 (K:=K) (M:=M) N m (φ (.int (j:Nat))) (φ (.int A)) (φ (j4 r)) (φ q) (φ (.bool b)))=ξ b:=by
  have z:u5 (m2 D4 (a6 3) (mC (.int 0))) (L4 (K:=K) (M:=M) N m (φ (.int (j:Nat))) (φ (.int A)) (φ (j4 r)) (φ q) (φ (.bool b)))=ξ false:=J5 (r:= .v (.int (M:Nat))) rfl (q:= .v (.int 0)) rfl (by rw [b85];congr 3;rw [beq_eq_false_iff_ne];lia)
  have:=b75 (a:=mtV (a6 9)) (b:=u5 (m2 D4 (a6 3) (mC (.int 0)))) (x:=b) (ρ:=L4 (K:=K) (M:=M) N m (φ (.int (j:Nat))) (φ (.int A)) (φ (j4 r)) (φ q) (φ (.bool b))) (b3j rfl) z;rw [Bool.or_false] at this;exact this
 have t2:u5 (m2 a6j (m1 P8 (j2 X1 (a4 (a6 7) b5))) (mC (.int 381))) (L4 (K:=K) (M:=M) N m (φ (.int (j:Nat))) (φ (.int A)) (φ (j4 r)) (φ q) (φ (.bool b)))=ξ (decide (((M3 r).length:Int)<381)):=
  J5 (r:= .v (.int ((M3 r).length:Nat))) (one ((J7 rfl).trans lt) (a6i (by lia))) (q:= .v (.int 381)) rfl rfl
 have t3:P7 (a0m (mtV (a6 9)) (u5 (m2 D4 (a6 3) (mC (.int 0))))) (u5 (m2 a6j (m1 P8 (j2 X1 (a4 (a6 7) b5))) (mC (.int 381)))) (L4 (K:=K) (M:=M) N m (φ (.int (j:Nat))) (φ (.int A)) (φ (j4 r)) (φ q) (φ (.bool b)))=ξ (b && decide (((M3 r).length:Int)<381)):=by
  unfold P7;rw [t1,AR,t2];cases b<;>rfl
 have go:∀o,o9 (P7 (a0m (mtV (a6 9)) (u5 (m2 D4 (a6 3) (mC (.int 0))))) (u5 (m2 a6j (m1 P8 (j2 X1 (a4 (a6 7) b5))) (mC (.int 381))))) (n3 4 (a6 7)) l0 (L4 (K:=K) (M:=M) N m (φ (.int (j:Nat))) (φ (.int A)) (φ (j4 r)) (φ q) (φ (.bool b)))=o->O0 (L4 (K:=K) (M:=M) N m (φ (.int (j:Nat))) q6 q7 q8 q9)=o:=λo h=>by
  unfold O0;refine(e8 e1).trans ?_;refine(e8 e2).trans ?_;refine(e8 e3).trans ?_;refine(e8 e4).trans ?_;exact h
 by_cases hc:(b && decide (((M3 r).length:Int)<381))=true
 ·rw [hc] at t3
  rw [χ,decide_eq_true_eq] at hc
  obtain⟨d',f1,f2,f3⟩:=hb hc.1
  have fp:=a1N (K:=K) (λw d h=>⟨(hK _ (Q5 h)).2.1,(hK _ (Q5 h)).2.2.2.1⟩) _ r d' okr (AQ _) f1
  exact⟨r,_,_,_,_,okr,⟨d',f1,fp.1,f2,fp.2,f3⟩,dr,by lia,go _ ((a3j t3).trans (a1R rfl))⟩
 ·rw [Bool.eq_false_iff.mpr hc] at t3
  exact⟨m,_,_,_,_,ok,hs,by lia,hlm,go _ ((a9i t3).trans rfl)⟩
theorem b9i(N:Int):∃m,v7 m/\okS K M m/\p9 m<=8/\(M3 m).length<=380/\N8 [.int N,kd K,.list ((K.map (·.1)).map row),.int (M:Nat)]=φ (j4 m):=by
 obtain⟨l,hl',hsl,el⟩:=b6I hM hK hl N;obtain⟨n,hn1,hn⟩:∃n:Nat,n<=3/\((n:Nat):Int)=N*69621 % 1000003 % 4:=⟨(N*69621 % 1000003 % 4).toNat,by lia,by lia⟩
 have e4:M1 (a4 (m2 Θ (m2 Θ (m2 u4 (a6 0) (mC (.int 69621))) (mC (.int 1000003))) (mC (.int 4))) b5) (L4 (K:=K) (M:=M) N l ζ ζ ζ ζ ζ)=ξ ((AZ n).map λk=> .int (k:Nat)):=by
  refine K9 ?_ (by lia)
  rw [hn];exact md (md (ml rfl (by lia)) rfl (by lia)) rfl (by lia)
 have l1:=hl'.2.1;have l2:=hl'.2.2;obtain⟨ρ',e5,m,q5,q6,q7,q8,q9,h1,h2,h3,h4,rfl⟩:=a2e (body:=O0) (tg:=j3 5) (λj ρ=>∃(m:Mo) (q5 q6 q7 q8 q9:Υ d5),v7 m/\okS K M m/\p9 m<=1+2*j/\(M3 m).length<=380/\ρ=L4 (K:=K) (M:=M) N m q5 q6 q7 q8 q9)
  (ps:=(AZ n).map λk=> .int (k:Nat)) (ρ:=L4 (K:=K) (M:=M) N l ζ ζ ζ ζ ζ)
  (by
   rintro j p hp ρ ⟨m,q5,q6,q7,q8,q9,h1,h2,h3,h4,rfl⟩;obtain⟨rfl,hj⟩:=a6A hp;obtain⟨m',q6',q7',q8',q9',k1,k2,k3,k4,eb⟩:=b5u hM hK hl (N:=N) h1 h2 h3 (by lia) h4 (j:=j) (by lia) q6 q7 q8 q9
   exact a6O (ρ1:=L4 (K:=K) (M:=M) N m (φ (.int (j:Nat))) q6 q7 q8 q9) rfl eb ⟨m',_,_,_,_,_,k1,k2,by lia,k4,rfl⟩)
  ⟨l,_,_,_,_,_,hl'.1,hsl,by lia,by lia,rfl⟩
 rw [AT,Au] at h3;refine⟨m,h1,h2,by lia,h4,m4 (n:=6) ?_⟩
 show a3A [φ (.int N),φ (kd K),φ (.list ((K.map (·.1)).map row)),φ (.int (M:Nat)),ζ,ζ,ζ,ζ,ζ,ζ]=_;unfold a3A;refine(e8 ((N2 rfl rfl).trans el)).trans ?_;obtain⟨q,eq,sq⟩:=a36 K 12 l hl'.1 (by lia)
 obtain⟨d,hd,_⟩:=hsl;rw [hd] at sq;obtain rfl:q=PR d:=sq;have t1:P7 (u5 (m2 (gI λi j=> .bool (decide (j<i))) (a6 3) (mC (.int 0)))) (mtV (m1 (a3p "str") (m2 j7 (j2 C5 (a4 (a6 4) (a4 (a6 1) b5))) (mC (.int 0))))) (L4 (K:=K) (M:=M) N l ζ ζ ζ ζ ζ)=ξ false:=by
  refine c2B (J5 (r:= .v (.int (M:Nat))) rfl (q:= .v (.int 0)) rfl (by show ξ (d5.v (.bool (decide ((0:Int)<(M:Nat)))))=_;rw [decide_eq_true (by lia)])) ?_
  exact b3j (a1C (p:=PR d) (.inl ⟨d,rfl⟩) ((N2 rfl rfl).trans eq))
 refine(b0 t1).trans ?_;refine(W9 e4 e5).trans ?_
 rfl
end
theorem b9O(c:Int){k:Nat}(hk:k<=100):∃N:Int,K3 [.int c,.int (k:Nat)]=φ (.int N):=by
 refine⟨c % 10 ^ 18*(2*(k:Int)+3)+(k:Int)*k, ?_⟩;have m1:u4 (.v (.int (k:Nat))) (.v (.int (k:Nat)))=φ (.int ((k:Int)*k)):=b6z (by lia)
 unfold K3 a55;simp! [b83,b6z,b9b,b9c,b2x,c3X,a8n,b2E,b9E,c4B,a6D,a8q,AR,AM,Aq,Az,Am,Int.reducePow,Int.reduceToNat,m1]
 try rfl
theorem b9I:a1A []=ξ (.own (a62.map row)):=by
 refine m4 (n:=0) ?_
 rfl
theorem b6i{ns:List Int}:∃c:Int,K8 [.list (ns.map .int),.int 0]=φ (.int c):=by
 cases ns with
 |nil=>exact⟨0,m4 (n:=0) rfl⟩
 |cons a ns=>
  refine⟨a,m4 (n:=0) ?_⟩;have gl:P8 (.v (.list ((a::ns).map .int)))=φ (.int ((a::ns).length:Nat)):=by rw [b7D,AT]
  have t:u5 (m2 a6j (a6 1) (m1 P8 (a6 0))) [φ (.list ((a::ns).map .int)),φ (.int 0)]=ξ true:=by
   refine J5 (r:= .v (.int 0)) (q:= .v (.int ((a::ns).length:Nat))) rfl (one rfl gl) ?_;show ξ (d5.v (.bool (decide ((0:Int)<((a::ns).length:Nat)))))=_;rw [decide_eq_true (by rw [AV];lia)]
  exact j8 t (K4 rfl rfl (b3X (c29 _ _)))
theorem c5t{a b:MT}{ρ:b7}(h1:a ρ=ξ true):a0m a b ρ=ξ true:=by
 unfold a0m;rw [h1]
 rfl
theorem b2v{i:Nat}{m:M}{ρ:b7}{kvs:Γ}{r:d5}(h:ρ[i]?=ξ (ξ (.ow (.txt kvs))))(e:m (ρ.set i (φ (tv kvs)))=ξ r)(c:r.noK=true):R7 i m ρ=ξ r:=by
 unfold R7;rw [h];show(m _).bind _=_;rw [e,AR,if_pos c]
theorem a4E{g:RF}{i:Nat}{m:M}{ρ:b7}{kvs:Γ}{p:PV}{r:d5}(h:ρ[i]?=ξ (ξ (.ow (.txt kvs))))(hm:m ρ=φ p)(e:g [p,tv kvs]=ξ r)(c:r.noK=true):V1 g i m ρ=ξ r:=by
 rw [b37 g i m ρ kvs h,hm];show(g [p,tv kvs]).bind _=_;rw [e,AR,if_pos c]
mutual
theorem a7f:∀m:Mo,nk (j4 m)=true
 | .plain rows=>by
   rw [j4];show(nk (.tuple (rows.map row))&& true)=true;rw [Bool.and_true];show nkL (rows.map row)=true
   induction rows with
   |nil=>rfl
   |cons r rows ih=>rw [AM,nkL,ih];rfl
 | .named w=>by rw [j4];rfl
 | .beside ps=>by rw [j4];show(nkL (a4D ps)&& true)=true;rw [b2H ps];rfl
 | .above ps=>by rw [j4];show(nkL (a4D ps)&& true)=true;rw [b2H ps];rfl
 | .across k p=>by rw [j4];show(nk (j4 p)&& true)=true;rw [a7f p];rfl
 | .down k p=>by rw [j4];show(nk (j4 p)&& true)=true;rw [a7f p];rfl
 | .turned w p=>by rw [j4];show(nk (j4 p)&& true)=true;rw [a7f p];rfl
 | .dyed a b p=>by rw [j4];show(nk (j4 p)&& true)=true;rw [a7f p];rfl
theorem b2H:∀ps:List Mo,nkL (a4D ps)=true
 |[]=>by rw [a4D];rfl
 |p::ps=>by rw [a4D,nkL,a7f p,b2H ps];rfl
end
theorem b9L:∀K:NL u9,nkD (dN PR K)=true
 |[]=>rfl
 |(w,d)::K=>by
  show(nk (PR d)&& nkD (dN PR K))=true;rw [b9L K]
  rfl
inductive Rw where
 |lt (w:List Nat) (m:Mo)|ag (k:Nat) (w:List Nat) (m:Mo)
def Rw.nm:Rw->List Nat
 | .lt w _=>w
 | .ag _ w _=>w
def Rw.mo:Rw->Mo
 | .lt _ m=>m
 | .ag _ _ m=>m
def Rw.cnt:Rw->Nat
 | .lt _ _=>1
 | .ag k _ _=>k
def Rw.isA:Rw->Bool
 | .lt _ _=>false
 | .ag _ _ _=>true
def G5(f:Mo->PV):Rw->PV
 | .lt w m=> .tuple [.str (AD "let"),row w,f m]
 | .ag k w m=> .tuple [.str (AD "again"),.int (k:Nat),row w,f m]
def itK(w:List Nat)(m:Mo):Nat->NL u9->Υ (NL u9)
 |0,K=>ξ K
 |n+1,K=>(x6 K m).bind λd=>itK w m n (E1 K w d)
structure OkR(M:Nat)(K:NL u9)(r:Rw)(K':NL u9):Prop where
 ok:v7 r.mo
 dp:p9 r.mo<=8
 a62:r.nm∈a62
 c1:1<=r.cnt
 c3:r.cnt<=3
 it:itK r.nm r.mo r.cnt K=ξ K'
 inn:r.isA=true->r.nm∈K.map (·.1)
def Chn(M:Nat):NL u9->List Rw->NL u9->Prop
 |K,[],K'=>K=K'
 |K,r::rs,K'=>∃K1,OkR M K r K1/\Chn M K1 rs K'
theorem Chn.snoc{M:Nat}:∀{rs:List Rw} {K K' K'':NL u9} {r:Rw},Chn M K rs K'->OkR M K' r K''->Chn M K (rs++[r]) K''
 |[],K,K',K'',r,h,o=>by cases h;exact⟨K'',o,rfl⟩
 |q::rs,K,K',K'',r,⟨K1,o1,h⟩,o=>⟨K1,o1,h.snoc o⟩
theorem KM.put{M:Nat}{K:NL u9}{w:List Nat}{d:u9}(h:KM M K)(hw:w∈LW.a62)(hd:1<=d.1/\d.1<=M/\1<=d.2/\d.2<=M):KM M (E1 K w d):=λx hx=>by
 unfold E1 at hx;split at hx
 ·obtain⟨y,hy,rfl⟩:=Ag.mp hx;split
  ·exact⟨(h y hy).1,hd⟩
  ·exact h y hy
 ·rcases Ar.mp hx with hx|hx
  ·exact h x hx
  ·rw [List.mem_singleton.mp hx];exact⟨hw,hd⟩
theorem KM.look{M:Nat}{K:NL u9}(h:KM M K){w:List Nat}{d:u9}(e:t5 K w=ξ d):b4z d:=⟨(h _ (Q5 e)).2.1,(h _ (Q5 e)).2.2.2.1⟩
section
variable {M:Nat}(hM:3<=M)
include hM
theorem a8x{m:Mo}(ok:v7 m)(dp:p9 m<=8){w:List Nat}(hw:w∈a62){s2 s3:Υ d5}:∀(n:Nat) (is:List PV),is.length=n->∀(K:NL u9) (q6 q7:Υ d5),KM M K->K.length+n<=100->
 (y0 r6 (j3 6) is [φ (j4 m),φ (row w),s2,s3,φ (.int (M:Nat)),ξ (.ow (.txt (dN PR K))),q6,q7]=ξ (.rt (.v .none)))\/
 ∃K' q6' q7',itK w m n K=ξ K'/\KM M K'/\K'.length<=K.length+n/\y0 r6 (j3 6) is [φ (j4 m),φ (row w),s2,s3,φ (.int (M:Nat)),ξ (.ow (.txt (dN PR K))),q6,q7]=ξ (.nx [φ (j4 m),φ (row w),s2,s3,φ (.int (M:Nat)),ξ (.ow (.txt (dN PR K'))),q6',q7'])
 |0,[],_,K,q6,q7,h,_=> .inr ⟨K,q6,q7,rfl,h,by lia,rfl⟩
 |n+1,i::is,hi,K,q6,q7,h,hl=>by
  obtain⟨q,eq,sq⟩:=a36 K 12 m ok (by lia)
  have nq:(d5.v q).noK=true:=by
   rcases sq.sz with⟨d,rfl⟩|⟨z,y,rfl⟩<;>rfl
  have e1:V1 C5 5 (a6 0) [φ (j4 m),φ (row w),s2,s3,φ (.int (M:Nat)),ξ (.ow (.txt (dN PR K))),φ i,q7]=φ q:=a4E rfl rfl eq nq;have t1:=b3j (a1C (x:=a6 7) (ρ:=[φ (j4 m),φ (row w),s2,s3,φ (.int (M:Nat)),ξ (.ow (.txt (dN PR K))),φ i,φ q]) sq.sz rfl);have go:∀o,(i7 (o9 (a0m (mtV (m1 (a3p "str") (m2 j7 (a6 7) (mC (.int 0))))) (u5 (m2 (gI λi j=> .bool (decide (j<i))) (m1 a2f (a6 7)) (a6 4)))) (k7 (mC .none)) l0) (V3 5 (a6 1) (a6 7))) [φ (j4 m),φ (row w),s2,s3,φ (.int (M:Nat)),ξ (.ow (.txt (dN PR K))),φ i,φ q]=o->r6 [φ (j4 m),φ (row w),s2,s3,φ (.int (M:Nat)),ξ (.ow (.txt (dN PR K))),φ i,q7]=o:=λo z=>by
   unfold r6;exact(e8 e1).trans z
  have fe:y0 r6 (j3 6) (i::is) [φ (j4 m),φ (row w),s2,s3,φ (.int (M:Nat)),ξ (.ow (.txt (dN PR K))),q6,q7]=(r6 [φ (j4 m),φ (row w),s2,s3,φ (.int (M:Nat)),ξ (.ow (.txt (dN PR K))),φ i,q7]).bind (λfl=>match fl with
   | .nx ρ2=>y0 r6 (j3 6) is ρ2
   | .ct ρ2=>y0 r6 (j3 6) is ρ2
   | .bk ρ2=>ξ (.nx ρ2)
   | .rt r=>ξ (.rt r)):=by
   rw [y0]
   rfl
  cases es:x6 K m with
  |none=>
   rw [es] at sq;obtain⟨z,y,rfl⟩:=sq
   left
   rw [fe,go _ (j8 (c5t t1) rfl)]
   rfl
  |some d=>
   rw [es] at sq;obtain rfl:q=PR d:=sq;obtain⟨k,hk,k1,k2,k3⟩:=b5J d;have t2:u5 (m2 (gI λi j=> .bool (decide (j<i))) (m1 a2f (a6 7)) (a6 4)) [φ (j4 m),φ (row w),s2,s3,φ (.int (M:Nat)),ξ (.ow (.txt (dN PR K))),φ i,φ (PR d)]=ξ (decide (((M:Nat):Int)<k)):=J5 (r:= .v (.int k)) (one rfl hk) (q:= .v (.int (M:Nat))) rfl rfl;have t3:=b75 t1 t2;have fp:=a1N (K:=K) (λw d e=>h.look e) _ m d ok (AQ _) es
   by_cases hc:((M:Nat):Int)<k
   ·rw [decide_eq_true hc,Bool.or_true] at t3
    left
    rw [fe,go _ (j8 t3 rfl)]
    rfl
   ·rw [decide_eq_false hc,Bool.or_false] at t3;have e2:V3 5 (a6 1) (a6 7) [φ (j4 m),φ (row w),s2,s3,φ (.int (M:Nat)),ξ (.ow (.txt (dN PR K))),φ i,φ (PR d)]=ξ (.nx [φ (j4 m),φ (row w),s2,s3,φ (.int (M:Nat)),ξ (.ow (.txt (dN PR (E1 K w d)))),φ i,φ (PR d)]):=by
     show(if(dN PR K).length<AO then ξ (Fl.nx _) else ζ)=_
     rw [if_pos (by rw [a2R,sizeLine_eq];lia),<-b27]
     rfl
    have hp:=a2n K w d;rcases a8x ok dp hw n is (by simpa using hi) (E1 K w d) (φ i) (φ (PR d)) (h.put hw ⟨fp.1,by lia,fp.2,by lia⟩) (by lia) with z|⟨K',q6',q7',z1,z2,z3,z4⟩
    ·left
     rw [fe,go _ ((b0 t3).trans e2)];exact z
    ·right
     refine⟨K',q6',q7',by rw [itK,es];exact z1,z2,by lia, ?_⟩
     rw [fe,go _ ((b0 t3).trans e2)];exact z4
theorem b8v{m:Mo}(ok:v7 m)(dp:p9 m<=8){w:List Nat}(hw:w∈a62){k:Nat}(hk:k<=3){K:NL u9}(h:KM M K)(hl:K.length<=60):B5 [j4 m,row w,.int (k:Nat),kd K,.int (M:Nat)]=φ .none\/∃K',itK w m k K=ξ K'/\KM M K'/\K'.length<=K.length+k/\B5 [j4 m,row w,.int (k:Nat),kd K,.int (M:Nat)]=ξ (.ow (.txt (dN PR K'))):=by
 have e1:m1 a3S (a6 3) [φ (j4 m),φ (row w),φ (.int (k:Nat)),φ (kd K),φ (.int (M:Nat)),ζ,ζ,ζ]=ξ (.ow (.txt (dN PR K))):=by
  refine one (r:= .v (kd K)) rfl ?_;unfold a3S;rw [a9Z (Z7 PR K),AR,if_pos (by rw [a2R,sizeLine_eq];lia)]
 have e2:M1 (a4 (a6 2) b5) [φ (j4 m),φ (row w),φ (.int (k:Nat)),φ (kd K),φ (.int (M:Nat)),ξ (.ow (.txt (dN PR K))),ζ,ζ]=ξ ((AZ k).map λk=> .int (k:Nat)):=K9 rfl (by lia)
 have sq:∀n:MS,i7 (n3 5 (m1 a3S (a6 3))) n [φ (j4 m),φ (row w),φ (.int (k:Nat)),φ (kd K),φ (.int (M:Nat)),ζ,ζ,ζ]=n [φ (j4 m),φ (row w),φ (.int (k:Nat)),φ (kd K),φ (.int (M:Nat)),ξ (.ow (.txt (dN PR K))),ζ,ζ]:=λn=>by
  unfold i7 n3;rw [e1]
  rfl
 rcases a8x hM ok dp hw (s2:=φ (.int (k:Nat))) (s3:=φ (kd K)) k ((AZ k).map λk=> .int (k:Nat)) (by simp) K ζ ζ h (by lia) with z|⟨K',q6,q7,z1,z2,z3,z4⟩
 ·left
  refine m4 (n:=3) ?_;show G8 [φ (j4 m),φ (row w),φ (.int (k:Nat)),φ (kd K),φ (.int (M:Nat)),ζ,ζ,ζ]=_;unfold G8;rw [sq];exact b2k e2 z
 ·right
  refine⟨K',z1,z2,z3,m4 (n:=3) ?_⟩;show G8 [φ (j4 m),φ (row w),φ (.int (k:Nat)),φ (kd K),φ (.int (M:Nat)),ζ,ζ,ζ]=_;unfold G8;rw [sq,W9 e2 z4]
  rfl
end
theorem b7E{K:NL u9}(hl:K.length<=100):a2I (.v (kd K))=ξ (.own ((K.map (·.1)).map row)):=by
 unfold a2I;rw [a9Z (Z7 PR K),AR,if_pos (by rw [a2R,sizeLine_eq];lia),c1q]
theorem P5{g:RF}{ma:MA}{ρ:b7}{ps:List PV}(h:ma ρ=ξ ps):j2 g ma ρ=g ps:=by
 unfold j2;rw [h]
 rfl
theorem i0{x:M}{r:MA}{ρ:b7}{q:d5}{p:PV}{ps:List PV}(h:x ρ=ξ q)(hq:q.toVal=ξ p)(hr:r ρ=ξ ps):a4 x r ρ=ξ (p::ps):=by
 unfold a4;rw [h];show(q.toVal).bind _=_;rw [hq,AR,hr]
 rfl
section
variable {M:Nat}(hM:3<=M)
include hM
theorem a81{K:NL u9}(hK:KM M K)(hl:K.length<=100)(N:Int){ρ:b7}(h3:ρ[3]?=ξ (ξ (.ow (.txt (dN PR K)))))(h6:ρ[6]?=ξ (φ (.int N)))(h2:ρ[2]?=ξ (φ (.int (M:Nat)))):∃m,v7 m/\okS K M m/\p9 m<=8/\R7 3 (j2 N8 (a4 (a6 6) (a4 (a6 3) (a4 (m1 a2I (a6 3)) (a4 (a6 2) b5))))) ρ=φ (j4 m):=by
 obtain⟨m,ok,os,dp,_,e⟩:=b9i hM hK hl N;refine⟨m,ok,os,dp,b2v h3 ?_ (a7f m)⟩;have hlt:3<ρ.length:=(Ai.mp h3).1;have v3:a6 3 (ρ.set 3 (φ (tv (dN PR K))))=φ (kd K):=by
  unfold a6;rw [BE hlt]
 have v6:a6 6 (ρ.set 3 (φ (tv (dN PR K))))=φ (.int N):=by
  unfold a6;rw [List.getElem?_set_ne (by lia),h6]
 have v2:a6 2 (ρ.set 3 (φ (tv (dN PR K))))=φ (.int (M:Nat)):=by
  unfold a6;rw [List.getElem?_set_ne (by lia),h2]
 rw [P5 (i0 v6 rfl (i0 v3 rfl (i0 (one v3 (b7E hl)) rfl (i0 v2 rfl rfl))))];exact e
abbrev prS(ns:List Int)(K:NL u9)(rs:List Rw)(q5 q6 q7 q8 q9 q10:Υ d5):b7:=[φ (.list (ns.map .int)),φ (.int 21),φ (.int (M:Nat)),ξ (.ow (.txt (dN PR K))),ξ (.own (rs.map (G5 j4))),q5,q6,q7,q8,q9,q10]
theorem b8U{j:Int}(h0:0<=j)(h1:j<5):∃w∈a62,j7 (.own (a62.map row)) (.v (.int j))=φ (row w):=by
 have:j=0\/j=1\/j=2\/j=3\/j=4:=by lia
 rcases this with h|h|h|h|h<;>rw [h]
 ·exact⟨_,by decide,rfl⟩
 ·exact⟨[115,116,97,121],by decide,rfl⟩
 ·exact⟨[108,101,116],by decide,rfl⟩
 ·exact⟨[107,110,111,116,115],by decide,rfl⟩
 ·exact⟨[122,122],by decide,rfl⟩
theorem b8b{ns:List Int}{at_:Nat}(ha:at_<ns.length)(ha2:at_<=63){K:NL u9}(hK:KM M K)(hl:K.length<=60){rs:List Rw}(hr:rs.length<=100)(q6 q7 q8 q9 q10:Υ d5):∃r K' q6' q7' q8' q9' q10',OkR M K r K'/\KM M K'/\K'.length<=K.length+3/\
 J0 (prS (M:=M) ns K rs (φ (.int (at_:Nat))) q6 q7 q8 q9 q10)=ξ (.nx (prS (M:=M) ns K' (rs++[r]) (φ (.int (at_:Nat))) q6' q7' q8' q9' q10')):=by
 obtain⟨c,hc⟩:=c3H ha
 obtain⟨N,eN⟩:=b9O c (k:=at_) (by lia)
 have e1:j2 K3 (a4 (m2 j7 (a6 0) (a6 5)) (a4 (a6 5) b5)) (prS (M:=M) ns K rs (φ (.int (at_:Nat))) q6 q7 q8 q9 q10)=φ (.int N):=(N2 (K4 rfl rfl hc) rfl).trans eN
 obtain⟨w,hw,ew⟩:=b8U hM (j:=N*950706376 % 999917 % 5) (by lia) (by lia)
 have e2:m2 j7 (λ_=>a1A []) (m2 Θ (m2 Θ (m2 u4 (a6 6) (mC (.int 950706376))) (mC (.int 999917))) (mC (.int 5))) (prS (M:=M) ns K rs (φ (.int (at_:Nat))) (φ (.int N)) q7 q8 q9 q10)=φ (row w):=K4 (r:= .own (a62.map row)) b9I (md (md (ml rfl (by lia)) rfl (by lia)) rfl (by lia)) ew
 obtain⟨m,ok,os,dp,e3⟩:=a81 hM hK (by lia) N (ρ:=prS (M:=M) ns K rs (φ (.int (at_:Nat))) (φ (.int N)) (φ (row w)) q8 q9 q10) rfl rfl rfl
 obtain⟨k,hk1,hk3,hk⟩:∃k:Nat,1<=k/\k<=3/\((k:Nat):Int)=1+N*742938285 % 999959 % 3:=⟨(1+N*742938285 % 999959 % 3).toNat,by lia,by lia,by lia⟩
 have e4:m2 y9 (mC (.int 1)) (m2 Θ (m2 Θ (m2 u4 (a6 6) (mC (.int 742938285))) (mC (.int 999959))) (mC (.int 3))) (prS (M:=M) ns K rs (φ (.int (at_:Nat))) (φ (.int N)) (φ (row w)) (φ (j4 m)) q9 q10)=φ (.int (k:Nat)):=by
  rw [hk];exact adI rfl (md (md (ml rfl (by lia)) rfl (by lia)) rfl (by lia))
 obtain⟨d,hd,d1,d2,d3,d4⟩:=os
 have hsz:C5 [j4 m,kd K]=φ (PR d):=by
  obtain⟨q,eq,sq⟩:=a36 K 12 m ok (by lia)
  rw [hd] at sq;obtain rfl:q=PR d:=sq;exact eq
 have hin:u5 (b0v false 3 (a6 7)) (prS (M:=M) ns K rs (φ (.int (at_:Nat))) (φ (.int N)) (φ (row w)) (φ (j4 m)) (φ (.int (k:Nat))) (φ .none))=ξ (t5 K w).isSome:=by
  show ξ (D6 (dN PR K) [.inr (S w)]).isSome=_;rw [a15];cases t5 K w<;>rfl
 have hq:u5 (m2 D4 (m2 Θ (a6 6) (mC (.int 4))) (mC (.int 1))) (prS (M:=M) ns K rs (φ (.int (at_:Nat))) (φ (.int N)) (φ (row w)) (φ (j4 m)) (φ (.int (k:Nat))) (φ .none))=ξ (N % 4==1):=J5 (r:= .v (.int (N % 4))) (md rfl rfl (by lia)) (q:= .v (.int 1)) rfl (b85 _ _)
 have hcd:P7 (u5 (m2 D4 (m2 Θ (a6 6) (mC (.int 4))) (mC (.int 1)))) (u5 (b0v false 3 (a6 7))) (prS (M:=M) ns K rs (φ (.int (at_:Nat))) (φ (.int N)) (φ (row w)) (φ (j4 m)) (φ (.int (k:Nat))) (φ .none))=ξ ((N % 4==1)&&(t5 K w).isSome):=by
  unfold P7;rw [hq,AR,hin];cases(N % 4==1)<;>rfl
 have lets:(i7 (O7 4 (r9 (a4 (mC (.str (AD "let"))) (a4 (a6 7) (a4 (a6 8) b5))))) (V3 3 (a6 7) (V1 C5 3 (a6 8)))) (prS (M:=M) ns K rs (φ (.int (at_:Nat))) (φ (.int N)) (φ (row w)) (φ (j4 m)) (φ (.int (k:Nat))) (φ .none))=ξ (.nx (prS (M:=M) ns (E1 K w d) (rs++[.lt w m]) (φ (.int (at_:Nat))) (φ (.int N)) (φ (row w)) (φ (j4 m)) (φ (.int (k:Nat))) (φ .none))):=by
  refine(B6 (ρ':=prS (M:=M) ns K (rs++[.lt w m]) (φ (.int (at_:Nat))) (φ (.int N)) (φ (row w)) (φ (j4 m)) (φ (.int (k:Nat))) (φ .none)) ?_).trans ?_
  ·rw [D0 (r:= .v (.tuple [.str (AD "let"),row w,j4 m])) (p:= .tuple [.str (AD "let"),row w,j4 m]) (ps:=rs.map (G5 j4)) rfl rfl rfl (by rw [AT];lia)]
   unfold prS;rw [Ao]
   rfl
  ·have ec:V1 C5 3 (a6 8) (prS (M:=M) ns K (rs++[.lt w m]) (φ (.int (at_:Nat))) (φ (.int N)) (φ (row w)) (φ (j4 m)) (φ (.int (k:Nat))) (φ .none))=φ (PR d):=a4E rfl rfl hsz rfl;unfold V3;rw [ec];show(if(dN PR K).length<AO then ξ (Fl.nx _) else ζ)=_
   rw [if_pos (by rw [a2R,sizeLine_eq];lia)]
   unfold prS;rw [<-b27]
   rfl
 have okl:OkR M K (.lt w m) (E1 K w d):=⟨ok,dp,hw,AQ _,by show 1<=3;lia,by show itK w m 1 K=_;rw [itK,hd];rfl,λh=>nomatch h⟩
 have kml:KM M (E1 K w d):=hK.put hw ⟨d1,d2,d3,d4⟩
 have hpl:=a2n K w d
 have go:∀o,(i7 (o9 (P7 (u5 (m2 D4 (m2 Θ (a6 6) (mC (.int 4))) (mC (.int 1)))) (u5 (b0v false 3 (a6 7)))) (n3 10 (R7 3 (j2 B5 (a4 (a6 8) (a4 (a6 7) (a4 (a6 9) (a4 (a6 3) (a4 (a6 2) b5)))))))) l0)
  (o9 (u5 (m2 (c1e false) (a6 10) (mC .none))) (i7 (O7 4 (r9 (a4 (mC (.str (AD "let"))) (a4 (a6 7) (a4 (a6 8) b5))))) (V3 3 (a6 7) (V1 C5 3 (a6 8)))) (i7 (O7 4 (r9 (a4 (mC (.str (AD "again"))) (a4 (a6 9) (a4 (a6 7) (a4 (a6 8) b5)))))) (b1p 3 10)))) (prS (M:=M) ns K rs (φ (.int (at_:Nat))) (φ (.int N)) (φ (row w)) (φ (j4 m)) (φ (.int (k:Nat))) (φ .none))=o->J0 (prS (M:=M) ns K rs (φ (.int (at_:Nat))) q6 q7 q8 q9 q10)=o:=λo h=>by
  unfold J0
  refine(e8 e1).trans ?_
  refine(e8 e2).trans ?_
  refine(e8 e3).trans ?_
  refine(e8 e4).trans ?_
  refine(e8 (p:= .none) rfl).trans ?_
  exact h
 cases hb:((N % 4==1)&&(t5 K w).isSome) with
 |false=>
  rw [hb] at hcd
  exact⟨.lt w m,E1 K w d,_,_,_,_,_,okl,kml,by lia,go _ ((b0 hcd).trans ((a3j rfl).trans lets))⟩
 |true=>
  rw [hb] at hcd
  rw [χ] at hb
  have lent:∀r:d5,r.noK=true->B5 [j4 m,row w,.int (k:Nat),kd K,.int (M:Nat)]=ξ r->R7 3 (j2 B5 (a4 (a6 8) (a4 (a6 7) (a4 (a6 9) (a4 (a6 3) (a4 (a6 2) b5)))))) (prS (M:=M) ns K rs (φ (.int (at_:Nat))) (φ (.int N)) (φ (row w)) (φ (j4 m)) (φ (.int (k:Nat))) (φ .none))=ξ r:=λr hn e=>b2v rfl ((P5 (i0 (q:= .v (j4 m)) rfl rfl (i0 (q:= .v (row w)) rfl rfl (i0 (q:= .v (.int (k:Nat))) rfl rfl (i0 (q:= .v (kd K)) rfl rfl (i0 (q:= .v (.int (M:Nat))) rfl rfl rfl)))))).trans e) hn
  rcases b8v hM ok dp hw (k:=k) hk3 hK hl with ea|⟨K',i1,i2,i3,ea⟩
  ·refine⟨.lt w m,E1 K w d,_,_,_,_,_,okl,kml,by lia,go _ ((B6 ?_).trans ((a3j rfl).trans lets))⟩
   rw [a3j hcd]
   exact a1R (lent _ rfl ea)
  ·have hin':w∈K.map (·.1):=by
    obtain⟨d',hd'⟩:=Option.isSome_iff_exists.mp hb.2;exact Ag.mpr ⟨_,Q5 hd',rfl⟩
   refine⟨.ag k w m,K',φ (.int N),φ (row w),φ (j4 m),φ (.int (k:Nat)),ζ,⟨ok,dp,hw,hk1,hk3,i1,λ_=>hin'⟩,i2,by lia,go _ ((B6 (ρ':=prS (M:=M) ns K rs (φ (.int (at_:Nat))) (φ (.int N)) (φ (row w)) (φ (j4 m)) (φ (.int (k:Nat))) (ξ (.ow (.txt (dN PR K'))))) ?_).trans ?_)⟩
   ·rw [a3j hcd];unfold n3;rw [lent (.ow (.txt (dN PR K'))) (b9L K') ea]
    rfl
   ·refine(a9i rfl).trans ?_;refine(B6 (ρ':=prS (M:=M) ns K (rs++[.ag k w m]) (φ (.int (at_:Nat))) (φ (.int N)) (φ (row w)) (φ (j4 m)) (φ (.int (k:Nat))) (ξ (.ow (.txt (dN PR K'))))) ?_).trans ?_
    ·rw [D0 (r:= .v (.tuple [.str (AD "again"),.int (k:Nat),row w,j4 m])) (p:= .tuple [.str (AD "again"),.int (k:Nat),row w,j4 m]) (ps:=rs.map (G5 j4)) rfl rfl rfl (by rw [AT];lia)]
     unfold prS;rw [Ao]
     rfl
    ·rw [b7X (c:= .txt (dN PR K')) rfl]
     rfl
theorem b5R{ns:List Int}(hn:ns.length<=63):∃rs K m,Chn M [] rs K/\v7 m/\p9 m<=8/\(∃d,x6 K m=ξ d/\d.1<=M/\d.2<=M)/\rs.length<=20/\Z2 [.list (ns.map .int),.int 21,.int (M:Nat)]=ξ (.own (rs.map (G5 j4)++[.tuple [.str (AD "knot"),j4 m]])):=by
 obtain⟨E,hE⟩:∃E:Int,E=(if(21:Int)<(ns.length:Int) then(21:Int) else(ns.length:Int)):=⟨_,rfl⟩
 have hE1:E<=21/\E<=(ns.length:Nat)/\0<=E:=by rw [hE];split<;>lia
 have ht:(a1q 1 E).length=(E - 1).toNat:=a4h _ _;have gl:P8 (.v (.list (ns.map .int)))=φ (.int (ns.length:Nat)):=by
  show ξ _=_;rw [AT]
 have er:b6L (a4 (mC (.int 1)) (a4 (m2 (gI λi j=> .int (if j<i then j else i)) (m1 P8 (a6 0)) (a6 1)) b5)) (prS (M:=M) ns [] [] ζ ζ ζ ζ ζ ζ)=ξ (a1q 1 E):=by
  rw [b7Z,i0 (q:= .v (.int 1)) rfl rfl (i0 (q:= .v (.int E)) (by rw [hE];exact K4 (one rfl gl) (q:= .v (.int 21)) rfl rfl) rfl rfl),AR]
  exact c2b (by lia)
 obtain⟨ρ',e5,rs,K,q5,q6,q7,q8,q9,q10,h1,h2,h3,h4,rfl⟩:=a2e (body:=J0) (tg:=j3 5) (λj ρ=>∃(rs:List Rw) (K:NL u9) (q5 q6 q7 q8 q9 q10:Υ d5),rs.length=j/\Chn M [] rs K/\KM M K/\K.length<=3*j/\ρ=prS (M:=M) ns K rs q5 q6 q7 q8 q9 q10)
  (ps:=a1q 1 E) (ρ:=prS (M:=M) ns [] [] ζ ζ ζ ζ ζ ζ)
  (by
   rintro j p hp ρ ⟨rs,K,q5,q6,q7,q8,q9,q10,h1,h2,h3,h4,rfl⟩;obtain⟨rfl,hj⟩:=c2c hp;have hlt:1+j<ns.length:=by lia
   obtain⟨r,K',q6',q7',q8',q9',q10',o,k1,k2,eb⟩:=b8b hM (ns:=ns) (at_:=1+j) hlt (by lia) h3 (by lia) (rs:=rs) (by lia) q6 q7 q8 q9 q10
   rw [show((1+j:Nat):Int)=1+(j:Int) by lia] at eb
   exact a6O (ρ1:=prS (M:=M) ns K rs (φ (.int (1+(j:Int)))) q6 q7 q8 q9 q10) rfl eb ⟨rs++[r],K',_,_,_,_,_,_,by rw [AW,h1];rfl,h2.snoc o,k1,by lia,rfl⟩)
  ⟨[],[],ζ,ζ,ζ,ζ,ζ,ζ,rfl,rfl,(λx hx=>nomatch hx),by simp,rfl⟩
 rw [ht] at h1 h4;obtain⟨c,hc⟩:=b6i (ns:=ns);obtain⟨N,eN⟩:=b9O c (k:=5) (by lia)
 have e6:j2 K3 (a4 (j2 K8 (a4 (a6 0) (a4 (mC (.int 0)) b5))) (a4 (mC (.int 5)) b5)) (prS (M:=M) ns K rs q5 q6 q7 q8 q9 q10)=φ (.int N):=(N2 ((N2 rfl rfl).trans hc) rfl).trans eN;obtain⟨m,ok,⟨d,hd,_,d2,_,d4⟩,dp,e7⟩:=a81 hM h3 (by lia) N (ρ:=prS (M:=M) ns K rs q5 (φ (.int N)) q7 q8 q9 q10) rfl rfl rfl
 refine⟨rs,K,m,h2,ok,dp,⟨d,hd,d2,d4⟩,by lia,m4 (n:=8) ?_⟩
 show a1S [φ (.list (ns.map .int)),φ (.int 21),φ (.int (M:Nat)),ζ,ζ,ζ,ζ,ζ,ζ,ζ,ζ]=_;unfold a1S;refine(B6 (ρ':=[φ (.list (ns.map .int)),φ (.int 21),φ (.int (M:Nat)),ξ (.ow (.txt [])),ζ,ζ,ζ,ζ,ζ,ζ,ζ]) rfl).trans ?_;refine(P0 (l:=[]) rfl).trans ?_;refine(W9 er e5).trans ?_;refine(e8 e6).trans ?_;have et:r9 (a4 (mC (.str (AD "knot"))) (a4 (R7 3 (j2 N8 (a4 (a6 6) (a4 (a6 3) (a4 (m1 a2I (a6 3)) (a4 (a6 2) b5)))))) b5)) (prS (M:=M) ns K rs q5 (φ (.int N)) q7 q8 q9 q10)=φ (.tuple [.str (AD "knot"),j4 m]):=c0G rfl e7;have el:L5 (a4 (r9 (a4 (mC (.str (AD "knot"))) (a4 (R7 3 (j2 N8 (a4 (a6 6) (a4 (a6 3) (a4 (m1 a2I (a6 3)) (a4 (a6 2) b5)))))) b5))) b5) (prS (M:=M) ns K rs q5 (φ (.int N)) q7 q8 q9 q10)=ξ (.own [.tuple [.str (AD "knot"),j4 m]]):=by
  unfold L5;rw [i0 et rfl rfl]
  rfl
 have ead:=K4 (g:=y9) (x:=a6 4) (r:= .bor (rs.map (G5 j4))) (ρ:=prS (M:=M) ns K rs q5 (φ (.int N)) q7 q8 q9 q10) rfl el (c1d (by rw [AT,sizeLine_eq];simp only [AV,Al];lia))
 unfold k7;refine(congrArg (λo=>Option.bind o _) ead).trans rfl
end
theorem c1B{c f:Str}{x:M}{ρ:b7}{p:PV}(h:x ρ=φ p):a5H c [f] (a4 x b5) ρ=φ (obV c [(.str f,p)]):=by
 unfold a5H a4;rw [h]
 rfl
theorem c3Z{c f g:Str}{x y:M}{ρ:b7}{p q:PV}(h:x ρ=φ p)(h2:y ρ=φ q):a5H c [f,g] (a4 x (a4 y b5)) ρ=φ (obV c [(.str f,p),(.str g,q)]):=by
 unfold a5H a4;rw [h,h2]
 rfl
theorem c6b{c f g k:Str}{x y z:M}{ρ:b7}{p q r:PV}(h:x ρ=φ p)(h2:y ρ=φ q)(h3:z ρ=φ r):a5H c [f,g,k] (a4 x (a4 y (a4 z b5))) ρ=φ (obV c [(.str f,p),(.str g,q),(.str k,r)]):=by
 unfold a5H a4;rw [h,h2,h3]
 rfl
section
variable {R:RF}
theorem c5j{ps:List Mo}{w ww:PV}{elt:M}(he:elt=j2 R (a4 (a6 2) b5))(hp:ps.length<=6)(h:∀p∈ps,R [j4 p]=φ (n5 p)):
 m1 a2J (P6 1 (A8 (m2 j7 (a6 0) (mC (.int 1)))) (j3 2) a0l elt) [φ (.tuple [w,.list (ps.map j4)]),φ ww]=φ (.tuple (a4V ps)):=by
 have cm:=S4 (ι:=j4) (f:=n5) (k:=1) (it:=A8 (m2 j7 (a6 0) (mC (.int 1)))) (tg:=j3 2) (elt:=elt) (ρ:=[φ (.tuple [w,.list (ps.map j4)]),φ ww]) ps rfl (by lia) λp hp=>by
  refine⟨[φ (.tuple [w,.list (ps.map j4)]),φ ww,φ (j4 p)],rfl, ?_⟩;rw [he,(J7 rfl).trans (h p hp)]
  rfl
 refine(congrArg (λo=>Option.bind o a2J) cm).trans ?_
 rw [a6z]
 rfl
theorem b70(m:Mo)(ok:v7 m)(ih:∀p,v7 p->p9 p<p9 m->R [j4 p]=φ (n5 p)):m3 1 (a0S R) [j4 m]=φ (n5 m):=by
 refine m4 ?_;show a0S R [φ (j4 m),ζ]=_;unfold a0S;cases m with
 |plain rows=>
  rw [j4,e8 (p:= .str (AD "plain")) rfl,n5];exact j8 rfl (c1B rfl)
 |named w=>
  rw [j4,e8 (p:= .str (AD "name")) rfl,b0 rfl,n5];exact j8 rfl (c1B rfl)
 |beside ps=>
  ext u
  have d:p9 (.beside ps)=1+a0r ps:=by rw [p9]
  rw [j4,V9,e8 (p:= .str (AD "beside")) rfl,b0 rfl,b0 rfl,n5];exact j8 rfl (c1B (c5j rfl ok.2.1 λp hp=>ih p (C3 ok.2.2 hp) (by have:=D3 hp;lia)))
 |above ps=>
  ext u
  have d:p9 (.above ps)=1+a0r ps:=by rw [p9]
  rw [j4,V9,e8 (p:= .str (AD "above")) rfl,b0 rfl,b0 rfl,b0 rfl,n5];exact j8 rfl (c1B (c5j rfl ok.2.1 λp hp=>ih p (C3 ok.2.2 hp) (by have:=D3 hp;lia)))
 |across k p=>
  ext u
  have d:p9 (.across k p)=1+p9 p:=by rw [p9]
  rw [j4,e8 (p:= .str (AD "across")) rfl,b0 rfl,b0 rfl,b0 rfl,b0 rfl,n5];exact j8 rfl (c3Z rfl ((J7 rfl).trans (ih p ok.2.2 (by lia))))
 |down k p=>
  ext u
  have d:p9 (.down k p)=1+p9 p:=by rw [p9]
  rw [j4,e8 (p:= .str (AD "down")) rfl,b0 rfl,b0 rfl,b0 rfl,b0 rfl,b0 rfl,n5];exact j8 rfl (c3Z rfl ((J7 rfl).trans (ih p ok.2.2 (by lia))))
 |turned w p=>
  ext u
  have d:p9 (.turned w p)=1+p9 p:=by rw [p9]
  rw [j4,e8 (p:= .str (AD "turned")) rfl,b0 rfl,b0 rfl,b0 rfl,b0 rfl,b0 rfl,b0 rfl,n5];exact j8 rfl (c3Z rfl ((J7 rfl).trans (ih p ok.2 (by lia))))
 |dyed a b p=>
  ext u
  have d:p9 (.dyed a b p)=1+p9 p:=by rw [p9]
  rw [j4,e8 (p:= .str (AD "dye")) rfl,b0 rfl,b0 rfl,b0 rfl,b0 rfl,b0 rfl,b0 rfl,b0 rfl,n5];have e:=c6b (c:=AD "Dyed") (f:=AD "one") (g:=AD "other") (k:=AD "part") (x:=m2 j7 (a6 0) (mC (.int 1))) (y:=m2 j7 (a6 0) (mC (.int 2))) (z:=j2 R (a4 (m2 j7 (a6 0) (mC (.int 3))) b5)) (ρ:=[φ (.tuple [.str (AD "dye"),row [a],row [b],j4 p]),φ (.str (AD "dye"))]) (p:=row [a]) (q:=row [b]) rfl rfl ((J7 rfl).trans (ih p ok.2.2 (by lia)))
  show k7 _ _=_;unfold k7;exact(congrArg (λo=>Option.bind o _) e).trans rfl
end
theorem a9b:∀(n:Nat) (m:Mo),v7 m->p9 m<=n->a3Y n [j4 m]=φ (n5 m)
 |0,m,_,h=>by have:=T6 m;lia
 |n+1,m,ok,h=>b70 m ok λp okp hp=>a9b n p okp (by lia)
theorem a5I{x:M}{ρ:b7}{ps:List PV}{p:PV}(h:x ρ=φ (.tuple (ps++[p]))):m2 j7 x (R8 (mC (.int 1))) ρ=φ p:=by
 refine K4 (q:= .v (.int (-1))) h rfl ?_;show(L2.atI (ps++[p]) (-1)).map d5.v=_;have:L2.atI (ps++[p]) (-1)=ξ p:=by
  unfold L2.atI;have:ixN (ps++[p]).length (-1)=ξ ps.length:=by
   unfold ixN;rw [AW,List.length_singleton];simp
   try lia
  rw [this];simp
 rw [this]
 rfl
theorem b5b{ps qs:List PV}(h1:ps.length≠0)(h2:qs.length≠0)(h3:ps.length+qs.length<=16777216):y9 (.v (.tuple ps)) (.v (.tuple qs))=φ (.tuple (ps++qs)):=by
 show(if(ps.length≠0/\qs.length≠0)/\ps.length+qs.length<=AO then ξ (d5.v (.tuple (ps++qs))) else ζ)=_
 rw [if_pos ⟨⟨h1,h2⟩,by rw [sizeLine_eq];exact h3⟩]
theorem b5f(r:Rw)(ok:v7 r.mo)(dp:p9 r.mo<=8){s0:Υ d5}{A:List PV}(hA:A.length<=100):z5 [s0,ξ (.own A),φ (G5 j4 r)]=ξ (.nx [s0,ξ (.own (A++[G5 n5 r])),φ (G5 j4 r)]):=by
 have em:=a9b 12 r.mo ok (by lia)
 unfold z5;cases r with
 |lt w m=>
  have e1:j2 D5 (a4 (m2 j7 (a6 2) (R8 (mC (.int 1)))) b5) [s0,ξ (.own A),φ (G5 j4 (.lt w m))]=φ (n5 m):=(J7 (a5I (ps:=[.str (AD "let"),row w]) rfl)).trans em;have e2:r9 (a4 (j2 D5 (a4 (m2 j7 (a6 2) (R8 (mC (.int 1)))) b5)) b5) [s0,ξ (.own A),φ (G5 j4 (.lt w m))]=φ (.tuple [n5 m]):=by
   unfold r9;rw [i0 e1 rfl rfl]
   rfl
  have e3:m2 y9 (R9 (a6 2) X4 (V4 (R8 (mC (.int 1))))) (r9 (a4 (j2 D5 (a4 (m2 j7 (a6 2) (R8 (mC (.int 1)))) b5)) b5)) [s0,ξ (.own A),φ (G5 j4 (.lt w m))]=φ (G5 n5 (.lt w m)):=K4 (r:= .v (.tuple [.str (AD "let"),row w])) rfl e2 (b5b (by simp) (by simp) (by simp))
  rw [D0 e3 rfl rfl (by lia)]
  rfl
 |ag k w m=>
  have e1:j2 D5 (a4 (m2 j7 (a6 2) (R8 (mC (.int 1)))) b5) [s0,ξ (.own A),φ (G5 j4 (.ag k w m))]=φ (n5 m):=(J7 (a5I (ps:=[.str (AD "again"),.int (k:Nat),row w]) rfl)).trans em;have e2:r9 (a4 (j2 D5 (a4 (m2 j7 (a6 2) (R8 (mC (.int 1)))) b5)) b5) [s0,ξ (.own A),φ (G5 j4 (.ag k w m))]=φ (.tuple [n5 m]):=by
   unfold r9;rw [i0 e1 rfl rfl]
   rfl
  have e3:m2 y9 (R9 (a6 2) X4 (V4 (R8 (mC (.int 1))))) (r9 (a4 (j2 D5 (a4 (m2 j7 (a6 2) (R8 (mC (.int 1)))) b5)) b5)) [s0,ξ (.own A),φ (G5 j4 (.ag k w m))]=φ (G5 n5 (.ag k w m)):=K4 (r:= .v (.tuple [.str (AD "again"),.int (k:Nat),row w])) rfl e2 (b5b (by simp) (by simp) (by simp))
  rw [D0 e3 rfl rfl (by lia)]
  rfl
abbrev kn(f:Mo->PV)(m:Mo):PV:= .tuple [.str (AD "knot"),f m]
theorem a8F{s0:Υ d5}{qs:List PV}:∀(rs:List Rw) (A:List PV) (q2:Υ d5),(∀r∈rs,v7 r.mo/\p9 r.mo<=8)->A.length+rs.length<=100->∃q2',y0 z5 (j3 2) (rs.map (G5 j4)++qs) [s0,ξ (.own A),q2]=y0 z5 (j3 2) qs [s0,ξ (.own (A++rs.map (G5 n5))),q2']
 |[],A,q2,_,_=>⟨q2,by rw [Aq,Aq,Am];rfl⟩
 |r::rs,A,q2,h,hl=>by
  rw [AV] at hl;have h1:=h r AU;obtain⟨q2',e⟩:=a8F (s0:=s0) (qs:=qs) rs (A++[G5 n5 r]) (φ (G5 j4 r)) (λx hx=>h x (Ab _ hx)) (by rw [AW,List.length_singleton];lia)
  refine⟨q2', ?_⟩;rw [AM,Av,y0];show(z5 [s0,ξ (.own A),φ (G5 j4 r)]).bind _=_;rw [b5f r h1.1 h1.2 (by lia),AR]
  rw [List.append_assoc] at e;exact e
theorem b5e(m:Mo)(ok:v7 m)(dp:p9 m<=8){s0:Υ d5}{A:List PV}(hA:A.length<=100):z5 [s0,ξ (.own A),φ (kn j4 m)]=ξ (.nx [s0,ξ (.own (A++[kn n5 m])),φ (kn j4 m)]):=by
 have em:=a9b 12 m ok (by lia)
 unfold z5;have e1:j2 D5 (a4 (m2 j7 (a6 2) (R8 (mC (.int 1)))) b5) [s0,ξ (.own A),φ (kn j4 m)]=φ (n5 m):=(J7 (a5I (ps:=[.str (AD "knot")]) rfl)).trans em;have e2:r9 (a4 (j2 D5 (a4 (m2 j7 (a6 2) (R8 (mC (.int 1)))) b5)) b5) [s0,ξ (.own A),φ (kn j4 m)]=φ (.tuple [n5 m]):=by
  unfold r9;rw [i0 e1 rfl rfl]
  rfl
 have e3:m2 y9 (R9 (a6 2) X4 (V4 (R8 (mC (.int 1))))) (r9 (a4 (j2 D5 (a4 (m2 j7 (a6 2) (R8 (mC (.int 1)))) b5)) b5)) [s0,ξ (.own A),φ (kn j4 m)]=φ (kn n5 m):=K4 (r:= .v (.tuple [.str (AD "knot")])) rfl e2 (b5b (by simp) (by simp) (by simp))
 rw [D0 e3 rfl rfl (by lia)]
 rfl
theorem Chn.all{M:Nat}:∀{rs:List Rw} {K K':NL u9},Chn M K rs K'->∀r∈rs,v7 r.mo/\p9 r.mo<=8
 |[],_,_,_,r,hr=>nomatch hr
 |q::rs,K,K',⟨K1,o,h⟩,r,hr=>by
  rcases AX.mp hr with rfl|hr
  ·exact⟨o.ok,o.dp⟩
  ·exact h.all r hr
theorem b8B{M:Nat}{rs:List Rw}{K:NL u9}(h:Chn M [] rs K)(hl:rs.length<=20){m:Mo}(ok:v7 m)(dp:p9 m<=8):a3W [.list (rs.map (G5 j4)++[kn j4 m])]=ξ (.own (rs.map (G5 n5)++[kn n5 m])):=by
 obtain⟨q2,e⟩:=a8F (s0:=φ (.list (rs.map (G5 j4)++[kn j4 m]))) (qs:=[kn j4 m]) rs [] ζ h.all (by simp;lia)
 have e2:y0 z5 (j3 2) (rs.map (G5 j4)++[kn j4 m]) [φ (.list (rs.map (G5 j4)++[kn j4 m])),ξ (.own []),ζ]=ξ (.nx [φ (.list (rs.map (G5 j4)++[kn j4 m])),ξ (.own (rs.map (G5 n5)++[kn n5 m])),φ (kn j4 m)]):=by
  rw [e,y0];show(z5 [φ (.list (rs.map (G5 j4)++[kn j4 m])),ξ (.own ([]++rs.map (G5 n5))),φ (kn j4 m)]).bind _=_;rw [b5e m ok dp (by simp;lia),AR]
  rfl
 refine m4 (n:=2) ?_;show a3y [φ (.list (rs.map (G5 j4)++[kn j4 m])),ζ,ζ]=_;unfold a3y;refine(P0 (l:=[]) rfl).trans ?_;exact(W9 (ps:=rs.map (G5 j4)++[kn j4 m]) rfl e2).trans rfl
def a5f(f1 f2 f3 f4 f5 f6 f7 f8:RF):Mo->RF
 | .plain _=>f1
 | .named _=>f2
 | .beside _=>f3
 | .above _=>f4
 | .across _ _=>f5
 | .down _ _=>f6
 | .turned _ _=>f7
 | .dyed _ _ _=>f8
abbrev c4Q(f1 f2 f3 f4 f5 f6 f7 f8:RF):List (Str×RF):=[(AD "Plain",f1),(AD "Named",f2),(AD "Beside",f3),(AD "Above",f4),(AD "Across",f5),(AD "Down",f6),(AD "Turned",f7),(AD "Dyed",f8)]
theorem a4L{f1 f2 f3 f4 f5 f6 f7 f8:RF}{mo:M}{ma:MA}{ρ:b7}{m:Mo}{x:Str}{qs:List PV}(hx:x=AD "size"\/x=AD "counts")(h:mo ρ=φ (n5 m))(ha:ma ρ=ξ qs):
 V2 (c4Q f1 f2 f3 f4 f5 f6 f7 f8) x mo ma ρ=a5f f1 f2 f3 f4 f5 f6 f7 f8 m (n5 m::qs):=by
 unfold V2
 rw [h,ha]
 cases m<;>rw [n5]<;>rcases hx with rfl|rfl<;>rfl
theorem b6t(R:List (List Nat)):D9 [AD "Plain"] (AD "rows") (.v (n5 (.plain R)))=φ (.tuple (R.map row)):=by rw [n5];rfl
theorem b6r(w:List Nat):D9 [AD "Named"] (AD "name") (.v (n5 (.named w)))=φ (row w):=by rw [n5];rfl
theorem b07(ps:List Mo):D9 [AD "Beside",AD "Above"] (AD "parts") (.v (n5 (.beside ps)))=φ (.tuple (ps.map n5)):=by rw [n5,a6z];rfl
theorem b06(ps:List Mo):D9 [AD "Beside",AD "Above"] (AD "parts") (.v (n5 (.above ps)))=φ (.tuple (ps.map n5)):=by rw [n5,a6z];rfl
theorem b3T(k:Nat)(p:Mo):D9 [AD "Across",AD "Down"] (AD "many") (.v (n5 (.across k p)))=φ (.int (k:Nat)):=by rw [n5];rfl
theorem b3S(k:Nat)(p:Mo):D9 [AD "Across",AD "Down"] (AD "many") (.v (n5 (.down k p)))=φ (.int (k:Nat)):=by rw [n5];rfl
theorem c3w(w:List Nat)(p:Mo):D9 [AD "Turned"] (AD "way") (.v (n5 (.turned w p)))=φ (row w):=by rw [n5];rfl
theorem c3v(a b:Nat)(p:Mo):D9 [AD "Dyed"] (AD "one") (.v (n5 (.dyed a b p)))=φ (row [a]):=by rw [n5];rfl
theorem b8V(a b:Nat)(p:Mo):D9 [AD "Dyed"] (AD "other") (.v (n5 (.dyed a b p)))=φ (row [b]):=by rw [n5];rfl
abbrev b9Y:List Str:=[AD "Across",AD "Down",AD "Turned",AD "Dyed"]
theorem b6s{m p:Mo}(h:(∃k,m= .across k p)\/(∃k,m= .down k p)\/(∃w,m= .turned w p)\/∃a b,m= .dyed a b p):D9 b9Y (AD "part") (.v (n5 m))=φ (n5 p):=by
 rcases h with⟨k,rfl⟩|⟨k,rfl⟩|⟨w,rfl⟩|⟨a,b,rfl⟩<;>rw [n5]<;>rfl
theorem b4F{x:M}{ps:List PV}{p:PV}(h:x (ps.map λq=>φ q)=φ p):m3 0 (k7 x) ps=φ p:=by
 have e:x (ps.map (λq=>ξ (d5.v q))++AS 0 ζ)=φ p:=by
  rw [Az,Am];exact h
 unfold m3 k7;rw [e]
 rfl
theorem a3R{tab:List Str}{f:Str}{v p:PV}{ρ:b7}(h:D9 tab f (.v v)=φ p):m1 (D9 tab f) (a6 0) (φ v::ρ)=φ p:=h
theorem b3C{x:Str}{g:RF}{i:Nat}{m:MA}{ρ:b7}{qs:List PV}{tab:List (Str×RF)}(h:ρ[i]?=ξ (φ (a2d x)))(hl:tab.lookup x=ξ g)(hm:m ρ=ξ qs):a38 tab i m ρ=g qs:=by
 unfold a38;rw [h];show(tab.lookup x).bind (λg=>(m ρ).bind g)=_;rw [hl,AR,hm,AR]
theorem b17{a b:Nat}(h1:a<=24)(h2:b<=24)(p:PV):I0 [.int (a:Nat),.int (b:Nat),p]=φ (PR (a,b)):=by
 have t1:a0m (u5 (m2 (gI λi j=> .bool (decide (j<i))) (a6 0) (mC S7))) (u5 (m2 (gI λi j=> .bool (decide (j<i))) (a6 1) (mC S7))) [φ (.int (a:Nat)),φ (.int (b:Nat)),φ p]=ξ false:=by
  have e1:u5 (m2 (gI λi j=> .bool (decide (j<i))) (a6 0) (mC S7)) [φ (.int (a:Nat)),φ (.int (b:Nat)),φ p]=ξ false:=by
   refine(J5 (r:= .v (.int (a:Nat))) rfl (q:= .v (.int 24)) rfl (b:=decide ((24:Int)<(a:Nat))) rfl).trans ?_;rw [decide_eq_false (by lia)]
  have e2:u5 (m2 (gI λi j=> .bool (decide (j<i))) (a6 1) (mC S7)) [φ (.int (a:Nat)),φ (.int (b:Nat)),φ p]=ξ false:=by
   refine(J5 (r:= .v (.int (b:Nat))) rfl (q:= .v (.int 24)) rfl (b:=decide ((24:Int)<(b:Nat))) rfl).trans ?_;rw [decide_eq_false (by lia)]
  exact c5s e1 e2
 refine m4 (n:=0) ?_;show a0O [φ (.int (a:Nat)),φ (.int (b:Nat)),φ p]=_;unfold a0O;exact(b0 t1).trans rfl
theorem c4M(be:Bool){x d y:u9}(h:a08 be x d=ξ y)(p:PV):(if be=true then Z3 else a0G) [PR x,PR d,p]=φ (PR y):=by
 cases be with
 |true=>
  rw [if_pos rfl];unfold a08 at h;rw [if_pos rfl] at h;split at h
  ·rename_i c;cases h;refine m4 (n:=0) ?_;show a1T [φ (PR x),φ (PR d),φ p]=_;unfold a1T;have t:u5 (m2 gNe (m2 j7 (a6 0) (mC (.int 0))) (m2 j7 (a6 1) (mC (.int 0)))) [φ (PR x),φ (PR d),φ p]=ξ (!decide (((x.1:Nat):Int)=(d.1:Nat))):=J5 (r:= .v (.int (x.1:Nat))) rfl (q:= .v (.int (d.1:Nat))) rfl (b2G _ _);rw [decide_eq_true (by lia)] at t
   refine(b0 t).trans (L7 ((P5 (ps:=[.int (x.1:Nat),.int ((x.2+d.2:Nat):Int),p]) ?_).trans (b17 c.2.1 c.2.2 p)));exact i0 (q:= .v (.int (x.1:Nat))) rfl rfl (i0 (q:= .v (.int ((x.2:Nat)+(d.2:Nat)))) rfl (by rw [Int.natCast_add];rfl) (i0 (q:= .v p) rfl rfl rfl))
  ·cases h
 |false=>
  rw [if_neg Af];unfold a08 at h;rw [if_neg Af] at h;split at h
  ·rename_i c;cases h;refine m4 (n:=0) ?_;show a2y [φ (PR x),φ (PR d),φ p]=_;unfold a2y;have t:u5 (m2 gNe (m2 j7 (a6 0) (mC (.int 1))) (m2 j7 (a6 1) (mC (.int 1)))) [φ (PR x),φ (PR d),φ p]=ξ (!decide (((x.2:Nat):Int)=(d.2:Nat))):=J5 (r:= .v (.int (x.2:Nat))) rfl (q:= .v (.int (d.2:Nat))) rfl (b2G _ _);rw [decide_eq_true (by lia)] at t
   refine(b0 t).trans (L7 ((P5 (ps:=[.int ((x.1+d.1:Nat):Int),.int (x.2:Nat),p]) ?_).trans (b17 c.2.1 c.2.2 p)));exact i0 (q:= .v (.int ((x.1:Nat)+(d.1:Nat)))) rfl (by rw [Int.natCast_add];rfl) (i0 (q:= .v (.int (x.2:Nat))) rfl rfl (i0 (q:= .v p) rfl rfl rfl))
  ·cases h
abbrev fnL(be:Bool):PV:=a2d (if be=true then AD "size_beside" else AD "size_above")
section
variable {RAb RAc RBe RDo RDy RTu RLa:RF}{K:NL u9}
theorem a9W(be:Bool){s0 s1 s4:Υ d5}{i:Int}:∀(ds:List u9) (x y:u9) (q6:Υ d5),U4 be x ds=ξ y->∃q6',y0 (E5 RAb RAc RBe RDo RDy RTu RLa) (j3 6) (ds.map PR) [s0,s1,φ (.int i),φ (fnL be),s4,φ (PR x),q6]=ξ (.nx [s0,s1,φ (.int i),φ (fnL be),s4,φ (PR y),q6'])
 |[],x,y,q6,h=>by cases h;exact⟨q6,rfl⟩
 |d::ds,x,y,q6,h=>by
  rw [U4] at h;obtain⟨z,h1,h⟩:=bind_some h;obtain⟨q6',e⟩:=a9W be (s0:=s0) (s1:=s1) (s4:=s4) (i:=i) ds z y (φ (PR d)) h;refine⟨q6', ?_⟩;have hb:E5 RAb RAc RBe RDo RDy RTu RLa [s0,s1,φ (.int i),φ (fnL be),s4,φ (PR x),φ (PR d)]=ξ (.nx [s0,s1,φ (.int i),φ (fnL be),s4,φ (PR z),φ (PR d)]):=by
   unfold E5;refine a1R ((b3C (x:=if be=true then AD "size_beside" else AD "size_above") (g:=if be=true then Z3 else a0G) (qs:=[PR x,PR d,.int i]) rfl ?_ rfl).trans (c4M be h1 _))
   cases be<;>rfl
  rw [AM,y0];show(E5 RAb RAc RBe RDo RDy RTu RLa [s0,s1,φ (.int i),φ (fnL be),s4,φ (PR x),φ (PR d)]).bind _=_;rw [hb,AR];exact e
theorem b7a:∀{ps:List Mo} {ds:List u9},J3 K ps=ξ ds->ps.length=ds.length/\∀(f:Mo->PV),(∀p∈ps,∀d,x6 K p=ξ d->f p=PR d)->ps.map f=ds.map PR
 |[],ds,h=>by rw [J3] at h;cases h;exact⟨rfl,λ_ _=>rfl⟩
 |p::ps,ds,h=>by
  rw [J3] at h;obtain⟨d,e1,h⟩:=bind_some h;cases e2:J3 K ps with
  |none=>rw [e2] at h;cases h
  |some es=>
   rw [e2] at h;cases h;obtain⟨i1,i2⟩:=b7a e2;refine⟨by simp [i1],λf hf=> ?_⟩
   rw [AM,AM,hf p AU d e1,i2 f λq hq=>hf q (Ab _ hq)]
theorem a3b:∀{ps:List Mo} {ds:List u9},J3 K ps=ξ ds->∀p∈ps,∃d,x6 K p=ξ d
 |[],_,_,p,hp=>nomatch hp
 |q::ps,ds,h,p,hp=>by
  rw [J3] at h;obtain⟨d,e1,h⟩:=bind_some h;rcases AX.mp hp with rfl|hp
  ·exact⟨d,e1⟩
  ·cases e2:J3 K ps with
   |none=>rw [e2] at h;cases h
   |some es=>exact a3b e2 p hp
theorem b1J(be:Bool){ps:List Mo}{y:u9}{i:Int}(hp:ps.length<=6)(h:(J3 K ps).bind (a7N be)=ξ y)(ih:∀p∈ps,∀d,x6 K p=ξ d->a5f x9 x8 RBe RAb RAc RDo RTu RDy p [n5 p,kd K,.int i]=φ (PR d)):
 m3 3 (N1 RAb RAc RBe RDo RDy RTu RLa) [.tuple (ps.map n5),kd K,.int i,fnL be]=φ (PR y):=by
 obtain⟨ds,h1,h⟩:=bind_some h
 obtain⟨hl,hm⟩:=b7a h1
 have c1:=S4 (ι:=n5) (f:=λp=>b4Q (a5f x9 x8 RBe RAb RAc RDo RTu RDy p [n5 p,kd K,.int i])) (k:=1) (it:=A8 (a6 0)) (tg:=j3 7) (elt:=V0 RAb RAc RBe RDo RDy RTu RLa) (ρ:=[φ (.tuple (ps.map n5)),φ (kd K),φ (.int i),φ (fnL be),ζ,ζ,ζ]) ps rfl (by lia) λp hp=>by
  obtain⟨d,hd⟩:=a3b h1 p hp;refine⟨[φ (.tuple (ps.map n5)),φ (kd K),φ (.int i),φ (fnL be),ζ,ζ,ζ,φ (n5 p)],rfl, ?_⟩;unfold V0;rw [a4L (.inl rfl) (m:=p) (qs:=[kd K,.int i]) rfl rfl,ih p hp d hd]
  rfl
 rw [hm (λp=>b4Q (a5f x9 x8 RBe RAb RAc RDo RTu RDy p [n5 p,kd K,.int i])) λp hp d hd=>by show b4Q _=_;rw [ih p hp d hd];rfl] at c1
 cases ds with
 |nil=>cases h
 |cons x ds=>
  obtain⟨q6,e⟩:=a9W (RAb:=RAb) (RAc:=RAc) (RBe:=RBe) (RDo:=RDo) (RDy:=RDy) (RTu:=RTu) (RLa:=RLa) be (s0:=φ (.tuple (ps.map n5))) (s1:=φ (kd K)) (s4:=ξ (.own ((x::ds).map PR))) (i:=i) ds x y ζ h
  refine m4 (n:=3) ?_
  show N1 RAb RAc RBe RDo RDy RTu RLa [φ (.tuple (ps.map n5)),φ (kd K),φ (.int i),φ (fnL be),ζ,ζ,ζ]=_
  unfold N1
  refine(P0 c1).trans ?_
  refine(e8 (p:=PR x) (K4 (r:= .bor ((x::ds).map PR)) (q:= .v (.int 0)) rfl rfl (at0 (.inl rfl)))).trans ?_
  have e0:X3 (R9 (a6 4) (V4 (mC (.int 1))) X4) [φ (.tuple (ps.map n5)),φ (kd K),φ (.int i),φ (fnL be),ξ (.own ((x::ds).map PR)),φ (PR x),ζ]=ξ (ds.map PR):=by
   show ξ (cut (PR x::ds.map PR) (ξ 1) ζ)=ξ (ds.map PR);unfold cut HT.sIx;simp;exact List.take_of_length_le (by simp)
  exact(W9 e0 e).trans rfl
theorem b22{m p:Mo}{d:u9}{i:Int}{q3:List (Υ d5)}(hm:(∃k,m= .across k p)\/(∃k,m= .down k p)\/(∃w,m= .turned w p)\/∃a b,m= .dyed a b p)(h:a5f x9 x8 RBe RAb RAc RDo RTu RDy p [n5 p,kd K,.int i]=φ (PR d)):
 V2 (c4Q x9 x8 RBe RAb RAc RDo RTu RDy) (AD "size") (m1 (D9 b9Y (AD "part")) (a6 0)) (a4 (a6 1) (a4 (a6 2) b5)) (φ (n5 m)::φ (kd K)::φ (.int i)::q3)=φ (PR d):=(a4L (.inl rfl) (qs:=[kd K,.int i]) (a3R (b6s hm)) rfl).trans h
end
def c6j(n:Nat)(m:Mo):RF:=a5f x9 x8 (a06 n) (a1W n) (a05 n) (a2N n) (a07 n) (a2O n) m
theorem c2k{K:NL u9}(i:Int):∀(n:Nat) (m:Mo) (d:u9),v7 m->2*p9 m<=n->x6 K m=ξ d->c6j n m [n5 m,kd K,.int i]=φ (PR d):=by
 intro n
 induction n using Nat.strongRecOn with
 |ind n ih=>
  intro m d ok hd e;have hp:=T6 m;obtain⟨n,rfl⟩:∃k,n=k+2:=⟨n - 2,by lia⟩
  cases m with
  |plain R=>
   ext u
   obtain⟨v,v1,v2,v3,v4,v5⟩:=ok;rw [x6] at e;cases e;cases R with
   |nil=>simp at v3
   |cons r R=>
    have hr:=v5 r AU;have gl:P8 (.v (.tuple ((r::R).map row)))=φ (.int (((r::R).length:Nat):Int)):=by
     show ξ _=_;rw [AT]
    have e1:a66 [.tuple ((r::R).map row)]=φ (PR ((r::R).length,r.length)):=b4F (c0G (one (r:= .v (.tuple ((r::R).map row))) rfl gl) (one (K4 (r:= .v (.tuple ((r::R).map row))) (q:= .v (.int 0)) rfl rfl (at0 (.inr rfl))) (a6i (by lia))))
    exact b4F ((J7 (a3R (b6t _))).trans e1)
  |named w=>
   rw [x6] at e;have nm:∀ρ,m1 (D9 [AD "Named"] (AD "name")) (a6 0) (φ (n5 (.named w))::ρ)=φ (row w):=λρ=>a3R (b6r w);have tw:=a90 (i:=1) (ρ:=[φ (n5 (.named w)),φ (kd K),φ (.int i)]) rfl (Z7 PR K);have t:b39 true 1 (m1 (D9 [AD "Named"] (AD "name")) (a6 0)) [φ (n5 (.named w)),φ (kd K),φ (.int i)]=φ (.bool false):=by
    unfold b39;rw [nm];show(tvw 1 _).bind _=_;rw [tw,AR,a15,e]
    rfl
   have g:a2S 1 (m1 (D9 [AD "Named"] (AD "name")) (a6 0)) [φ (n5 (.named w)),φ (kd K),φ (.int i)]=φ (PR d):=by
    unfold a2S;rw [nm];show(tvw 1 _).bind _=_;rw [tw,AR,a15,e]
    rfl
   refine m4 (n:=0) ?_;show a2w [φ (n5 (.named w)),φ (kd K),φ (.int i)]=_;unfold a2w;refine(b0 (by unfold u5;rw [t];rfl)).trans (L7 g)
  |beside ps=>
   ext f
   have hw:a0t (n+1) [.tuple (ps.map n5),kd K,.int i,fnL true]=φ (PR d):=b1J true ok.2.1 e λp hp d hd'=>ih n (by lia) p d (C3 ok.2.2 hp) (by have:=D3 hp;lia) hd'
   exact b4F ((P5 (i0 (a3R (b07 ps)) rfl rfl)).trans hw)
  |above ps=>
   ext f
   have hw:a0t (n+1) [.tuple (ps.map n5),kd K,.int i,fnL false]=φ (PR d):=b1J false ok.2.1 e λp hp d hd'=>ih n (by lia) p d (C3 ok.2.2 hp) (by have:=D3 hp;lia) hd'
   exact b4F ((P5 (i0 (a3R (b06 ps)) rfl rfl)).trans hw)
  |across k p=>
   ext f
   ext p
   have hp':=ih (n+1) (by lia) p x ok.2.2 (by lia) e1
   unfold a1E at e;rw [if_pos rfl] at e;split at e
   ·rename_i c;cases e;refine m4 (n:=1) ?_;show Y9 _ _ _ _ _ _ _ [φ (n5 (.across k p)),φ (kd K),φ (.int i),ζ]=_;unfold Y9;refine(e8 (b22 (.inl ⟨k,rfl⟩) hp')).trans ?_;refine L7 ((P5 (ps:=[.int (x.1:Nat),.int ((x.2*k:Nat):Int),.int i]) ?_).trans (b17 c.1 c.2 _));refine i0 (q:= .v (.int (x.1:Nat))) rfl rfl (i0 (q:= .v (.int ((x.2:Nat)*(k:Nat)))) (mlv (x:=(x.2:Nat)) rfl (a3R (b3T k p)) (by lia)) (by rw [Int.natCast_mul];rfl) (i0 (q:= .v (.int i)) rfl rfl rfl))
   ·cases e
  |down k p=>
   ext f
   ext p
   have hp':=ih (n+1) (by lia) p x ok.2.2 (by lia) e1
   unfold a1E at e;rw [if_neg Af] at e;split at e
   ·rename_i c;cases e;refine m4 (n:=1) ?_;show a1w _ _ _ _ _ _ _ [φ (n5 (.down k p)),φ (kd K),φ (.int i),ζ]=_;unfold a1w;refine(e8 (b22 (.inr (.inl ⟨k,rfl⟩)) hp')).trans ?_;refine L7 ((P5 (ps:=[.int ((x.1*k:Nat):Int),.int (x.2:Nat),.int i]) ?_).trans (b17 c.1 c.2 _));refine i0 (q:= .v (.int ((x.1:Nat)*(k:Nat)))) (mlv (x:=(x.1:Nat)) rfl (a3R (b3S k p)) (by lia)) (by rw [Int.natCast_mul];rfl) (i0 (q:= .v (.int (x.2:Nat))) rfl rfl (i0 (q:= .v (.int i)) rfl rfl rfl))
   ·cases e
  |turned w p=>
   ext f
   cases e1:x6 K p with
   |none=>rw [e1] at e;cases e
   |some x=>
    rw [e1] at e;cases e;have hp':=ih (n+1) (by lia) p x ok.2 (by lia) e1
    have t:b0n false (.v (row w)) (.v P3)=φ (.bool (a37 w)):=by
     have h2:w=[116,117,114,110]\/w=[104,97,108,102]\/w=[98,97,99,107]\/w=[115,105,100,101]\/w=[102,108,105,112]\/w=[99,114,111,115,115]\/w=[111,116,104,101,114]:=by
      simpa [W2] using ok.1
     rcases h2 with rfl|rfl|rfl|rfl|rfl|rfl|rfl<;>rfl
    refine m4 (n:=1) ?_;show Z1 _ _ _ _ _ _ _ [φ (n5 (.turned w p)),φ (kd K),φ (.int i),ζ]=_;unfold Z1;refine(e8 (b22 (.inr (.inr (.inl ⟨w,rfl⟩))) hp')).trans ?_;have t2:u5 (m2 (b0n false) (m1 (D9 [AD "Turned"] (AD "way")) (a6 0)) (mC P3)) [φ (n5 (.turned w p)),φ (kd K),φ (.int i),φ (PR x)]=ξ (a37 w):=J5 (a3R (c3w w p)) rfl t;unfold b1L;cases hv:a37 w with
    |true=>rw [hv] at t2;exact j8 t2 rfl
    |false=>rw [hv] at t2;exact(b0 t2).trans rfl
  |dyed a b p=>
   ext f
   exact b4F (b22 (q3:=[]) (.inr (.inr (.inr ⟨a,b,rfl⟩))) (ih (n+1) (by lia) p d ok.2.2 (by lia) e))
def rw_(m:Nat)(g:Nat->Nat):List Nat:=(AZ m).map g
def cl(n m:Nat)(f:Nat->Nat->Nat):PV:= .tuple ((AZ n).map λi=>row (rw_ m (f i)))
theorem a9J(m:Nat)(g:Nat->Nat):(rw_ m g).length=m:=by simp [rw_]
theorem c5D{m:Nat}{g:Nat->Nat}{j:Nat}(h:j<m):L2.atI (rw_ m g) (j:Int)=ξ (g j):=by
 rw [b0U];simp [rw_,h]
theorem c3C(n m:Nat)(f:Nat->Nat->Nat):P8 (.v (cl n m f))=φ (.int n):=by
 show P8 (.v (.tuple _))=_;rw [b89,AT,Au]
theorem c2I{n m:Nat}{f:Nat->Nat->Nat}{i:Nat}(h:i<n):j7 (.v (cl n m f)) (.v (.int (i:Int)))=φ (row (rw_ m (f i))):=by
 refine c1g ?_;rw [b0U];simp [h]
theorem c3B{n m:Nat}{f:Nat->Nat->Nat}(h:0<n):j7 (.v (cl n m f)) (.v (.int 0))=φ (row (rw_ m (f 0))):=c2I (i:=0) h
theorem c49{m:Nat}{g:Nat->Nat}{j:Nat}(hm:m<=10000)(h:j<m):j7 (.v (row (rw_ m g))) (.v (.int (j:Int)))=φ (row [g j]):=
 b88 (by rw [a9J];lia) (c5D h)
theorem c3D{m:Nat}{g:Nat->Nat}(hm:m<=10000):P8 (.v (row (rw_ m g)))=φ (.int m):=by
 show(if(S (rw_ m g)).length<=AO then ξ (d5.v (.int (S (rw_ m g)).length)) else ζ)=_
 rw [if_pos (by rw [a5Y,a9J,sizeLine_eq];lia),a5Y,a9J]
def wy:Nat->Str
 |0=>AD "stay"
 |1=>AD "turn"
 |2=>AD "half"
 |3=>AD "back"
 |4=>AD "side"
 |5=>AD "flip"
 |6=>AD "cross"
 |7=>AD "other"
 |_=>AD "stay"
def tf(k n m:Nat)(f:Nat->Nat->Nat):Nat->Nat->Nat:=match k with
 |1=>λr c=>f (n - 1 - c) r
 |2=>λr c=>f (n - 1 - r) (m - 1 - c)
 |3=>λr c=>f c (m - 1 - r)
 |4=>λr c=>f r (m - 1 - c)
 |5=>λr c=>f (n - 1 - r) c
 |6=>λr c=>f c r
 |7=>λr c=>f (n - 1 - c) (m - 1 - r)
 |_=>f
def sw:Nat->Bool
 |1=>true
 |3=>true
 |6=>true
 |7=>true
 |_=>false
def hh(k n m:Nat):Nat:=if sw k=true then m else n
def wd(k n m:Nat):Nat:=if sw k=true then n else m
section
variable {n m:Nat}{f:Nat->Nat->Nat}
end
def bF(m:Nat)(f g:Nat->Nat->Nat):Nat->Nat->Nat:=λi j=>if j<m then f i j else g i (j - m)
def aF(n:Nat)(f g:Nat->Nat->Nat):Nat->Nat->Nat:=λi j=>if i<n then f i j else g (i - n) j
theorem c4Z{a b:Nat}:S [a]=S [b]↔a=b:=⟨λh=>by simpa using b8r h,λh=>by rw [h]⟩
def ex(a b x:Nat):Nat:=if x=a then b else if x=b then a else x
theorem a3T(a b:Nat):D4 (.v (row [a])) (.v (row [b]))=φ (.bool (decide (a=b))):=by
 rw [c3z (x:= .v (row [a])) (y:= .v (row [b])) ⟨rfl,rfl⟩,c0k,c0k];have:η (row [a]) (row [b])=(S [a]==S [b]):=by simp only [η]
 rw [this]
 congr 3
 rw [Bool.eq_iff_iff,beq_iff_eq,decide_eq_true_eq];exact c4Z
theorem b2e(x a b:Nat):a1z [row [x],row [a],row [b]]=φ (row [ex a b x]):=by
 unfold a1z a7E ex
 by_cases h1:x=a
 ·simp! [b2x,a8n,b2E,a9f,b64,a9e,c2M,a6D,a8q,b2F,b5V,AR,AM,Aq,Az,Am,↓reduceIte,b2B,b6K,a3T,h1,decide_true]
 ·by_cases h2:x=b
  ·simp! [b2x,a8n,b2E,a9f,b63,b64,a9e,c2M,c2L,b1q,a6D,a8q,b2F,b5V,AR,AM,Aq,Az,Am,b2B,b6K,a3T,decide_eq_false h1,decide_eq_true h2];rw [if_neg h1,if_pos h2]
  ·simp! [b2x,a8n,b2E,a9f,b63,a9e,c2L,b1q,a6D,a8q,b2F,b5V,AR,AM,Aq,Az,Am,b2B,a3T,decide_eq_false h1,decide_eq_false h2];rw [if_neg h1,if_neg h2]
theorem c5f{l:List Nat}(hl:l.length<=10000){y:d5}(hy:PyData.items? y.rd=ξ (l.map λx=>row [x])):W1 (.v (.str (AD ""))) y=φ (row l):=by
 have e:AD ""=S []:=by decide+kernel
 have h1:(l.map λx=>row [x])=(l.map λx=>[x]).map row:=by rw [Aj];rfl
 rw [h1] at hy;rw [e,a2H (sep:=[]) (rows:=l.map λx=>[x]) hy (by
  have:((l.map λx=>[x]).map (·.length)).sum=l.length:=b4P l λx=>x;rw [this];simp;lia),a8Z,a7G]
theorem b8D{rows:List (List Nat)}{n m:Nat}(C:c24 rows n m):c2D rows=cl n m λi j=>(rows.getD i []).getD j 0:=by
 unfold c2D cl
 congr 1
 apply List.ext_getElem (by simp [C.len])
 intro i h1 h2;rw [AT] at h1;simp only [List.getElem_map,List.getElem_range];show row rows[i]=row _
 congr 1
 congr 1
 have hl:rows[i].length=m:=C.wid _ (List.getElem_mem _);apply List.ext_getElem (by rw [a9J,hl])
 intro j h3 h4;simp [rw_,List.getD,h1,h3]
theorem c3u{x:M}{n:MS}{ρ:b7}{r:d5}(h:x ρ=ξ r):i7 (c1y x) n ρ=n ρ:=by
 unfold i7 c1y;rw [h]
 rfl
section
variable {n m p q:Nat}(hn:0<n/\n<=24)(hm:0<m/\m<=24)(hp:0<p/\p<=24)(hq:0<q/\q<=24)(f g:Nat->Nat->Nat)
include hn hm hp hq
end
section
variable {n m k:Nat}(hn:0<n/\n<=24)(hm:0<m/\m<=24)(hk:0<k/\k<=24)(f:Nat->Nat->Nat)
include hn hm hk
end
structure Ct where
 n:Nat
 m:Nat
 f:Nat->Nat->Nat
def clv(c:Ct):PV:=cl c.n c.m c.f
def dmC(c:Ct):u9:=(c.n,c.m)
def bes(x y:Ct):Ct:=⟨x.n,x.m+y.m,bF x.m x.f y.f⟩
def abv(x y:Ct):Ct:=⟨x.n+y.n,x.m,aF x.n x.f y.f⟩
def lyC(be:Bool)(x y:Ct):Ct:=if be=true then bes x y else abv x y
def la0(be:Bool):List Ct->Ct
 |[]=>⟨0,0,λ_ _=>0⟩
 |c::cs=>cs.foldl (lyC be) c
def kw(w:List Nat):Nat:=W2.idxOf w+1
def trC(w:List Nat)(c:Ct):Ct:=⟨hh (kw w) c.n c.m,wd (kw w) c.n c.m,tf (kw w) c.n c.m c.f⟩
mutual
def l9(C:NL Ct):Mo->Ct
 | .plain rows=>⟨rows.length,(rows.headD []).length,λi j=>(rows.getD i []).getD j 0⟩
 | .named w=>(t5 C w).getD ⟨0,0,λ_ _=>0⟩
 | .beside ps=>la0 true (a3G C ps)
 | .above ps=>la0 false (a3G C ps)
 | .across k p=>⟨(l9 C p).n,(l9 C p).m*k,λi j=>(l9 C p).f i (j %(l9 C p).m)⟩
 | .down k p=>⟨(l9 C p).n*k,(l9 C p).m,λi j=>(l9 C p).f (i %(l9 C p).n) j⟩
 | .turned w p=>trC w (l9 C p)
 | .dyed a b p=>⟨(l9 C p).n,(l9 C p).m,λi j=>ex a b ((l9 C p).f i j)⟩
def a3G(C:NL Ct):List Mo->List Ct
 |[]=>[]
 |p::ps=>l9 C p::a3G C ps
end
theorem a3H(C:NL Ct):∀ps:List Mo,a3G C ps=ps.map (l9 C)
 |[]=>by rw [a3G];rfl
 |p::ps=>by rw [a3G,a3H C ps];rfl
def Mt(K:NL u9)(C:NL Ct):Prop:=∀w,t5 K w=(t5 C w).map dmC
theorem Mt.put{K:NL u9}{C:NL Ct}(h:Mt K C)(w:List Nat){d:u9}{c:Ct}(e:dmC c=d):Mt (E1 K w d) (E1 C w c):=λv=>by
 rw [a1a,a1a];split
 ·rw [<-e];rfl
 ·exact h v
theorem b9t{w:List Nat}(h:w∈W2):kw w<8/\S w=wy (kw w)/\sw (kw w)=a37 w:=by
 have h2:w=[116,117,114,110]\/w=[104,97,108,102]\/w=[98,97,99,107]\/w=[115,105,100,101]\/w=[102,108,105,112]\/w=[99,114,111,115,115]\/w=[111,116,104,101,114]:=by
  simpa [W2] using h
 rcases h2 with rfl|rfl|rfl|rfl|rfl|rfl|rfl<;>exact⟨by decide+kernel,by decide+kernel,by decide+kernel⟩
def c5H(d:u9):Prop:=(0<d.1/\d.1<=24)/\(0<d.2/\d.2<=24)
theorem b9v{be:Bool}{x y:Ct}{d:u9}(h:a08 be (dmC x) (dmC y)=ξ d):dmC (lyC be x y)=d:=by
 unfold a08 at h;unfold lyC;cases be with
 |true=>
  rw [if_pos rfl] at h ⊢;split at h
  ·cases h;rfl
  ·cases h
 |false=>
  rw [if_neg Af] at h ⊢;split at h
  ·cases h;rfl
  ·cases h
theorem b2s{be:Bool}:∀{cs:List Ct} {x:Ct} {d:u9},U4 be (dmC x) (cs.map dmC)=ξ d->dmC (cs.foldl (lyC be) x)=d
 |[],x,d,h=>by cases h;rfl
 |c::cs,x,d,h=>by
  rw [AM,U4] at h;obtain⟨y,e,h⟩:=bind_some h;rw [List.foldl_cons];refine b2s ?_;rw [b9v e];exact h
section
variable {K:NL u9}{C:NL Ct}(hM:Mt K C)
include hM
theorem a4G:∀(n:Nat) (m:Mo) (d:u9),v7 m->p9 m<=n->x6 K m=ξ d->dmC (l9 C m)=d
 |0,m,_,_,h,_=>by have:=T6 m;lia
 |n+1,m,d,ok,h,e=>by
  have lst:∀(ps:List Mo) (ds:List u9),a1p ps->a0r ps<=n->J3 K ps=ξ ds->(a3G C ps).map dmC=ds:=λps=>by
   induction ps with
   |nil=>intro ds _ _ e;rw [J3] at e;cases e;rw [a3G];rfl
   |cons p ps ih=>
    ext k
    cases e2:J3 K ps with
    |none=>rw [e2] at e;cases e
    |some es=>
     rw [e2] at e;cases e;rw [a3G,AM,a4G n p d o.1 (by lia) e1,ih es o.2 (by lia) e2]
  cases m with
  |plain rows=>rw [x6] at e;cases e;rw [l9];rfl
  |named w=>
   rw [x6,hM w] at e;rw [l9];cases hc:t5 C w with
   |none=>rw [hc] at e;cases e
   |some c=>rw [hc] at e;cases e;rfl
  |beside ps=>
   ext e
   ext v
   have hl:=lst ps ds ok.2.2 (by lia) e1
   rw [l9];cases hc:a3G C ps with
   |nil=>rw [hc] at hl;subst hl;cases e
   |cons c cs=>rw [hc] at hl;subst hl;exact b2s e
  |above ps=>
   ext e
   ext v
   have hl:=lst ps ds ok.2.2 (by lia) e1
   rw [l9];cases hc:a3G C ps with
   |nil=>rw [hc] at hl;subst hl;cases e
   |cons c cs=>rw [hc] at hl;subst hl;exact b2s e
  |across k p=>
   ext e
   ext p
   have hp:=a4G n p x ok.2.2 (by lia) e1
   unfold a1E at e;rw [if_pos rfl] at e;split at e
   ·cases e;rw [l9,<-hp];rfl
   ·cases e
  |down k p=>
   ext e
   ext p
   have hp:=a4G n p x ok.2.2 (by lia) e1
   unfold a1E at e;rw [if_neg Af] at e;split at e
   ·cases e;rw [l9,<-hp];rfl
   ·cases e
  |turned w p=>
   ext e
   cases e1:x6 K p with
   |none=>rw [e1] at e;cases e
   |some x=>
    rw [e1] at e;cases e;have hp:=a4G n p x ok.2 (by lia) e1
    rw [l9,<-hp];have hs:=(b9t ok.1).2.2;unfold trC b1L hh wd dmC;rw [hs];cases a37 w<;>rfl
  |dyed a b p=>
   ext e
   rw [l9,<-a4G n p d ok.2.2 (by lia) e]
   rfl
end
theorem a89{be:Bool}:∀{ds:List u9} {x y:u9},(x.1<=24/\x.2<=24)->U4 be x ds=ξ y->y.1<=24/\y.2<=24
 |[],x,y,h,e=>by cases e;exact h
 |d::ds,x,y,h,e=>by
  rw [U4] at e;obtain⟨z,e1,e⟩:=bind_some e;refine a89 ?_ e;unfold a08 at e1;split at e1<;>split at e1<;>cases e1<;>simp only<;>lia
section
variable {K:NL u9}(hK:∀w d,t5 K w=ξ d->d.1<=24/\d.2<=24)
include hK
theorem b3h:∀(n:Nat) (m:Mo) (d:u9),v7 m->p9 m<=n->x6 K m=ξ d->d.1<=24/\d.2<=24
 |0,m,_,_,h,_=>by have:=T6 m;lia
 |n+1,m,d,ok,h,e=>by
  have lst:∀(ps:List Mo) (ds:List u9),a1p ps->a0r ps<=n->J3 K ps=ξ ds->∀d∈ds,d.1<=24/\d.2<=24:=λps=>by
   induction ps with
   |nil=>intro ds _ _ e;rw [J3] at e;cases e;intro d hd;cases hd
   |cons p ps ih=>
    ext k
    cases e2:J3 K ps with
    |none=>rw [e2] at e;cases e
    |some es=>
     rw [e2] at e;cases e;intro x hx;rcases AX.mp hx with rfl|hx
     ·exact b3h n p _ o.1 (by lia) e1
     ·exact ih es o.2 (by lia) e2 x hx
  cases m with
  |plain rows=>
   ext u
   obtain⟨v,v1,v2,v3,v4,v5⟩:=ok;rw [x6] at e;cases e;cases rows with
   |nil=>simp at v3
   |cons r rows=>have:=v5 r AU;exact⟨by simp only;lia,by show r.length<=24;lia⟩
  |named w=>rw [x6] at e;exact hK w d e
  |beside ps=>
   ext e
   ext v
   have hp:=lst ps ds ok.2.2 (by lia) e1
   cases ds with
   |nil=>cases e
   |cons x ds=>exact a89 (hp x AU) e
  |above ps=>
   ext e
   ext v
   have hp:=lst ps ds ok.2.2 (by lia) e1
   cases ds with
   |nil=>cases e
   |cons x ds=>exact a89 (hp x AU) e
  |across k p=>
   rw [x6] at e
   ext p
   unfold a1E at e;rw [if_pos rfl] at e;split at e
   ·rename_i c;cases e;exact c
   ·cases e
  |down k p=>
   rw [x6] at e
   ext p
   unfold a1E at e;rw [if_neg Af] at e;split at e
   ·rename_i c;cases e;exact c
   ·cases e
  |turned w p=>
   ext e
   cases e1:x6 K p with
   |none=>rw [e1] at e;cases e
   |some x=>
    rw [e1] at e;cases e;have hp:=b3h n p x ok.2 (by lia) e1
    unfold b1L;split
    ·exact⟨hp.2,hp.1⟩
    ·exact hp
  |dyed a b p=>
   ext e
   exact b3h n p d ok.2.2 (by lia) e
end
structure Gd(K:NL u9)(C:NL Ct):Prop where
 mt:Mt K C
 pos:∀w d,t5 K w=ξ d->b4z d
 le:∀w d,t5 K w=ξ d->d.1<=24/\d.2<=24
theorem Gd.dm{K:NL u9}{C:NL Ct}(G:Gd K C){m:Mo}{d:u9}(ok:v7 m)(e:x6 K m=ξ d):dmC (l9 C m)=d/\c5H d:=by
 have h1:=a1N G.pos _ m d ok (AQ _) e;have h2:=b3h G.le _ m d ok (AQ _) e;exact⟨a4G G.mt _ m d ok (AQ _) e,⟨h1.1,h2.1⟩,⟨h1.2,h2.2⟩⟩
abbrev cd(C:NL Ct):PV:=tv (dN clv C)
section
variable {RAb RAc RBe RDo RDy RTu RLa:RF}{K:NL u9}{C:NL Ct}(G:Gd K C)
include G
omit G in
end
theorem b4y{R:List (List Nat)}(h:okP R)(C:NL Ct): .tuple (R.map row)=clv (l9 C (.plain R)):=by
 obtain⟨v,v1,v2,v3,v4,v5⟩:=h;rw [l9];have hv:(R.headD []).length=v:=by
  cases R with
  |nil=>simp at v3
  |cons r R=>exact v5 r AU
 unfold clv;rw [hv];exact b8D ⟨rfl,v5⟩end LW
namespace LW
open L2 PU
abbrev pl4(w:PV)(c:Ct)(p:PV):PV:= .tuple [w,.int (c.n:Nat),.int (c.m:Nat),p]
mutual
def B0(C:NL Ct):Mo->PV
 | .plain rows=>pl4 (.str (AD "plain")) (l9 C (.plain rows)) (clv (l9 C (.plain rows)))
 | .named w=>pl4 (.str (AD "plain")) (l9 C (.named w)) (clv (l9 C (.named w)))
 | .beside ps=>pl4 (.str (AD "beside")) (l9 C (.beside ps)) (.list (b77 C ps))
 | .above ps=>pl4 (.str (AD "above")) (l9 C (.above ps)) (.list (b77 C ps))
 | .across k p=>pl4 (.str (AD "across")) (l9 C (.across k p)) (B0 C p)
 | .down k p=>pl4 (.str (AD "down")) (l9 C (.down k p)) (B0 C p)
 | .turned w p=>pl4 (row w) (l9 C (.turned w p)) (B0 C p)
 | .dyed a b p=> .tuple [.str (AD "dye"),.int ((l9 C (.dyed a b p)).n:Nat),.int ((l9 C (.dyed a b p)).m:Nat),B0 C p,row [a],row [b]]
def b77(C:NL Ct):List Mo->List PV
 |[]=>[]
 |p::ps=>B0 C p::b77 C ps
end
theorem a4b(C:NL Ct):∀ps:List Mo,b77 C ps=ps.map (B0 C)
 |[]=>by rw [b77];rfl
 |p::ps=>by rw [b77,a4b C ps];rfl
theorem a6w(C:NL Ct)(m:Mo):j7 (.v (B0 C m)) (.v (.int 1))=φ (.int ((l9 C m).n:Nat)):=by cases m<;>rw [B0]<;>rfl
theorem a6x(C:NL Ct)(m:Mo):j7 (.v (B0 C m)) (.v (.int 2))=φ (.int ((l9 C m).m:Nat)):=by cases m<;>rw [B0]<;>rfl
theorem b8A:∀(cs:List Ct) (x:Ct),(cs.foldl (lyC true) x).m=x.m+(cs.map (·.m)).sum/\(cs.foldl (lyC true) x).n=x.n
 |[],x=>⟨by simp,rfl⟩
 |c::cs,x=>by
  have h:=b8A cs (lyC true x c);rw [List.foldl_cons,h.1,h.2,AM,List.sum_cons];exact⟨by show x.m+c.m+_=_;lia,rfl⟩
theorem b8t:∀(cs:List Ct) (x:Ct),(cs.foldl (lyC false) x).n=x.n+(cs.map (·.n)).sum/\(cs.foldl (lyC false) x).m=x.m
 |[],x=>⟨by simp,rfl⟩
 |c::cs,x=>by
  have h:=b8t cs (lyC false x c);rw [List.foldl_cons,h.1,h.2,AM,List.sum_cons];exact⟨by show x.n+c.n+_=_;lia,rfl⟩
theorem b68:∀(l:List Nat),a1X (l.map λ(k:Nat)=>PyData.int (k:Int))=ξ (l.map λ(k:Nat)=>(k:Int))/\(l.map λ(k:Nat)=>(k:Int)).sum=((l.sum:Nat):Int)
 |[]=>⟨rfl,rfl⟩
 |a::l=>by
  obtain⟨h1,h2⟩:=b68 l;refine⟨?_,by rw [AM,List.sum_cons,List.sum_cons,h2,Int.natCast_add]⟩
  rw [AM,a1X,h1]
  rfl
theorem b69{α:Type}(l:List α)(g:α->Nat):b9d (.own (l.map λx=>PyData.int ((g x:Nat):Int)))=φ (.int (((l.map g).sum:Nat):Int)):=by
 have e:(l.map λx=>PyData.int ((g x:Nat):Int))=(l.map g).map λ(k:Nat)=>PyData.int (k:Int):=by rw [Aj];rfl
 rw [e];obtain⟨h1,h2⟩:=b68 (l.map g);show(a1X _).map _=_;rw [h1];show ξ (d5.v (.int _))=_;rw [h2]
theorem b9C{c:MT}{a b:M}{ρ:b7}(h:c ρ=ξ true):mIf c a b ρ=a ρ:=by
 unfold mIf;rw [h]
 rfl
theorem c2Q{c:MT}{a b:M}{ρ:b7}(h:c ρ=ξ false):mIf c a b ρ=b ρ:=by
 unfold mIf;rw [h]
 rfl
section
variable {R:RF}{K:NL u9}{C:NL Ct}(G:Gd K C)
include G
theorem b1y{ps:List Mo}(hp0:ps≠[])(hp:ps.length<=6)(h:∀p∈ps,R [j4 p,cd C]=φ (B0 C p)){ww w2:PV}:∃n1:PV,True/\
 P6 1 (A8 (m2 j7 (a6 0) (mC (.int 1)))) (j3 6) a0l (Z4 R) [φ (.tuple [ww,.list (ps.map j4)]),φ (cd C),φ w2,ζ,ζ,ζ]=ξ (.own (ps.map (B0 C))):=by
 refine⟨.none,trivial, ?_⟩
 exact S4 (ι:=j4) (f:=B0 C) (k:=1) (it:=A8 (m2 j7 (a6 0) (mC (.int 1)))) (tg:=j3 6) (elt:=Z4 R) (ρ:=[φ (.tuple [ww,.list (ps.map j4)]),φ (cd C),φ w2,ζ,ζ,ζ]) ps rfl (by lia) λp hp=>by
  refine⟨[φ (.tuple [ww,.list (ps.map j4)]),φ (cd C),φ w2,ζ,ζ,ζ,φ (j4 p)],rfl, ?_⟩;unfold Z4;rw [(N2 rfl rfl).trans (h p hp)]
  rfl
theorem b1z{m:Mo}{d:u9}{s0 s1 s2 s4 s5:Υ d5}(ok:v7 m)(e:x6 K m=ξ d):k7 (r9 (a4 (mC (.str (AD "plain"))) (a4 (m1 P8 (a6 3)) (a4 (m1 P8 (m2 j7 (a6 3) (mC (.int 0)))) (a4 (a6 3) b5))))) [s0,s1,s2,φ (clv (l9 C m)),s4,s5]=ξ (.rt (.v (pl4 (.str (AD "plain")) (l9 C m) (clv (l9 C m))))):=by
 obtain⟨g1,g2⟩:=G.dm ok e;rw [<-g1] at g2;refine L7 ?_;unfold r9;have hm:(l9 C m).m<=10000:=by have:=g2.2.2;unfold dmC at this;simp only at this;lia
 rw [i0 (q:= .v (.str (AD "plain"))) rfl rfl (i0 (one (r:= .v (clv (l9 C m))) rfl (c3C _ _ _)) rfl (i0 (one (K4 (r:= .v (clv (l9 C m))) rfl rfl (c3B g2.1.1)) (c3D hm)) rfl (i0 (q:= .v (clv (l9 C m))) rfl rfl rfl)))]
 rfl
theorem b79(m:Mo)(d:u9)(ok:v7 m)(e:x6 K m=ξ d)(ih:∀p d,v7 p->p9 p<p9 m->x6 K p=ξ d->R [j4 p,cd C]=φ (B0 C p)):m3 4 (a0T R) [j4 m,cd C]=φ (B0 C m):=by
 refine m4 (n:=4) ?_;show a0T R [φ (j4 m),φ (cd C),ζ,ζ,ζ,ζ]=_;unfold a0T;cases m with
 |plain rows=>
  rw [B0]
  ext u
  have pc:=b4y ok C;rw [j4,e8 (p:= .str (AD "plain")) rfl];refine K5 rfl ?_;refine(e8 (p:=clv (l9 C (.plain rows))) ?_).trans (b1z G (by rw [v7];exact ok) e)
  rw [<-pc]
  rfl
 |named w=>
  rw [B0,j4,e8 (p:= .str (AD "name")) rfl];refine K5 rfl ?_;refine(e8 (p:=clv (l9 C (.named w))) ?_).trans (b1z G ok e);rw [x6,G.mt w] at e;have tw:=a90 (i:=1) (ρ:=[φ (.tuple [.str (AD "name"),row w]),φ (cd C),φ (.str (AD "name")),ζ,ζ,ζ]) rfl (Z7 clv C);refine(b9C rfl).trans ?_;unfold a2S;show(tvw 1 [φ (.tuple [.str (AD "name"),row w]),φ (cd C),φ (.str (AD "name")),ζ,ζ,ζ]).bind _=_;rw [tw,AR,a15,l9];cases hc:t5 C w with
  |none=>rw [hc] at e;cases e
  |some c=>rfl
 |beside ps=>
  have d0:p9 (.beside ps)=1+a0r ps:=by rw [p9]
  ext u
  rw [x6] at e;obtain⟨ds,e1,_⟩:=bind_some e;rw [j4,V9,e8 (p:= .str (AD "beside")) rfl,b0 rfl];obtain⟨_,_,c1⟩:=b1y (R:=R) G (ps:=ps) (ww:= .str (AD "beside")) (w2:= .str (AD "beside")) (by intro z;rw [z] at ok;simp at ok) ok.2.1 λp hp=>by
   obtain⟨d',hd'⟩:=a3b e1 p hp;exact ih p d' (C3 ok.2.2 hp) (by have:=D3 hp;lia) hd'
  refine K5 rfl ?_;refine(P0 c1).trans ?_;refine K5 rfl ?_;have c2:=S4 (ι:=B0 C) (f:=λp=>PyData.int (((l9 C p).m:Nat):Int)) (k:=1) (it:=A8 (a6 4)) (tg:=j3 6) (elt:=a1Y R) (ρ:=[φ (.tuple [.str (AD "beside"),.list (ps.map j4)]),φ (cd C),φ (.str (AD "beside")),ζ,φ (.list (ps.map (B0 C))),ζ]) ps rfl (by lia) λp hp=>by
   refine⟨[φ (.tuple [.str (AD "beside"),.list (ps.map j4)]),φ (cd C),φ (.str (AD "beside")),ζ,φ (.list (ps.map (B0 C))),ζ,φ (B0 C p)],rfl, ?_⟩;unfold a1Y;rw [K4 (r:= .v (B0 C p)) rfl rfl (a6x C p)]
   rfl
  cases ps with
  |nil=>simp at ok
  |cons p ps=>
   show k7 _ [φ (.tuple [.str (AD "beside"),.list ((p::ps).map j4)]),φ (cd C),φ (.str (AD "beside")),ζ,φ (.list ((p::ps).map (B0 C))),ζ]=_;refine L7 ?_;have hb:=b8A (ps.map (l9 C)) (l9 C p);rw [B0,a4b];have hct:l9 C (.beside (p::ps))=(ps.map (l9 C)).foldl (lyC true) (l9 C p):=by rw [l9,a3H];rfl
   unfold r9;rw [i0 (q:= .v (.str (AD "beside"))) rfl rfl (i0 (K4 (K4 (r:= .v (.list ((p::ps).map (B0 C)))) (q:= .v (.int 0)) rfl rfl (at0 (.inl rfl))) rfl (a6w C p)) rfl (i0 (one c2 (b69 (p::ps) λp=>(l9 C p).m)) rfl (i0 (q:= .v (.list ((p::ps).map (B0 C)))) rfl rfl rfl)))];unfold pl4;rw [hct,hb.1,hb.2,Aj]
   rfl
 |above ps=>
  have d0:p9 (.above ps)=1+a0r ps:=by rw [p9]
  ext u
  rw [x6] at e;obtain⟨ds,e1,_⟩:=bind_some e;rw [j4,V9,e8 (p:= .str (AD "above")) rfl,b0 rfl];obtain⟨_,_,c1⟩:=b1y (R:=R) G (ps:=ps) (ww:= .str (AD "above")) (w2:= .str (AD "above")) (by intro z;rw [z] at ok;simp at ok) ok.2.1 λp hp=>by
   obtain⟨d',hd'⟩:=a3b e1 p hp;exact ih p d' (C3 ok.2.2 hp) (by have:=D3 hp;lia) hd'
  refine K5 rfl ?_;refine(P0 c1).trans ?_
  ext z
  have c2:=S4 (ι:=B0 C) (f:=λp=>PyData.int (((l9 C p).n:Nat):Int)) (k:=1) (it:=A8 (a6 4)) (tg:=j3 6) (elt:=a1Z R) (ρ:=[φ (.tuple [.str (AD "above"),.list (ps.map j4)]),φ (cd C),φ (.str (AD "above")),ζ,φ (.list (ps.map (B0 C))),ζ]) ps rfl (by lia) λp hp=>by
   refine⟨[φ (.tuple [.str (AD "above"),.list (ps.map j4)]),φ (cd C),φ (.str (AD "above")),ζ,φ (.list (ps.map (B0 C))),ζ,φ (B0 C p)],rfl, ?_⟩;unfold a1Z;rw [K4 (r:= .v (B0 C p)) rfl rfl (a6w C p)]
   rfl
  cases ps with
  |nil=>simp at ok
  |cons p ps=>
   show k7 _ [φ (.tuple [.str (AD "above"),.list ((p::ps).map j4)]),φ (cd C),φ (.str (AD "above")),ζ,φ (.list ((p::ps).map (B0 C))),ζ]=_;refine L7 ?_;have hb:=b8t (ps.map (l9 C)) (l9 C p);rw [B0,a4b];have hct:l9 C (.above (p::ps))=(ps.map (l9 C)).foldl (lyC false) (l9 C p):=by rw [l9,a3H];rfl
   unfold r9;rw [i0 (q:= .v (.str (AD "above"))) rfl rfl (i0 (one c2 (b69 (p::ps) λp=>(l9 C p).n)) rfl (i0 (K4 (K4 (r:= .v (.list ((p::ps).map (B0 C)))) (q:= .v (.int 0)) rfl rfl (at0 (.inl rfl))) rfl (a6x C p)) rfl (i0 (q:= .v (.list ((p::ps).map (B0 C)))) rfl rfl rfl)))];unfold pl4;rw [hct,hb.1,hb.2,Aj]
   rfl
 |across k p=>
  ext u
  rw [x6] at e;obtain⟨x,e1,_⟩:=bind_some e;have ep:=ih p x ok.2.2 (by rw [p9];lia) e1
  rw [j4,e8 (p:= .str (AD "across")) rfl,b0 rfl,b0 rfl,e8 ((N2 rfl rfl).trans ep)];refine j8 rfl ?_;rw [B0];unfold r9 pl4;rw [i0 (q:= .v (.str (AD "across"))) rfl rfl (i0 (K4 (r:= .v (B0 C p)) rfl rfl (a6w C p)) rfl (i0 (mlv (k:=(k:Nat)) (K4 (r:= .v (B0 C p)) rfl rfl (a6x C p)) rfl (by lia)) rfl (i0 (q:= .v (B0 C p)) rfl rfl rfl))),l9,Int.natCast_mul]
  rfl
 |down k p=>
  ext u
  rw [x6] at e;obtain⟨x,e1,_⟩:=bind_some e;have ep:=ih p x ok.2.2 (by rw [p9];lia) e1
  rw [j4,e8 (p:= .str (AD "down")) rfl,b0 rfl,b0 rfl,e8 ((N2 rfl rfl).trans ep),b0 rfl];refine j8 rfl ?_;rw [B0];unfold r9 pl4;rw [i0 (q:= .v (.str (AD "down"))) rfl rfl (i0 (mlv (k:=(k:Nat)) (K4 (r:= .v (B0 C p)) rfl rfl (a6w C p)) rfl (by lia)) rfl (i0 (K4 (r:= .v (B0 C p)) rfl rfl (a6x C p)) rfl (i0 (q:= .v (B0 C p)) rfl rfl rfl))),l9,Int.natCast_mul]
  rfl
 |turned w p=>
  ext u
  rw [x6] at e;cases e1:x6 K p with
  |none=>rw [e1] at e;cases e
  |some x=>
   have ep:=ih p x ok.2 (by rw [p9];lia) e1
   rw [j4,e8 (p:= .str (AD "turned")) rfl,b0 rfl,b0 rfl,e8 ((N2 rfl rfl).trans ep),b0 rfl,b0 rfl,b0 rfl];have t2:u5 (m2 (b0n false) (m2 j7 (a6 0) (mC (.int 1))) (L5 (a4 (mC (.str (AD "turn"))) (a4 (mC (.str (AD "back"))) (a4 (mC (.str (AD "cross"))) (a4 (mC (.str (AD "other"))) b5)))))) [φ (.tuple [.str (AD "turned"),row w,j4 p]),φ (cd C),φ (.str (AD "turned")),ζ,ζ,φ (B0 C p)]=ξ (a37 w):=J5 (r:= .v (row w)) rfl (q:= .own [.str (AD "turn"),.str (AD "back"),.str (AD "cross"),.str (AD "other")]) rfl (b7f ok.1);rw [B0,l9];have hs:=(b9t ok.1).2.2;unfold pl4 trC hh wd;rw [hs];cases hv:a37 w with
   |true=>
    rw [hv] at t2;refine j8 t2 ?_;unfold r9;rw [i0 (q:= .v (row w)) rfl rfl (i0 (K4 (r:= .v (B0 C p)) rfl rfl (a6x C p)) rfl (i0 (K4 (r:= .v (B0 C p)) rfl rfl (a6w C p)) rfl (i0 (q:= .v (B0 C p)) rfl rfl rfl)))]
    rfl
   |false=>
    rw [hv] at t2;refine(b0 t2).trans (L7 ?_);unfold r9;rw [i0 (q:= .v (row w)) rfl rfl (i0 (K4 (r:= .v (B0 C p)) rfl rfl (a6w C p)) rfl (i0 (K4 (r:= .v (B0 C p)) rfl rfl (a6x C p)) rfl (i0 (q:= .v (B0 C p)) rfl rfl rfl)))]
    rfl
 |dyed a b p=>
  ext u
  rw [x6] at e;have ep:=ih p d ok.2.2 (by rw [p9];lia) e
  rw [j4,e8 (p:= .str (AD "dye")) rfl,b0 rfl,b0 rfl,e8 ((N2 rfl rfl).trans ep),b0 rfl,b0 rfl];refine j8 rfl ?_;rw [B0,l9];unfold r9;rw [i0 (q:= .v (.str (AD "dye"))) rfl rfl (i0 (K4 (r:= .v (B0 C p)) rfl rfl (a6w C p)) rfl (i0 (K4 (r:= .v (B0 C p)) rfl rfl (a6x C p)) rfl (i0 (q:= .v (B0 C p)) rfl rfl (i0 (q:= .v (row [a])) rfl rfl (i0 (q:= .v (row [b])) rfl rfl rfl)))))]
  rfl
end
theorem b6S{K:NL u9}{C:NL Ct}(G:Gd K C):∀(n:Nat) (m:Mo) (d:u9),v7 m->p9 m<=n->x6 K m=ξ d->a3Z n [j4 m,cd C]=φ (B0 C m)
 |0,m,_,_,h,_=>by have:=T6 m;lia
 |n+1,m,d,ok,h,e=>b79 G m d ok e λp d' okp hp e'=>b6S G n p d' okp (by lia) e'
def wkB:List Ct->Nat->Nat->Nat
 |[],_,_=>0
 |x::xs,r,c=>if c<x.m then x.f r c else wkB xs r (c - x.m)
def wkA:List Ct->Nat->Nat->Nat
 |[],_,_=>0
 |x::xs,r,c=>if r<x.n then x.f r c else wkA xs (r - x.n) c
theorem c0N(r:Nat):∀(cs:List Ct) (x:Ct) (c:Nat),c<x.m+(cs.map (·.m)).sum->(cs.foldl (lyC true) x).f r c=wkB (x::cs) r c
 |[],x,c,h=>by
  rw [wkB,if_pos (by simpa using h)]
  rfl
 |y::cs,x,c,h=>by
  rw [AM,List.sum_cons] at h;rw [List.foldl_cons,c0N r cs (lyC true x y) c (by show c<x.m+y.m+_;lia),wkB,wkB,wkB]
  show(if c<x.m+y.m then(if c<x.m then x.f r c else y.f r (c - x.m)) else wkB cs r (c - (x.m+y.m)))=_
  by_cases h1:c<x.m
  ·rw [if_pos (by lia),if_pos h1,if_pos h1]
  ·rw [if_neg h1,if_neg h1]
   by_cases h2:c<x.m+y.m
   ·rw [if_pos h2,if_pos (by lia)]
   ·rw [if_neg h2,if_neg (by lia),Nat.sub_sub]
theorem c0M(c:Nat):∀(cs:List Ct) (x:Ct) (r:Nat),r<x.n+(cs.map (·.n)).sum->(cs.foldl (lyC false) x).f r c=wkA (x::cs) r c
 |[],x,r,h=>by
  rw [wkA,if_pos (by simpa using h)]
  rfl
 |y::cs,x,r,h=>by
  rw [AM,List.sum_cons] at h;rw [List.foldl_cons,c0M c cs (lyC false x y) r (by show r<x.n+y.n+_;lia),wkA,wkA,wkA]
  show(if r<x.n+y.n then(if r<x.n then x.f r c else y.f (r - x.n) c) else wkA cs (r - (x.n+y.n)) c)=_
  by_cases h1:r<x.n
  ·rw [if_pos (by lia),if_pos h1,if_pos h1]
  ·rw [if_neg h1,if_neg h1]
   by_cases h2:r<x.n+y.n
   ·rw [if_pos h2,if_pos (by lia)]
   ·rw [if_neg h2,if_neg (by lia),Nat.sub_sub]
section
variable {RS RW:RF}{C:NL Ct}
theorem b2w{x y:M}{ρ:b7}{a b:Nat}(h1:x ρ=φ (.int (a:Nat)))(h2:y ρ=φ (.int (b:Nat))):u5 (m2 a6j x y) ρ=ξ (decide (a<b)):=by
 refine(J5 h1 h2 (b:=decide ((a:Int)<(b:Int))) rfl).trans ?_
 congr 1
 exact decide_eq_decide.mpr (by lia)
theorem b8w{a b:MT}{ρ:b7}{x y:Bool}(h1:a ρ=ξ x)(h2:b ρ=ξ y):P7 a b ρ=ξ (x && y):=by
 unfold P7;rw [h1];cases x
 ·rfl
 ·exact h2
theorem b67{x y:M}{ρ:b7}{a b:Nat}(h1:x ρ=φ (.int (a:Nat)))(h2:y ρ=φ (.int (b:Nat)))(h:b<=a):m2 (gI λi j=> .int (i - j)) x y ρ=φ (.int ((a - b:Nat):Int)):=by
 refine K4 h1 h2 ?_;show ξ (d5.v (.int ((a:Int) - (b:Int))))=_
 congr 3
 lia
theorem b1Q{c0:Ct}{L:PV}{r:Nat}:∀(ps:List Mo) (c:Nat) (q3:Υ d5),(∀p∈ps,r<(l9 C p).n)->(∀p∈ps,∀c,c<(l9 C p).m->RS [B0 C p,.int (r:Nat),.int (c:Nat)]=φ (row [(l9 C p).f r c]))->c<((ps.map (l9 C)).map (·.m)).sum->
 y0 (r0 RS RW) (j3 3) (ps.map (B0 C)) [φ (pl4 (.str (AD "beside")) c0 L),φ (.int (r:Nat)),φ (.int (c:Nat)),q3]=ξ (.rt (.v (row [wkB (ps.map (l9 C)) r c])))
 |[],c,q3,_,_,h=>by simp at h
 |p::ps,c,q3,hr,ih,h=>by
  have hr1:=hr p AU;rw [AM,AM,List.sum_cons] at h;rw [AM,AM,wkB,y0];show(r0 RS RW [φ (pl4 (.str (AD "beside")) c0 L),φ (.int (r:Nat)),φ (.int (c:Nat)),φ (B0 C p)]).bind _=_;have t:=b8w (b2w (x:=a6 1) (y:=m2 j7 (a6 3) (mC (.int 1))) (ρ:=[φ (pl4 (.str (AD "beside")) c0 L),φ (.int (r:Nat)),φ (.int (c:Nat)),φ (B0 C p)]) rfl (K4 (r:= .v (B0 C p)) rfl rfl (a6w C p))) (b2w (x:=a6 2) (y:=m2 j7 (a6 3) (mC (.int 2))) rfl (K4 (r:= .v (B0 C p)) rfl rfl (a6x C p)));rw [decide_eq_true hr1,Bool.true_and] at t
  by_cases hc:c<(l9 C p).m
  ·rw [decide_eq_true hc] at t;have e:r0 RS RW [φ (pl4 (.str (AD "beside")) c0 L),φ (.int (r:Nat)),φ (.int (c:Nat)),φ (B0 C p)]=ξ (.rt (.v (row [(l9 C p).f r c]))):=by
    unfold r0;exact j8 t ((P5 rfl).trans (ih p AU c hc))
   rw [e,if_pos hc]
   rfl
  ·rw [decide_eq_false hc] at t;have e:r0 RS RW [φ (pl4 (.str (AD "beside")) c0 L),φ (.int (r:Nat)),φ (.int (c:Nat)),φ (B0 C p)]=ξ (.nx [φ (pl4 (.str (AD "beside")) c0 L),φ (.int (r:Nat)),φ (.int ((c - (l9 C p).m:Nat):Int)),φ (B0 C p)]):=by
    unfold r0;refine(b0 t).trans ((a3j rfl).trans ?_);exact a1R (b67 rfl (K4 (r:= .v (B0 C p)) rfl rfl (a6x C p)) (by lia))
   rw [e,AR,if_neg hc];exact b1Q ps _ _ (λq hq=>hr q (Ab _ hq)) (λq hq=>ih q (Ab _ hq)) (by lia)
theorem b1P{c0:Ct}{L:PV}{c:Nat}:∀(ps:List Mo) (r:Nat) (q3:Υ d5),(∀p∈ps,c<(l9 C p).m)->(∀p∈ps,∀r,r<(l9 C p).n->RS [B0 C p,.int (r:Nat),.int (c:Nat)]=φ (row [(l9 C p).f r c]))->r<((ps.map (l9 C)).map (·.n)).sum->
 y0 (r0 RS RW) (j3 3) (ps.map (B0 C)) [φ (pl4 (.str (AD "above")) c0 L),φ (.int (r:Nat)),φ (.int (c:Nat)),q3]=ξ (.rt (.v (row [wkA (ps.map (l9 C)) r c])))
 |[],r,q3,_,_,h=>by simp at h
 |p::ps,r,q3,hr,ih,h=>by
  have hr1:=hr p AU;rw [AM,AM,List.sum_cons] at h;rw [AM,AM,wkA,y0];show(r0 RS RW [φ (pl4 (.str (AD "above")) c0 L),φ (.int (r:Nat)),φ (.int (c:Nat)),φ (B0 C p)]).bind _=_;have t:=b8w (b2w (x:=a6 1) (y:=m2 j7 (a6 3) (mC (.int 1))) (ρ:=[φ (pl4 (.str (AD "above")) c0 L),φ (.int (r:Nat)),φ (.int (c:Nat)),φ (B0 C p)]) rfl (K4 (r:= .v (B0 C p)) rfl rfl (a6w C p))) (b2w (x:=a6 2) (y:=m2 j7 (a6 3) (mC (.int 2))) rfl (K4 (r:= .v (B0 C p)) rfl rfl (a6x C p)));rw [decide_eq_true hr1,Bool.and_true] at t
  by_cases hc:r<(l9 C p).n
  ·rw [decide_eq_true hc] at t;have e:r0 RS RW [φ (pl4 (.str (AD "above")) c0 L),φ (.int (r:Nat)),φ (.int (c:Nat)),φ (B0 C p)]=ξ (.rt (.v (row [(l9 C p).f r c]))):=by
    unfold r0;exact j8 t ((P5 rfl).trans (ih p AU r hc))
   rw [e,if_pos hc]
   rfl
  ·rw [decide_eq_false hc] at t;have e:r0 RS RW [φ (pl4 (.str (AD "above")) c0 L),φ (.int (r:Nat)),φ (.int (c:Nat)),φ (B0 C p)]=ξ (.nx [φ (pl4 (.str (AD "above")) c0 L),φ (.int ((r - (l9 C p).n:Nat):Int)),φ (.int (c:Nat)),φ (B0 C p)]):=by
    unfold r0;refine(b0 t).trans ((a9i rfl).trans ?_);exact a1R (b67 rfl (K4 (r:= .v (B0 C p)) rfl rfl (a6w C p)) (by lia))
   rw [e,AR,if_neg hc];exact b1P ps _ _ (λq hq=>hr q (Ab _ hq)) (λq hq=>ih q (Ab _ hq)) (by lia)
end
theorem c1c{C:NL Ct}{p:Mo}{w:List Nat}(hw:w∈W2){r c:Nat}(hr:r<(trC w (l9 C p)).n)(hc:c<(trC w (l9 C p)).m):∃a b:Nat,a<(l9 C p).n/\b<(l9 C p).m/\a5B [row w,B0 C p,.int (r:Nat),.int (c:Nat)]=φ (.tuple [.int (a:Nat),.int (b:Nat)])/\(l9 C p).f a b=(trC w (l9 C p)).f r c:=by
 have h2:w=[116,117,114,110]\/w=[104,97,108,102]\/w=[98,97,99,107]\/w=[115,105,100,101]\/w=[102,108,105,112]\/w=[99,114,111,115,115]\/w=[111,116,104,101,114]:=by
  simpa [W2] using hw
 have p1:=a6w C p;have p2:=a6x C p;generalize l9 C p=x at*;generalize B0 C p=P at*;have e4:∀w:PV,m2 (gI λi j=> .int (i - j)) (m2 j7 (a6 1) (mC (.int 1))) (mC (.int 1)) [φ w,φ P,φ (.int (r:Nat)),φ (.int (c:Nat)),ζ,ζ]=φ (.int (((x.n:Nat):Int) - 1)):=λw=>K4 (K4 (r:= .v P) rfl rfl p1) rfl rfl;have e5:∀w:PV,m2 (gI λi j=> .int (i - j)) (m2 j7 (a6 1) (mC (.int 2))) (mC (.int 1)) [φ w,φ P,φ (.int (r:Nat)),φ (.int (c:Nat)),φ (.int (((x.n:Nat):Int) - 1)),ζ]=φ (.int (((x.m:Nat):Int) - 1)):=λw=>K4 (K4 (r:= .v P) rfl rfl p2) rfl rfl;unfold trC at hr hc ⊢;rcases h2 with rfl|rfl|rfl|rfl|rfl|rfl|rfl
 ·have hk:kw [116,117,114,110]=1:=by decide+kernel
  ext ai
  refine⟨x.n - 1 - c,r,by lia,by lia, ?_,rfl⟩
  rw [show(((x.n - 1 - c):Nat):Int)=(((x.n:Nat):Int) - 1) - (c:Nat) by lia,show(((r):Nat):Int)=((r:Nat):Int) by lia]
  refine m4 (n:=2) ?_;show A1 [φ (row [116,117,114,110]),φ P,φ (.int (r:Nat)),φ (.int (c:Nat)),ζ,ζ]=_;unfold A1;refine(e8 (e4 _)).trans ?_;refine(e8 (e5 _)).trans ?_;exact j8 rfl rfl
 ·have hk:kw [104,97,108,102]=2:=by decide+kernel
  rw [hk] at hr hc ⊢;have hr:r<x.n:=hr;have hc:c<x.m:=hc;refine⟨x.n - 1 - r,x.m - 1 - c,by lia,by lia, ?_,rfl⟩
  rw [show(((x.n - 1 - r):Nat):Int)=(((x.n:Nat):Int) - 1) - (r:Nat) by lia,show(((x.m - 1 - c):Nat):Int)=(((x.m:Nat):Int) - 1) - (c:Nat) by lia]
  refine m4 (n:=2) ?_;show A1 [φ (row [104,97,108,102]),φ P,φ (.int (r:Nat)),φ (.int (c:Nat)),ζ,ζ]=_;unfold A1;refine(e8 (e4 _)).trans ?_;refine(e8 (e5 _)).trans ?_
  ext z
  exact j8 rfl rfl
 ·have hk:kw [98,97,99,107]=3:=by decide+kernel
  ext ai
  refine⟨c,x.m - 1 - r,by lia,by lia, ?_,rfl⟩
  rw [show(((c):Nat):Int)=((c:Nat):Int) by lia,show(((x.m - 1 - r):Nat):Int)=(((x.m:Nat):Int) - 1) - (r:Nat) by lia]
  refine m4 (n:=2) ?_;show A1 [φ (row [98,97,99,107]),φ P,φ (.int (r:Nat)),φ (.int (c:Nat)),ζ,ζ]=_
  ext i
  exact j8 rfl rfl
 ·have hk:kw [115,105,100,101]=4:=by decide+kernel
  rw [hk] at hr hc ⊢;have hr:r<x.n:=hr;have hc:c<x.m:=hc;refine⟨r,x.m - 1 - c,by lia,by lia, ?_,rfl⟩
  rw [show(((r):Nat):Int)=((r:Nat):Int) by lia,show(((x.m - 1 - c):Nat):Int)=(((x.m:Nat):Int) - 1) - (c:Nat) by lia]
  refine m4 (n:=2) ?_;show A1 [φ (row [115,105,100,101]),φ P,φ (.int (r:Nat)),φ (.int (c:Nat)),ζ,ζ]=_
  ext i
  ext z
  exact j8 rfl rfl
 ·have hk:kw [102,108,105,112]=5:=by decide+kernel
  rw [hk] at hr hc ⊢;have hr:r<x.n:=hr;have hc:c<x.m:=hc;refine⟨x.n - 1 - r,c,by lia,by lia, ?_,rfl⟩
  rw [show(((x.n - 1 - r):Nat):Int)=(((x.n:Nat):Int) - 1) - (r:Nat) by lia,show(((c):Nat):Int)=((c:Nat):Int) by lia]
  refine m4 (n:=2) ?_;show A1 [φ (row [102,108,105,112]),φ P,φ (.int (r:Nat)),φ (.int (c:Nat)),ζ,ζ]=_
  ext i
  ext z
  ext z
  exact j8 rfl rfl
 ·have hk:kw [99,114,111,115,115]=6:=by decide+kernel
  ext ai
  refine⟨c,r,by lia,by lia, ?_,rfl⟩
  rw [show(((c):Nat):Int)=((c:Nat):Int) by lia,show(((r):Nat):Int)=((r:Nat):Int) by lia]
  refine m4 (n:=2) ?_;show A1 [φ (row [99,114,111,115,115]),φ P,φ (.int (r:Nat)),φ (.int (c:Nat)),ζ,ζ]=_
  ext i
  ext z
  ext z
  ext z
  exact j8 rfl rfl
 ·have hk:kw [111,116,104,101,114]=7:=by decide+kernel
  ext ai
  refine⟨x.n - 1 - c,x.m - 1 - r,by lia,by lia, ?_,rfl⟩
  rw [show(((x.n - 1 - c):Nat):Int)=(((x.n:Nat):Int) - 1) - (c:Nat) by lia,show(((x.m - 1 - r):Nat):Int)=(((x.m:Nat):Int) - 1) - (r:Nat) by lia]
  refine m4 (n:=2) ?_;show A1 [φ (row [111,116,104,101,114]),φ P,φ (.int (r:Nat)),φ (.int (c:Nat)),ζ,ζ]=_
  ext i
  ext z
  ext z
  ext z
  ext z
  rfl
theorem c3U{x y:u9}:∀{ds:List u9},U4 true x ds=ξ y->∀d∈ds,d.1=x.1:=λ {ds}=>by
 induction ds generalizing x with
 |nil=>intro _ d hd;cases hd
 |cons c ds ih=>
  intro h d hd;rw [U4] at h;obtain⟨z,h1,h⟩:=bind_some h;unfold a08 at h1;rw [if_pos rfl] at h1;split at h1
  ·rename_i k;cases h1;rcases AX.mp hd with rfl|hd
   ·exact k.1
   ·exact ih h d hd
  ·cases h1
theorem c3T{x y:u9}:∀{ds:List u9},U4 false x ds=ξ y->∀d∈ds,d.2=x.2:=λ {ds}=>by
 induction ds generalizing x with
 |nil=>intro _ d hd;cases hd
 |cons c ds ih=>
  intro h d hd;rw [U4] at h;obtain⟨z,h1,h⟩:=bind_some h;unfold a08 at h1;rw [if_neg Af] at h1;split at h1
  ·rename_i k;cases h1;rcases AX.mp hd with rfl|hd
   ·exact k.1
   ·exact ih h d hd
  ·cases h1
theorem a9X{K:NL u9}:∀{ps:List Mo} {ds:List u9},J3 K ps=ξ ds->∀p∈ps,∃d∈ds,x6 K p=ξ d
 |[],_,_,p,hp=>nomatch hp
 |q::ps,ds,h,p,hp=>by
  rw [J3] at h;obtain⟨d,e1,h⟩:=bind_some h;cases e2:J3 K ps with
  |none=>rw [e2] at h;cases h
  |some es=>
   rw [e2] at h;cases h;rcases AX.mp hp with rfl|hp
   ·exact⟨d,AU,e1⟩
   ·obtain⟨d',h1,h2⟩:=a9X e2 p hp;exact⟨d',Ab _ h1,h2⟩
theorem c4E{K:NL u9}{C:NL Ct}(G:Gd K C){p:Mo}{ps:List Mo}{d:u9}(ok:v7 (.beside (p::ps)))(e:x6 K (.beside (p::ps))=ξ d):∀q∈p::ps,(l9 C q).n=(l9 C p).n:=λq hq=>by
 rw [v7,a1p] at ok;rw [x6,J3] at e
 ext v
 obtain⟨x,e2,e1⟩:=bind_some e1;cases e3:J3 K ps with
 |none=>rw [e3] at e1;cases e1
 |some es=>
  rw [e3] at e1;cases e1;have g1:=(G.dm ok.2.2.1 e2).1;rcases AX.mp hq with rfl|hq
  ·rfl
  ·obtain⟨y,hy,e4⟩:=a9X e3 q hq;have g2:=(G.dm (C3 ok.2.2.2 hq) e4).1;have:=c3U e y hy;rw [<-g1,<-g2] at this;exact this
theorem c4D{K:NL u9}{C:NL Ct}(G:Gd K C){p:Mo}{ps:List Mo}{d:u9}(ok:v7 (.above (p::ps)))(e:x6 K (.above (p::ps))=ξ d):∀q∈p::ps,(l9 C q).m=(l9 C p).m:=λq hq=>by
 rw [v7,a1p] at ok;rw [x6,J3] at e
 ext v
 obtain⟨x,e2,e1⟩:=bind_some e1;cases e3:J3 K ps with
 |none=>rw [e3] at e1;cases e1
 |some es=>
  rw [e3] at e1;cases e1;have g1:=(G.dm ok.2.2.1 e2).1;rcases AX.mp hq with rfl|hq
  ·rfl
  ·obtain⟨y,hy,e4⟩:=a9X e3 q hq;have g2:=(G.dm (C3 ok.2.2.2 hq) e4).1;have:=c3T e y hy;rw [<-g1,<-g2] at this;exact this
theorem b59{w:List Nat}(hw:w∈W2)(x:Ct)(P:PV){ρ ρ':b7}:u5 (m2 D4 (m2 j7 (a6 0) (mC (.int 0))) (mC (.str (AD "plain")))) (φ (pl4 (row w) x P)::ρ)=ξ false/\a0m (u5 (m2 D4 (m2 j7 (a6 0) (mC (.int 0))) (mC (.str (AD "beside"))))) (u5 (m2 D4 (m2 j7 (a6 0) (mC (.int 0))) (mC (.str (AD "above"))))) (φ (pl4 (row w) x P)::ρ)=ξ false/\a0m (u5 (m2 D4 (m2 j7 (a6 0) (mC (.int 0))) (mC (.str (AD "across"))))) (u5 (m2 D4 (m2 j7 (a6 0) (mC (.int 0))) (mC (.str (AD "down"))))) (φ (pl4 (row w) x P)::ρ')=ξ false/\u5 (m2 D4 (m2 j7 (a6 0) (mC (.int 0))) (mC (.str (AD "dye")))) (φ (pl4 (row w) x P)::ρ')=ξ false:=by
 have h2:w=[116,117,114,110]\/w=[104,97,108,102]\/w=[98,97,99,107]\/w=[115,105,100,101]\/w=[102,108,105,112]\/w=[99,114,111,115,115]\/w=[111,116,104,101,114]:=by
  simpa [W2] using hw
 rcases h2 with rfl|rfl|rfl|rfl|rfl|rfl|rfl<;>exact⟨rfl,rfl,rfl,rfl⟩
theorem c2j{K:NL u9}{C:NL Ct}(G:Gd K C):∀(n:Nat) (m:Mo) (d:u9),v7 m->2*p9 m<=n->x6 K m=ξ d->∀r c:Nat,r<(l9 C m).n->c<(l9 C m).m->C9 n [B0 C m,.int (r:Nat),.int (c:Nat)]=φ (row [(l9 C m).f r c]):=by
 intro n
 induction n using Nat.strongRecOn with
 |ind n ih=>
  intro m d ok hd e r c hr hc;have hp:=T6 m;obtain⟨n,rfl⟩:∃k,n=k+2:=⟨n - 2,by lia⟩
  have ge:∀q:PV,C9 (n+2) [q,.int (r:Nat),.int (c:Nat)]=m3 3 (w4 (C9 (n+1)) (G1 (n+1))) [q,.int (r:Nat),.int (c:Nat)]:=λ_=>rfl;obtain⟨g1,g2⟩:=G.dm ok e;rw [<-g1] at g2;have leaf:∀x:Ct,x=l9 C m->m3 3 (w4 (C9 (n+1)) (G1 (n+1))) [pl4 (.str (AD "plain")) x (clv x),.int (r:Nat),.int (c:Nat)]=φ (row [x.f r c]):=λx hx=>by
   subst hx;refine m4 (n:=3) ?_;show w4 _ _ [φ (pl4 (.str (AD "plain")) (l9 C m) (clv (l9 C m))),φ (.int (r:Nat)),φ (.int (c:Nat)),ζ,ζ,ζ]=_;unfold w4;refine j8 rfl (K4 (K4 (r:= .v (clv (l9 C m))) rfl rfl (c2I hr)) rfl (c49 ?_ hc));have:=g2.2.2;unfold dmC at this;simp only at this
   lia
  rw [ge];cases m with
  |plain R=>rw [B0];exact leaf _ rfl
  |named w=>rw [B0];exact leaf _ rfl
  |beside ps=>
   have oks:=ok
   ext f
   obtain⟨ds,e1,e2⟩:=bind_some e;rw [B0,a4b];refine m4 (n:=3) ?_;show w4 _ _ [φ (pl4 (.str (AD "beside")) (l9 C (.beside ps)) (.list (ps.map (B0 C)))),φ (.int (r:Nat)),φ (.int (c:Nat)),ζ,ζ,ζ]=_;unfold w4;refine(b0 rfl).trans (j8 rfl ((P5 rfl).trans ?_));cases ps with
   |nil=>simp at ok
   |cons p ps=>
    have hct:l9 C (.beside (p::ps))=(ps.map (l9 C)).foldl (lyC true) (l9 C p):=by rw [l9,a3H];rfl
    have hb:=b8A (ps.map (l9 C)) (l9 C p);rw [hct] at hr hc ⊢;rw [hb.1] at hc;rw [hb.2] at hr;rw [c0N r _ _ c hc];have hn:∀q∈p::ps,(l9 C q).n=(l9 C p).n:=c4E G oks (by rw [x6];exact e)
    have ew:=b1Q (RS:=C9 n) (RW:=G1 n) (C:=C) (c0:=(ps.map (l9 C)).foldl (lyC true) (l9 C p)) (L:= .list ((p::ps).map (B0 C))) (r:=r) (p::ps) c ζ (λq hq=>by rw [hn q hq];exact hr) (λq hq c' hc'=>by
     obtain⟨dq,hdq⟩:=a3b e1 q hq;exact ih n (by lia) q dq (C3 ok.2.2 hq) (by have:=D3 hq;lia) hdq r c' (by rw [hn q hq];exact hr) hc') (by rw [AM,AM,List.sum_cons];exact hc)
    show m3 1 (O2 (C9 n) (G1 n)) _=_;refine m4 (n:=1) ?_;unfold O2;exact b2k (ps:=(p::ps).map (B0 C)) rfl ew
  |above ps=>
   have oks:=ok
   ext f
   obtain⟨ds,e1,e2⟩:=bind_some e;rw [B0,a4b];refine m4 (n:=3) ?_;show w4 _ _ [φ (pl4 (.str (AD "above")) (l9 C (.above ps)) (.list (ps.map (B0 C)))),φ (.int (r:Nat)),φ (.int (c:Nat)),ζ,ζ,ζ]=_;unfold w4;refine(b0 rfl).trans (j8 rfl ((P5 rfl).trans ?_));cases ps with
   |nil=>simp at ok
   |cons p ps=>
    have hct:l9 C (.above (p::ps))=(ps.map (l9 C)).foldl (lyC false) (l9 C p):=by rw [l9,a3H];rfl
    have hb:=b8t (ps.map (l9 C)) (l9 C p);rw [hct] at hr hc ⊢;rw [hb.1] at hr;rw [hb.2] at hc;rw [c0M c _ _ r hr];have hn:∀q∈p::ps,(l9 C q).m=(l9 C p).m:=c4D G oks (by rw [x6];exact e)
    have ew:=b1P (RS:=C9 n) (RW:=G1 n) (C:=C) (c0:=(ps.map (l9 C)).foldl (lyC false) (l9 C p)) (L:= .list ((p::ps).map (B0 C))) (c:=c) (p::ps) r ζ (λq hq=>by rw [hn q hq];exact hc) (λq hq r' hr'=>by
     obtain⟨dq,hdq⟩:=a3b e1 q hq;exact ih n (by lia) q dq (C3 ok.2.2 hq) (by have:=D3 hq;lia) hdq r' c hr' (by rw [hn q hq];exact hc)) (by rw [AM,AM,List.sum_cons];exact hr)
    show m3 1 (O2 (C9 n) (G1 n)) _=_;refine m4 (n:=1) ?_;unfold O2;exact b2k (ps:=(p::ps).map (B0 C)) rfl ew
  |across k p=>
   ext f
   obtain⟨x,e1,_⟩:=bind_some e;obtain⟨f1,f2⟩:=G.dm ok.2.2 e1;rw [<-f1] at f2;rw [B0];have hct:l9 C (.across k p)=⟨(l9 C p).n,(l9 C p).m*k,λi j=>(l9 C p).f i (j %(l9 C p).m)⟩:=by rw [l9]
   rw [hct] at hr hc ⊢;have hr:r<(l9 C p).n:=hr
   ext ab
   refine m4 (n:=3) ?_;show w4 _ _ [φ (pl4 (.str (AD "across")) ⟨(l9 C p).n,(l9 C p).m*k,λi j=>(l9 C p).f i (j %(l9 C p).m)⟩ (B0 C p)),φ (.int (r:Nat)),φ (.int (c:Nat)),ζ,ζ,ζ]=_;unfold w4;refine(b0 rfl).trans ((b0 rfl).trans ((e8 (p:=B0 C p) rfl).trans (j8 rfl ?_)));rw [P5 (i0 (q:= .v (B0 C p)) rfl rfl (i0 (md (x:=(r:Nat)) rfl (K4 (r:= .v (B0 C p)) rfl rfl (a6w C p)) (by lia)) (p:= .int ((r %(l9 C p).n:Nat):Int)) (by rw [Int.natCast_emod];rfl) (i0 (md (x:=(c:Nat)) rfl (K4 (r:= .v (B0 C p)) rfl rfl (a6x C p)) (by lia)) (p:= .int ((c %(l9 C p).m:Nat):Int)) (by rw [Int.natCast_emod];rfl) rfl))),eq,Nat.mod_eq_of_lt hr]
  |down k p=>
   ext f
   obtain⟨x,e1,_⟩:=bind_some e;obtain⟨f1,f2⟩:=G.dm ok.2.2 e1;rw [<-f1] at f2;rw [B0];have hct:l9 C (.down k p)=⟨(l9 C p).n*k,(l9 C p).m,λi j=>(l9 C p).f (i %(l9 C p).n) j⟩:=by rw [l9]
   rw [hct] at hr hc ⊢;have hc:c<(l9 C p).m:=hc
   ext ab
   refine m4 (n:=3) ?_;show w4 _ _ [φ (pl4 (.str (AD "down")) ⟨(l9 C p).n*k,(l9 C p).m,λi j=>(l9 C p).f (i %(l9 C p).n) j⟩ (B0 C p)),φ (.int (r:Nat)),φ (.int (c:Nat)),ζ,ζ,ζ]=_;unfold w4;refine(b0 rfl).trans ((b0 rfl).trans ((e8 (p:=B0 C p) rfl).trans (j8 rfl ?_)));rw [P5 (i0 (q:= .v (B0 C p)) rfl rfl (i0 (md (x:=(r:Nat)) rfl (K4 (r:= .v (B0 C p)) rfl rfl (a6w C p)) (by lia)) (p:= .int ((r %(l9 C p).n:Nat):Int)) (by rw [Int.natCast_emod];rfl) (i0 (md (x:=(c:Nat)) rfl (K4 (r:= .v (B0 C p)) rfl rfl (a6x C p)) (by lia)) (p:= .int ((c %(l9 C p).m:Nat):Int)) (by rw [Int.natCast_emod];rfl) rfl))),eq,Nat.mod_eq_of_lt hc]
  |turned w p=>
   ext f
   cases e1:x6 K p with
   |none=>rw [e1] at e;cases e
   |some x=>
    rw [B0];have hct:l9 C (.turned w p)=trC w (l9 C p):=by rw [l9]
    rw [hct] at hr hc ⊢;obtain⟨a,b,ha,hb,ef,ev⟩:=c1c ok.1 hr hc;have eq:=ih (n+1) (by lia) p x ok.2 (by lia) e1 a b ha hb
    refine m4 (n:=3) ?_;show w4 _ _ [φ (pl4 (row w) (trC w (l9 C p)) (B0 C p)),φ (.int (r:Nat)),φ (.int (c:Nat)),ζ,ζ,ζ]=_;unfold w4;obtain⟨t1,t2,t3,t4⟩:=b59 (ρ:=[φ (.int (r:Nat)),φ (.int (c:Nat)),ζ,ζ,ζ]) (ρ':=[φ (.int (r:Nat)),φ (.int (c:Nat)),φ (B0 C p),ζ,ζ]) ok.1 (trC w (l9 C p)) (B0 C p);refine(b0 t1).trans ((b0 t2).trans ((e8 (p:=B0 C p) rfl).trans ((b0 t3).trans ((b0 t4).trans ?_))));refine(e8 ((P5 rfl).trans ef)).trans (L7 ((P5 rfl).trans ?_));rw [eq,ev]
  |dyed a b p=>
   ext f
   have hct:l9 C (.dyed a b p)=⟨(l9 C p).n,(l9 C p).m,λi j=>ex a b ((l9 C p).f i j)⟩:=by rw [l9]
   rw [B0,hct];rw [hct] at hr hc;have eq:=ih (n+1) (by lia) p d ok.2.2 (by lia) e r c hr hc
   obtain⟨P,hP⟩:∃P,P=PyData.tuple [.str (AD "dye"),.int (((l9 C p).n:Nat):Int),.int (((l9 C p).m:Nat):Int),B0 C p,row [a],row [b]]:=⟨_,rfl⟩;refine m4 (n:=3) ?_;show w4 _ _ [φ (.tuple [.str (AD "dye"),.int (((l9 C p).n:Nat):Int),.int (((l9 C p).m:Nat):Int),B0 C p,row [a],row [b]]),φ (.int (r:Nat)),φ (.int (c:Nat)),ζ,ζ,ζ]=_;unfold w4;refine(b0 rfl).trans ((b0 rfl).trans ((e8 (p:=B0 C p) rfl).trans ((b0 rfl).trans (K5 rfl ?_))));refine(e8 ((P5 rfl).trans eq)).trans ?_;show _=ξ (Fl.rt (d5.v (row [ex a b ((l9 C p).f r c)])));generalize (l9 C p).f r c=z at*;have t1:u5 (m2 D4 (a6 4) (m2 j7 (a6 0) (mC (.int 4)))) [φ (.tuple [.str (AD "dye"),.int (((l9 C p).n:Nat):Int),.int (((l9 C p).m:Nat):Int),B0 C p,row [a],row [b]]),φ (.int (r:Nat)),φ (.int (c:Nat)),φ (B0 C p),φ (row [z]),ζ]=ξ (decide (z=a)):=J5 (r:= .v (row [z])) rfl (q:= .v (row [a])) rfl (a3T z a);have t2:u5 (m2 D4 (a6 4) (m2 j7 (a6 0) (mC (.int 5)))) [φ (.tuple [.str (AD "dye"),.int (((l9 C p).n:Nat):Int),.int (((l9 C p).m:Nat):Int),B0 C p,row [a],row [b]]),φ (.int (r:Nat)),φ (.int (c:Nat)),φ (B0 C p),φ (row [z]),ζ]=ξ (decide (z=b)):=J5 (r:= .v (row [z])) rfl (q:= .v (row [b])) rfl (a3T z b);show _=ξ (Fl.rt (d5.v (row [ex a b z])));unfold ex
   by_cases h1:z=a
   ·rw [decide_eq_true h1] at t1;rw [if_pos h1];exact j8 t1 rfl
   ·rw [decide_eq_false h1] at t1;rw [if_neg h1];refine(b0 t1).trans (L7 ?_)
    by_cases h2:z=b
    ·rw [decide_eq_true h2] at t2;rw [if_pos h2];exact(b9C t2).trans rfl
    ·rw [decide_eq_false h2] at t2;rw [if_neg h2];exact(c2Q t2).trans rfl
theorem a6p{K:NL u9}{C:NL Ct}(G:Gd K C){m:Mo}{d:u9}(ok:v7 m)(dp:p9 m<=8)(e:x6 K m=ξ d):a3X [j4 m,cd C]=φ (clv (l9 C m)):=by
 have hpl:a5D [j4 m,cd C]=φ (B0 C m):=b6S G 12 m d ok (by lia) e
 have hsg:=c2j G 24 m d ok (by lia) e
 obtain⟨g1,g2⟩:=G.dm ok e;rw [<-g1] at g2;have n24:(l9 C m).n<=24:=g2.1.2;have m24:(l9 C m).m<=24:=g2.2.2;obtain⟨P,hP⟩:∃P,P=B0 C m:=⟨_,rfl⟩;obtain⟨x,hx⟩:∃x,x=l9 C m:=⟨_,rfl⟩;have p1:=a6w C m;have p2:=a6x C m;rw [<-hP] at hpl p1 p2 hsg;rw [<-hx] at p1 p2 hsg n24 m24 ⊢;have rowok:∀r,r<x.n->∀T:Υ d5,m2 W1 (mC (.str (AD ""))) (P6 1 (M1 (a4 (m2 j7 (a6 2) (mC (.int 2))) b5)) (j3 5) a0l U9) [φ (j4 m),φ (cd C),φ P,T,φ (.int (r:Nat))]=φ (row (rw_ x.m (x.f r))):=λr hr T=>by
  have er:M1 (a4 (m2 j7 (a6 2) (mC (.int 2))) b5) [φ (j4 m),φ (cd C),φ P,T,φ (.int (r:Nat))]=ξ ((AZ x.m).map λk=> .int (k:Nat)):=K9 (K4 (r:= .v P) rfl rfl p2) (by lia)
  have cm:=S4 (ι:=λk:Nat=>PyData.int (k:Nat)) (f:=λc=>row [x.f r c]) (k:=1) (it:=M1 (a4 (m2 j7 (a6 2) (mC (.int 2))) b5)) (tg:=j3 5) (elt:=U9) (ρ:=[φ (j4 m),φ (cd C),φ P,T,φ (.int (r:Nat))]) (AZ x.m) er (by rw [Au];lia) λc hc=>by
   refine⟨[φ (j4 m),φ (cd C),φ P,T,φ (.int (r:Nat)),φ (.int (c:Nat))],rfl, ?_⟩;unfold U9;rw [P5 (i0 (q:= .v P) rfl rfl (i0 (q:= .v (.int (r:Nat))) rfl rfl (i0 (q:= .v (.int (c:Nat))) rfl rfl rfl)))];rw [show a5E [P,.int (r:Nat),.int (c:Nat)]=_ from hsg r c hr (List.mem_range.mp hc)]
   rfl
  refine K4 rfl cm (c5f (l:=rw_ x.m (x.f r)) (by unfold rw_;rw [AT,Au];lia) ?_)
  show ξ _=ξ _;unfold rw_;rw [Aj]
  rfl
 have er:M1 (a4 (m2 j7 (a6 2) (mC (.int 1))) b5) [φ (j4 m),φ (cd C),φ P,ξ (.own []),ζ]=ξ ((AZ x.n).map λk=> .int (k:Nat)):=K9 (K4 (r:= .v P) rfl rfl p1) (by lia)
 obtain⟨ρ',e5,q4,rfl⟩:=a2e (body:=a35) (tg:=j3 4) (λj ρ=>∃q4:Υ d5,ρ=[φ (j4 m),φ (cd C),φ P,ξ (.own ((AZ j).map λi=>row (rw_ x.m (x.f i)))),q4])
  (ps:=(AZ x.n).map λk=> .int (k:Nat)) (ρ:=[φ (j4 m),φ (cd C),φ P,ξ (.own []),ζ])
  (by
   rintro j p hp ρ ⟨q4,rfl⟩;obtain⟨rfl,hj⟩:=a6A hp;refine a6O (ρ1:=[φ (j4 m),φ (cd C),φ P,ξ (.own ((AZ j).map λi=>row (rw_ x.m (x.f i)))),φ (.int (j:Nat))]) rfl (D0 (rowok j hj _) rfl rfl (by rw [AT,Au];lia)) ⟨φ (.int (j:Nat)), ?_⟩
   rw [List.range_succ,Ao]
   rfl)
  ⟨ζ,rfl⟩
 rw [AT,Au] at e5;refine m4 (n:=3) ?_;show a3z [φ (j4 m),φ (cd C),ζ,ζ,ζ]=_;unfold a3z;refine(e8 ((N2 rfl rfl).trans hpl)).trans ((P0 (l:=[]) rfl).trans ((W9 er e5).trans ?_))
 rfl
def sN:Nat->(Nat->Nat)->Nat
 |0,_=>0
 |n+1,g=>sN n g+g n
theorem B2{g h:Nat->Nat}:∀{n:Nat},(∀i,i<n->g i=h i)->sN n g=sN n h
 |0,_=>rfl
 |n+1,H=>by rw [sN,sN,B2 (n:=n) λi hi=>H i (by lia),H n (by lia)]
theorem b5W(g h:Nat->Nat):∀n:Nat,sN n (λi=>g i+h i)=sN n g+sN n h
 |0=>rfl
 |n+1=>by rw [sN,sN,sN,b5W g h n];lia
theorem a9K(a:Nat)(g:Nat->Nat):∀b:Nat,sN (a+b) g=sN a g+sN b λi=>g (a+i)
 |0=>by rw [sN];rfl
 |b+1=>by rw [<-Nat.add_assoc,sN,sN,a9K a g b];lia
theorem c2f(g:Nat->Nat)(n:Nat):sN (n+1) g=g 0+sN n λi=>g (i+1):=by
 rw [Nat.add_comm n 1,a9K 1 g n]
 congr 1
 ·show 0+g 0=_;lia
 ·exact B2 λi _=>by rw [Nat.add_comm]
theorem a2V(g:Nat->Nat):∀n:Nat,sN n (λi=>g (n - 1 - i))=sN n g
 |0=>rfl
 |n+1=>by
  rw [c2f,sN,Nat.add_comm]
  congr 1
  rw [<-a2V g n];exact B2 λi hi=>congrArg g (by lia)
theorem b62:∀n:Nat,sN n (λ_=>0)=0
 |0=>rfl
 |n+1=>by rw [sN,b62 n]
theorem a6E(m:Nat)(g:Nat->Nat->Nat):∀n:Nat,sN n (λi=>sN m (g i))=sN m λj=>sN n λi=>g i j
 |0=>(b62 m).symm
 |n+1=>by rw [sN,a6E m g n,<-b5W];rfl
theorem b5X(m:Nat)(g:Nat->Nat):∀k:Nat,sN (m*k) (λj=>g (j % m))=k*sN m g
 |0=>by rw [Nat.mul_zero,Nat.zero_mul];rfl
 |k+1=>by
  rw [Nat.mul_succ,a9K,b5X m g k,Nat.succ_mul]
  congr 1
  refine B2 λi hi=>congrArg g ?_;rw [Nat.mul_add_mod,Nat.mod_eq_of_lt hi]
theorem c0n(k:Nat)(g:Nat->Nat):∀n:Nat,sN n (λi=>k*g i)=k*sN n g
 |0=>rfl
 |n+1=>by rw [sN,sN,c0n k g n,Nat.mul_add]
def on(a b:Nat):Nat:=if b=a then 1 else 0
def cnC(x:Ct)(a:Nat):Nat:=sN x.n λi=>sN x.m λj=>on a (x.f i j)
theorem c3e{x y:Ct}(h:x.n=y.n)(a:Nat):cnC (bes x y) a=cnC x a+cnC y a:=by
 unfold cnC bes;rw [<-h,<-b5W];refine B2 λi _=> ?_;rw [a9K]
 congr 1
 ·exact B2 λj hj=>by show on a (bF _ _ _ i j)=_;unfold bF;rw [if_pos hj]
 ·exact B2 λj _=>by show on a (bF _ _ _ i _)=_;unfold bF;rw [if_neg (by lia),Nat.add_sub_cancel_left]
theorem c3d{x y:Ct}(h:x.m=y.m)(a:Nat):cnC (abv x y) a=cnC x a+cnC y a:=by
 unfold cnC abv;rw [a9K]
 congr 1
 ·exact B2 λi hi=>B2 λj _=>by show on a (aF _ _ _ i j)=_;unfold aF;rw [if_pos hi]
 ·refine B2 λi _=> ?_;show sN x.m _=_;rw [h];exact B2 λj _=>by show on a (aF _ _ _ _ j)=_;unfold aF;rw [if_neg (by lia),Nat.add_sub_cancel_left]
theorem c42{w:List Nat}(hw:w∈W2)(x:Ct)(a:Nat):cnC (trC w x) a=cnC x a:=by
 obtain⟨hk,_,_⟩:=b9t hw;unfold trC;generalize kw w=k at hk;obtain⟨n,m,f⟩:=x;have h:k=0\/k=1\/k=2\/k=3\/k=4\/k=5\/k=6\/k=7:=by lia
 unfold cnC;rcases h with rfl|rfl|rfl|rfl|rfl|rfl|rfl|rfl
 ·rfl
 ·show sN m (λi=>sN n λj=>on a (f (n - 1 - j) i))=sN n λi=>sN m λj=>on a (f i j);rw [a6E m (λi j=>on a (f i j)) n];exact B2 λi _=>a2V (λj=>on a (f j i)) n
 ·show sN n (λi=>sN m λj=>on a (f (n - 1 - i) (m - 1 - j)))=_;rw [<-a2V (λi=>sN m λj=>on a (f i j)) n];exact B2 λi _=>a2V (λj=>on a (f (n - 1 - i) j)) m
 ·show sN m (λi=>sN n λj=>on a (f j (m - 1 - i)))=sN n λi=>sN m λj=>on a (f i j);rw [a6E m (λi j=>on a (f i j)) n];exact a2V (λi=>sN n λj=>on a (f j i)) m
 ·exact B2 λi _=>a2V (λj=>on a (f i j)) m
 ·exact a2V (λi=>sN m λj=>on a (f i j)) n
 ·exact(a6E m (λi j=>on a (f i j)) n).symm
 ·show sN m (λi=>sN n λj=>on a (f (n - 1 - j) (m - 1 - i)))=sN n λi=>sN m λj=>on a (f i j);rw [a6E m (λi j=>on a (f i j)) n,<-a2V (λi=>sN n λj=>on a (f j i)) m];exact B2 λi _=>a2V (λj=>on a (f j (m - 1 - i))) n
theorem b8T(a b x:Nat):ex a b (ex a b x)=x:=by
 unfold ex;split
 ·rename_i h;subst h
  by_cases h2:b=x
  ·rw [if_pos h2,h2]
  ·rw [if_neg h2,if_pos rfl]
 ·rename_i h;split
  ·rename_i h2;rw [if_pos rfl,h2]
  ·first|rfl|(rename_i h2;rw [if_neg h,if_neg h2])
theorem c5n(a b c x:Nat):on c (ex a b x)=on (ex a b c) x:=by
 unfold on
 by_cases h:ex a b x=c
 ·rw [if_pos h,if_pos (by rw [<-h,b8T])]
 ·rw [if_neg h,if_neg (λz=>h (by rw [z,b8T]))]
def ksL(x:Ct):List Nat:=((AZ x.n).map λi=>rw_ x.m (x.f i)).flatten
theorem b03(a:Nat)(g:Nat->Nat):∀m:Nat,(rw_ m g).count a=sN m λj=>on a (g j)
 |0=>rfl
 |m+1=>by
  unfold rw_;rw [List.range_succ,Ao,List.count_append,sN,<-b03 a g m]
  congr 1
  rw [List.map_singleton,List.count_singleton];unfold on
  by_cases h:g m=a
  ·rw [if_pos h,h];simp
  ·rw [if_neg h];simp [h]
theorem a8H(x:Ct)(a:Nat):(ksL x).count a=cnC x a:=by
 obtain⟨n,m,f⟩:=x;unfold ksL cnC;show((AZ n).map λi=>rw_ m (f i)).flatten.count a=sN n λi=>sN m λj=>on a (f i j)
 induction n with
 |zero=>rfl
 |succ n ih=>
  rw [List.range_succ,Ao,List.flatten_append,List.count_append,sN,ih]
  congr 1
  rw [List.map_singleton,List.flatten_singleton,b03]
theorem b9x(x:Ct):(ksL x).length=x.n*x.m:=by
 obtain⟨n,m,f⟩:=x;unfold ksL;show((AZ n).map λi=>rw_ m (f i)).flatten.length=n*m
 induction n with
 |zero=>rw [Nat.zero_mul];rfl
 |succ n ih=>
  rw [List.range_succ,Ao,List.flatten_append,AW,ih,Nat.succ_mul,List.map_singleton,List.flatten_singleton,a9J]
theorem a4M{α:Type}[DecidableEq α]:∀{l k:List α},l.Nodup->(∀x∈l,x∈k)->l.length<=k.length
 |[],_,_,_=>Nat.zero_le _
 |x::l,k,nd,h=>by
  rw [List.nodup_cons] at nd;have hx:x∈k:=h x AU;have:=a4M (l:=l) (k:=k.erase x) nd.2 λy hy=>(List.mem_erase_of_ne (λ(e:y=x)=>nd.1 (by rw [<-e];exact hy))).mpr (h y (Ab _ hy))
  rw [List.length_erase_of_mem hx] at this;have:0<k.length:=List.length_pos_of_mem hx;rw [AV];lia
abbrev Cn:=NL Nat
def g0(A:Cn)(w:List Nat):Nat:=(t5 A w).getD 0
def ksN(A:Cn):List (List Nat):=A.map (·.1)
structure Cnt(x:Ct)(A:Cn):Prop where
 nd:(ksN A).Nodup
 ps:∀e∈A,0<e.2
 sg:∀e∈A,∃c,e.1=[c]
 eq:∀c,g0 A [c]=cnC x c
theorem b5K{A:Cn}{w:List Nat}(h:w∈ksN A):∃k,t5 A w=ξ k/\(w,k)∈A:=by
 obtain⟨k,hk⟩:=a9h (show w∈A.map (·.1) from h);exact⟨k,hk,Q5 hk⟩
theorem b9r{A:Cn}{w:List Nat}{k:Nat}(h:t5 A w=ξ k):w∈ksN A:=Ag.mpr ⟨(w,k),Q5 h,rfl⟩
theorem b1n(e:List Nat×Nat)(A:Cn)(w:List Nat):t5 (e::A) w=if e.1=w then ξ e.2 else t5 A w:=by
 unfold t5;rw [List.find?_cons]
 by_cases h:e.1=w
 ·rw [if_pos h,decide_eq_true h];rfl
 ·rw [if_neg h,decide_eq_false h]
theorem c1t{A:Cn}{w:List Nat}(h:w∉ksN A):t5 A w=ζ:=by
 cases e:t5 A w with
 |none=>rfl
 |some k=>exact absurd (b9r e) h
theorem c3S(A:Cn)(w:List Nat)(k:Nat):ksN (E1 A w k)=if w∈ksN A then ksN A else ksN A++[w]:=by
 unfold E1 ksN;have e:(A.any λx=>decide (x.1=w))=true↔w∈A.map (·.1):=by
  rw [List.any_eq_true];constructor
  ·rintro⟨x,hx,h⟩;exact Ag.mpr ⟨x,hx,of_decide_eq_true h⟩
  ·intro h;obtain⟨x,hx,h⟩:=Ag.mp h;exact⟨x,hx,decide_eq_true h⟩
 by_cases c:w∈A.map (·.1)
 ·rw [if_pos (e.mpr c),if_pos c,Aj];refine List.map_congr_left λx _=> ?_;show(if x.1=w then(x.1,k) else x).1=x.1
  split<;>rfl
 ·rw [if_neg (λh=>c (e.mp h)),if_neg c,Ao]
  rfl
theorem c30{A:Cn}{w:List Nat}{k:Nat}(h:(ksN A).Nodup):(ksN (E1 A w k)).Nodup:=by
 rw [c3S];split
 ·exact h
 ·rename_i c;rw [List.nodup_append];exact⟨h,by simp,λa ha b hb e=>c (by rw [<-List.mem_singleton.mp hb,<-e];exact ha)⟩
theorem b6M{A:Cn}{w:List Nat}{k:Nat}{e:List Nat×Nat}(h:e∈E1 A w k):e∈A\/e=(w,k):=by
 unfold E1 at h;split at h
 ·obtain⟨x,hx,he⟩:=Ag.mp h;split at he
  ·rename_i c;rw [<-he,c];exact .inr rfl
  ·rw [<-he];exact .inl hx
 ·rcases Ar.mp h with h|h
  ·exact .inl h
  ·exact .inr (List.mem_singleton.mp h)
theorem Cnt.len{x:Ct}{A:Cn}(h:Cnt x A):A.length<=x.n*x.m:=by
 have:=a4M (l:=ksN A) (k:=(ksL x).map λc=>[c]) h.nd λw hw=>by
  obtain⟨k,hk,hm⟩:=b5K hw;obtain⟨c,rfl⟩:=h.sg _ hm;have h1:=h.eq c;have h2:=h.ps _ hm;unfold g0 at h1;rw [hk] at h1;rw [<-a8H] at h1;exact Ag.mpr ⟨c,List.count_pos_iff.mp (by rw [<-h1];exact h2),rfl⟩
 rw [AT,b9x] at this;unfold ksN at this
 rwa [AT] at this
theorem Cnt.same{x:Ct}{A B:Cn}(h:Cnt x A)(g:Cnt x B):A.length=B.length/\∀e∈A,t5 B e.1=ξ e.2:=by
 have key:∀{A B:Cn},Cnt x A->Cnt x B->∀e∈A,t5 B e.1=ξ e.2:=λ {A B} h g e he=>by
  obtain⟨c,hc⟩:=h.sg e he;have hl:t5 A [c]=ξ e.2:=by
   obtain⟨k,hk,hm⟩:=b5K (A:=A) (w:=[c]) (Ag.mpr ⟨e,he,hc⟩);have:e=([c],k):=by
    have nd:=h.nd;unfold ksN at nd;clear h g hk
    induction A with
    |nil=>cases he
    |cons y A ih=>
     rw [AM,List.nodup_cons] at nd;rcases AX.mp he with rfl|he'
     ·rcases AX.mp hm with hm|hm
      ·exact hm.symm
      ·exact absurd (Ag.mpr ⟨_,hm,hc.symm⟩) nd.1
     ·rcases AX.mp hm with rfl|hm'
      ·exact absurd (show [c]∈A.map (·.1) from Ag.mpr ⟨_,he',hc⟩) nd.1
      ·exact ih he' hm' nd.2
   rw [this];exact hk
  have h1:=h.eq c;have h2:=g.eq c;rw [<-h1] at h2;unfold g0 at h2;rw [hl] at h2;have hp:=h.ps e he;rw [hc];cases hB:t5 B [c] with
  |none=>rw [hB] at h2;have:0=e.2:=h2;lia
  |some k=>rw [hB] at h2;have:k=e.2:=h2;rw [this]
 have le:∀{A B:Cn},Cnt x A->Cnt x B->A.length<=B.length:=λ {A B} h g=>by
  have:=a4M (l:=ksN A) (k:=ksN B) h.nd λw hw=>by
   obtain⟨k,_,hm⟩:=b5K hw;exact b9r (key h g _ hm)
  unfold ksN at this
  rwa [AT,AT] at this
 exact⟨Nat.le_antisymm (le h g) (le g h),key h g⟩
theorem b0Z(c:Nat):∀l:List Nat,cnt c l=((l.count c:Nat):Int)
 |[]=>rfl
 |n::r=>by
  rw [cnt_cons,b0Z c r,List.count_cons]
  by_cases h:n=c
  ·subst h;simp;lia
  ·simp [h]
def uL(l:List Nat):List Nat:=(a0z (M4 (S l))).map λz=>z.cps.toList.headD 0
def plC(l:List Nat):Cn:=(uL l).map λx=>([x],l.count x)
def adC(T:Cn)(e:List Nat×Nat):Cn:=E1 T e.1 (g0 T e.1+e.2)
def ptC(φ:List Nat->List Nat)(ψ:Nat->Nat)(T:Cn)(e:List Nat×Nat):Cn:=E1 T (φ e.1) (ψ e.2)
def adL(T l:Cn):Cn:=l.foldl adC T
mutual
def cnM(A:NL Cn):Mo->Cn
 | .plain rows=>plC rows.flatten
 | .named w=>(t5 A w).getD []
 | .beside ps=>(a58 A ps).foldl adL []
 | .above ps=>(a58 A ps).foldl adL []
 | .across k p=>(cnM A p).foldl (ptC id (· *k)) []
 | .down k p=>(cnM A p).foldl (ptC id (· *k)) []
 | .turned _ p=>cnM A p
 | .dyed a b p=>(cnM A p).foldl (ptC (List.map (ex a b)) id) []
def a58(A:NL Cn):List Mo->List Cn
 |[]=>[]
 |p::ps=>cnM A p::a58 A ps
end
structure Gc(A:Cn):Prop where
 nd:(ksN A).Nodup
 ps:∀e∈A,0<e.2
 sg:∀e∈A,∃c,e.1=[c]
theorem Cnt.gc{x:Ct}{A:Cn}(h:Cnt x A):Gc A:=⟨h.nd,h.ps,h.sg⟩
theorem Gc.cnt{x:Ct}{A:Cn}(h:Gc A)(e:∀c,g0 A [c]=cnC x c):Cnt x A:=⟨h.nd,h.ps,h.sg,e⟩
theorem gc0:Gc []:=⟨List.nodup_nil,(λ_ h=>nomatch h),(λ_ h=>nomatch h)⟩
theorem b5p(T:Cn)(w:List Nat)(k:Nat)(v:List Nat):g0 (E1 T w k) v=if w=v then k else g0 T v:=by
 unfold g0;rw [a1a];split<;>rfl
theorem b6x(e:List Nat×Nat)(A:Cn)(w:List Nat):g0 (e::A) w=if e.1=w then e.2 else g0 A w:=by
 unfold g0;rw [b1n];split<;>rfl
theorem b82{A:Cn}{w:List Nat}(h:w∉ksN A):g0 A w=0:=by unfold g0;rw [c1t h];rfl
theorem Gc.put{T:Cn}(h:Gc T){w:List Nat}{k:Nat}(hk:0<k)(hw:∃c,w=[c]):Gc (E1 T w k):=by
 refine⟨c30 h.nd,λe he=> ?_,λe he=> ?_⟩
 ·rcases b6M he with he|rfl
  ·exact h.ps e he
  ·exact hk
 ·rcases b6M he with he|rfl
  ·exact h.sg e he
  ·exact hw
theorem Gc.tail{e:List Nat×Nat}{l:Cn}(h:Gc (e::l)):Gc l/\0<e.2/\(∃c,e.1=[c])/\e.1∉ksN l:=by
 have nd:=h.nd;unfold ksN at nd;rw [AM,List.nodup_cons] at nd;exact⟨⟨nd.2,λx hx=>h.ps x (Ab _ hx),λx hx=>h.sg x (Ab _ hx)⟩,h.ps e AU,h.sg e AU,nd.1⟩
theorem b8u:∀(l T:Cn),Gc T->Gc l->Gc (adL T l)/\∀w,g0 (adL T l) w=g0 T w+g0 l w
 |[],T,h,_=>⟨h,λw=>rfl⟩
 |e::l,T,h,hl=>by
  obtain⟨h1,h2,h3,h4⟩:=hl.tail;have hp:Gc (adC T e):=h.put (by lia) h3
  obtain⟨z1,z2⟩:=b8u l (adC T e) hp h1;refine⟨z1,λw=> ?_⟩;show g0 (adL (adC T e) l) w=_;rw [z2 w,b6x];unfold adC;rw [b5p]
  by_cases c:e.1=w
  ·rw [if_pos c,if_pos c,<-c,b82 h4];lia
  ·rw [if_neg c,if_neg c]
theorem c0c{φ:List Nat->List Nat}{ψ:Nat->Nat}(hφ:∀w,φ (φ w)=w)(hs:∀c,∃d,φ [c]=[d])(hψ:∀n,0<n->0<ψ n):∀(l T:Cn),Gc T->Gc l->Gc (l.foldl (ptC φ ψ) T)/\∀w,g0 (l.foldl (ptC φ ψ) T) w=if φ w∈ksN l then ψ (g0 l (φ w)) else g0 T w
 |[],T,h,_=>⟨h,λw=>by rw [if_neg (by unfold ksN;simp)];rfl⟩
 |e::l,T,h,hl=>by
  obtain⟨h1,h2,⟨c,h3⟩,h4⟩:=hl.tail;have hp:Gc (ptC φ ψ T e):=h.put (hψ _ h2) (by rw [h3];exact hs c)
  obtain⟨z1,z2⟩:=c0c hφ hs hψ l (ptC φ ψ T e) hp h1;refine⟨z1,λw=> ?_⟩;rw [List.foldl_cons,z2 w,b6x];unfold ptC;rw [b5p];have hk:φ w∈ksN (e::l)↔e.1=φ w\/φ w∈ksN l:=by
   unfold ksN;rw [AM,AX];exact⟨λh=>h.imp Eq.symm id,λh=>h.imp Eq.symm id⟩
  by_cases d:e.1=φ w
  ·have dn:φ w∉ksN l:=by rw [<-d];exact h4
   rw [if_neg dn,if_pos (show φ e.1=w by rw [d,hφ]),if_pos (hk.mpr (.inl d)),if_pos d]
  ·have d2:¬φ e.1=w:=λz=>d (by rw [<-z,hφ])
   rw [if_neg d2,if_neg d]
   by_cases f:φ w∈ksN l
   ·rw [if_pos f,if_pos (hk.mpr (.inr f))]
   ·rw [if_neg f,if_neg (λz=>(hk.mp z).elim d f)]
theorem c2W{ψ:Nat->Nat}(hψ:∀n,0<n->0<ψ n)(h0:ψ 0=0){l:Cn}(hl:Gc l):Gc (l.foldl (ptC id ψ) [])/\∀w,g0 (l.foldl (ptC id ψ) []) w=ψ (g0 l w):=by
 obtain⟨z1,z2⟩:=c0c (φ:=id) (λ_=>rfl) (λc=>⟨c,rfl⟩) hψ l [] gc0 hl;refine⟨z1,λw=> ?_⟩;rw [z2 w];show(if w∈ksN l then ψ (g0 l w) else 0)=_
 by_cases c:w∈ksN l
 ·rw [if_pos c]
 ·rw [if_neg c,b82 c,h0]
theorem c5y(a b:Nat){l:Cn}(hl:Gc l):Gc (l.foldl (ptC (List.map (ex a b)) id) [])/\∀c,g0 (l.foldl (ptC (List.map (ex a b)) id) []) [c]=g0 l [ex a b c]:=by
 obtain⟨z1,z2⟩:=c0c (φ:=List.map (ex a b)) (ψ:=id) (λw=>by rw [Aj];exact(List.map_congr_left λx _=>b8T a b x).trans (List.map_id w)) (λc=>⟨ex a b c,rfl⟩) (λ_ h=>h) l [] gc0 hl
 refine⟨z1,λc=> ?_⟩;rw [z2];show(if [ex a b c]∈ksN l then g0 l [ex a b c] else 0)=_
 by_cases d:[ex a b c]∈ksN l
 ·rw [if_pos d]
 ·rw [if_neg d,b82 d]
theorem c23(l:List Nat):(uL l).Nodup/\(∀x,x∈uL l↔x∈l)/\(a0z (M4 (S l))).map PyData.str=(uL l).map λx=>row [x]:=by
 have sg:M4 (S l)=l.map λx=>S [x]:=by
  unfold M4;rw [a5X];rfl
 have nd:=b4T (a6N (M4 (S l)));have mem:∀z,z∈a0z (M4 (S l))↔∃x∈l,S [x]=z:=λz=>by rw [a7r,sg,Ag]
 refine⟨?_,λx=> ?_, ?_⟩
 ·refine List.pairwise_map.mpr ?_;refine nd.imp_of_mem λ {a b} ha hb hne e=>hne ?_;obtain⟨x,_,rfl⟩:=(mem a).mp ha;obtain⟨y,_,rfl⟩:=(mem b).mp hb;rw [a5X,a5X] at e;have:x=y:=e;rw [this]
 ·unfold uL;rw [Ag];constructor
  ·rintro⟨z,hz,e⟩;obtain⟨y,hy,rfl⟩:=(mem z).mp hz;rw [a5X] at e;have:y=x:=e;rw [<-this];exact hy
  ·intro hx;exact⟨S [x],(mem _).mpr ⟨x,hx,rfl⟩,by rw [a5X];rfl⟩
 ·unfold uL;rw [Aj];refine List.map_congr_left λz hz=> ?_;obtain⟨x,_,rfl⟩:=(mem z).mp hz;show PyData.str (S [x])=row [(S [x]).cps.toList.headD 0];rw [a5X];rfl
theorem b4w(l:List Nat)(c:Nat):∀U:List Nat,t5 (U.map λx=>([x],l.count x)) [c]=if c∈U then ξ (l.count c) else ζ
 |[]=>rfl
 |x::U=>by
  rw [AM,b1n,b4w l c U]
  by_cases h:x=c
  ·subst h;rw [if_pos rfl,if_pos AU]
  ·rw [if_neg (λz=>h (List.cons.inj z).1)]
   by_cases d:c∈U
   ·rw [if_pos d,if_pos (Ab _ d)]
   ·rw [if_neg d,if_neg (λz=>(AX.mp z).elim (λe=>h e.symm) d)]
theorem c4x(l:List Nat):Gc (plC l)/\∀c,g0 (plC l) [c]=l.count c:=by
 obtain⟨nd,mem,_⟩:=c23 l;refine⟨⟨?_,λe he=> ?_,λe he=> ?_⟩,λc=> ?_⟩
 ·unfold ksN plC;rw [Aj];refine List.pairwise_map.mpr (nd.imp λ {a b} h e=>h (List.cons.inj e).1)
 ·obtain⟨x,hx,rfl⟩:=Ag.mp he;exact List.count_pos_iff.mpr ((mem x).mp hx)
 ·obtain⟨x,hx,rfl⟩:=Ag.mp he;exact⟨x,rfl⟩
 ·unfold g0 plC;rw [b4w]
  by_cases d:c∈uL l
  ·rw [if_pos d];rfl
  ·rw [if_neg d];have:c∉l:=λz=>d ((mem c).mpr z);rw [List.count_eq_zero.mpr this];rfl
theorem a7R:∀{a b:List (List Nat)},a.map row=b.map row->a=b
 |[],[],_=>rfl
 |[],_::_,h=>nomatch h
 |_::_,[],h=>nomatch h
 |x::a,y::b,h=>by
  rw [AM,AM] at h;obtain⟨h1,h2⟩:=List.cons.inj h;rw [a7R h2,b8r (PyData.str.inj h1)]
theorem b9s{R:List (List Nat)}(h:okP R)(C:NL Ct):ksL (l9 C (.plain R))=R.flatten:=by
 have e:=b4y h C;unfold clv cl at e;have e2:=PyData.tuple.inj e;unfold ksL;rw [<-a7R (a:=R) (b:=(AZ (l9 C (.plain R)).n).map λi=>rw_ (l9 C (.plain R)).m ((l9 C (.plain R)).f i)) (by rw [e2,Aj];rfl)]
def Rc(C:NL Ct)(A:NL Cn):Prop:=∀w,(t5 C w=ζ/\t5 A w=ζ)\/∃c k,t5 C w=ξ c/\t5 A w=ξ k/\Cnt c k
theorem Rc.put{C:NL Ct}{A:NL Cn}(h:Rc C A){c:Ct}{k:Cn}(hc:Cnt c k)(w:List Nat):Rc (E1 C w c) (E1 A w k):=λv=>by
 rw [a1a,a1a]
 by_cases d:w=v
 ·rw [if_pos d,if_pos d];exact .inr ⟨c,k,rfl,rfl,hc⟩
 ·rw [if_neg d,if_neg d];exact h v
theorem b6H(be:Bool):∀(cs:List Ct) (ls:List Cn) (x:Ct) (T:Cn) (y:u9),Paired Cnt cs ls->Cnt x T->U4 be (dmC x) (cs.map dmC)=ξ y->Cnt (cs.foldl (lyC be) x) (ls.foldl adL T)
 |_,_,x,T,y,.nil,h,_=>h
 |c::cs,l::ls,x,T,y,.cons p ps,h,e=>by
  rw [AM,U4] at e;obtain⟨d,e1,e⟩:=bind_some e;rw [List.foldl_cons,List.foldl_cons];refine b6H be cs ls _ _ y ps ?_ (by rw [b9v e1];exact e)
  obtain⟨z1,z2⟩:=b8u l T h.gc p.gc;refine z1.cnt λa=> ?_;rw [z2,h.eq,p.eq];unfold a08 at e1;unfold lyC;cases be with
  |true=>
   rw [if_pos rfl] at e1 ⊢;split at e1
   ·rename_i q;exact(c3e (show x.n=c.n from q.1.symm) a).symm
   ·cases e1
  |false=>
   rw [if_neg Af] at e1 ⊢;split at e1
   ·rename_i q;exact(c3d (show x.m=c.m from q.1.symm) a).symm
   ·cases e1
section
variable {K:NL u9}{C:NL Ct}{A:NL Cn}(G:Gd K C)(R:Rc C A)
include G R
theorem a44:∀(n:Nat) (m:Mo) (d:u9),v7 m->p9 m<=n->x6 K m=ξ d->Cnt (l9 C m) (cnM A m)
 |0,m,_,_,h,_=>by have:=T6 m;lia
 |n+1,m,d,ok,h,e=>by
  have lst:∀(ps:List Mo) (ds:List u9),a1p ps->a0r ps<=n->J3 K ps=ξ ds->(a3G C ps).map dmC=ds/\Paired Cnt (a3G C ps) (a58 A ps):=λps=>by
   induction ps with
   |nil=>intro ds _ _ e;rw [J3] at e;cases e;rw [a3G,a58];exact⟨rfl,.nil⟩
   |cons p ps ih=>
    ext k
    cases e2:J3 K ps with
    |none=>rw [e2] at e;cases e
    |some es=>
     rw [e2] at e;cases e;obtain⟨y1,y2⟩:=ih es o.2 (by lia) e2
     rw [a3G,a58,AM,(G.dm o.1 e1).1,y1];exact⟨rfl,.cons (a44 n p d o.1 (by lia) e1) y2⟩
  have laid:∀(be:Bool) (ps:List Mo),a1p ps->a0r ps<=n->(J3 K ps).bind (a7N be)=ξ d->Cnt (la0 be (a3G C ps)) ((a58 A ps).foldl adL []):=λbe ps o h e=>by
   ext v
   obtain⟨y1,y2⟩:=lst ps ds o h e1;cases hc:a3G C ps with
   |nil=>rw [hc] at y1;subst y1;cases e
   |cons c cs=>
    rw [hc] at y1 y2;subst y1;cases hl:a58 A ps with
    |nil=>rw [hl] at y2;cases y2
    |cons l ls=>
     rw [hl] at y2;cases y2 with
     |cons p q=>
      obtain⟨z1,z2⟩:=b8u l [] gc0 p.gc;refine b6H be cs ls c (adL [] l) d q (z1.cnt λa=> ?_) e;rw [z2,p.eq];show 0+_=_
      lia
  cases m with
  |plain R=>
   ext u
   obtain⟨z1,z2⟩:=c4x R.flatten;rw [cnM];exact z1.cnt λc=>by rw [z2,<-b9s ok C,a8H]
  |named w=>
   rw [x6,G.mt w] at e;rw [l9,cnM];rcases R w with⟨h1,_⟩|⟨c,k,h1,h2,h3⟩
   ·rw [h1] at e;cases e
   ·rw [h1,h2];exact h3
  |beside ps=>
   ext e
   rw [l9,cnM];exact laid true ps ok.2.2 (by lia) e
  |above ps=>
   ext e
   rw [l9,cnM];exact laid false ps ok.2.2 (by lia) e
  |across k p=>
   ext e
   ext p
   have hp:=a44 n p x ok.2.2 (by lia) e1
   ext aa
   rw [<-c0n];exact B2 λi _=>(b5X (l9 C p).m (λj=>on c ((l9 C p).f i j)) k).symm
  |down k p=>
   ext e
   ext p
   have hp:=a44 n p x ok.2.2 (by lia) e1
   ext aa
   exact(b5X (l9 C p).n (λi=>sN (l9 C p).m λj=>on c ((l9 C p).f i j)) k).symm
  |turned w p=>
   ext e
   cases e1:x6 K p with
   |none=>rw [e1] at e;cases e
   |some x=>
    have hp:=a44 n p x ok.2 (by lia) e1
    rw [l9,cnM];exact hp.gc.cnt λc=>by rw [hp.eq,c42 ok.1]
  |dyed a b p=>
   ext e
   have hp:=a44 n p d ok.2.2 (by lia) e
   obtain⟨z1,z2⟩:=c5y a b hp.gc;rw [l9,cnM];refine z1.cnt λc=> ?_;rw [z2,hp.eq];unfold cnC;exact B2 λi _=>B2 λj _=>(c5n a b c _).symm
end
abbrev ni(n:Nat):PV:= .int (n:Nat)
abbrev cv(l:Cn):PV:=tv (dN ni l)
abbrev kc(A:NL Cn):PV:=tv (dN cv A)
theorem a6y{α:Type}(f:α->PV){A:NL α}(hl:A.length<=10000){i:Nat}{w:List Nat}{a:α}{ek ev:M}{ρ:b7}(h:ρ[i]?=ξ (ξ (.ow (.txt (dN f A)))))(h1:ek ρ=φ (row w))(h2:ev ρ=φ (f a)):V3 i ek ev ρ=ξ (.nx (ρ.set i (ξ (.ow (.txt (dN f (E1 A w a))))))):=by
 ext ad
theorem b9p(l:Cn):itP (dN ni l)=l.map λe=> .tuple [row e.1,ni e.2]:=by
 unfold itP dN;rw [Aj]
 rfl
theorem b6w{m:M}{body:MS}{tg:PV->b7->Υ b7}{ρ:b7}{l:Cn}{fl:Fl}(h:m ρ=ξ (.ow (.txt (dN ni l))))(hl:y0 body tg (l.map λe=> .tuple [row e.1,ni e.2]) ρ=ξ fl):b38 m tg body ρ=ξ fl:=by
 unfold b38;rw [h];show y0 body tg (itP (dN ni l)) ρ=_;rw [b9p];exact hl
theorem a4K{body:MS}{is:List Nat}{st:Cn->List Nat×Nat->Cn}{sl:Cn->Υ d5->Υ d5->b7}(ht:∀(T:Cn) (q q':Υ d5) (e:List Nat×Nat),a5n is (.tuple [row e.1,ni e.2]) (sl T q q')=ξ (sl T (φ (row e.1)) (φ (ni e.2))))
 (hs:∀(T:Cn) (e:List Nat×Nat),(st T e).length<=T.length+1):∀(l T:Cn) (q q':Υ d5),(∀e∈l,∀T:Cn,T.length<=10000->body (sl T (φ (row e.1)) (φ (ni e.2)))=ξ (.nx (sl (st T e) (φ (row e.1)) (φ (ni e.2)))))->T.length+l.length<=10000->
 ∃r r',y0 body (a5n is) (l.map λe=> .tuple [row e.1,ni e.2]) (sl T q q')=ξ (.nx (sl (l.foldl st T) r r'))
 |[],T,q,q',_,_=>⟨q,q',rfl⟩
 |e::l,T,q,q',hb,hl=>by
  rw [AV] at hl;have:=hs T e;obtain⟨r,r',z⟩:=a4K ht hs l (st T e) (φ (row e.1)) (φ (ni e.2)) (λx hx=>hb x (Ab _ hx)) (by lia)
  refine⟨r,r', ?_⟩;rw [AM,y0,ht,AR,hb e AU T (by lia),AR]
  exact z
theorem b1Y(T:Cn)(e:List Nat×Nat):(adC T e).length<=T.length+1:=a2n T _ _
theorem c0d(φ:List Nat->List Nat)(ψ:Nat->Nat)(T:Cn)(e:List Nat×Nat):(ptC φ ψ T e).length<=T.length+1:=a2n T _ _
theorem b6f:∀(l T:Cn),(adL T l).length<=T.length+l.length
 |[],T=>AQ _
 |e::l,T=>by
  have h1:=b6f l (adC T e);have h2:=b1Y T e;show(adL (adC T e) l).length<=_;rw [AV];lia
theorem b2g:∀l:Cn,((dN ni l).all λe=>a68 e.2)=true
 |[]=>rfl
 |e::l=>by show(true &&((dN ni l).all λe=>a68 e.2))=true;rw [b2g l];rfl
theorem b2p:∀l:Cn,((dN ni l).all λe=>isI e.2)=true
 |[]=>rfl
 |e::l=>by show(true &&((dN ni l).all λe=>isI e.2))=true;rw [b2p l];rfl
theorem c35(l:Cn):okd (cv l)=false:=by
 cases l with
 |nil=>rfl
 |cons e l=>rfl
theorem b8F(l:List Nat)(x:Nat):a65 (.v (row l)) (.v (row [x]))=φ (ni (l.count x)):=by
 show ξ (d5.v (.int (Txt.count (S l) (S [x]))))=_;have:Txt.count (S l) ⟨#[x]⟩=cnt x (S l).cps.toList:=count_is (S l) x;rw [a5X,b0Z] at this;rw [show S [x]=⟨#[x]⟩ from rfl,this]
theorem c14{T:Cn}{w:List Nat}{k:Nat}(h:w∉ksN T):E1 T w k=T++[(w,k)]:=by
 unfold E1;rw [if_neg];intro z;obtain⟨x,hx,e⟩:=List.any_eq_true.mp z;exact h (Ag.mpr ⟨x,hx,of_decide_eq_true e⟩)
theorem b33{c:Υ d5}{l:List Nat}:∀(V U:List Nat) (q:Υ d5),(U++V).Nodup->U.length+V.length<1000->∃q',y0 A5 (j3 3) (V.map λx=>row [x]) [c,φ (row l),ξ (.ow (.txt (dN ni (U.map λx=>([x],l.count x))))),q]=ξ (.nx [c,φ (row l),ξ (.ow (.txt (dN ni ((U++V).map λx=>([x],l.count x))))),q'])
 |[],U,q,_,_=>⟨q,by rw [Am];rfl⟩
 |x::V,U,q,nd,hl=>by
  have nx:[x]∉ksN (U.map λx=>([x],l.count x)):=λh=>by
   unfold ksN at h;rw [Aj] at h;obtain⟨y,hy,e⟩:=Ag.mp h;rw [List.nodup_append] at nd;exact nd.2.2 y hy x AU (List.cons.inj e).1
  rw [AV] at hl;obtain⟨q',e⟩:=b33 (c:=c) (l:=l) V (U++[x]) (φ (row [x])) (by rw [List.append_assoc];exact nd) (by rw [AW,List.length_singleton];lia)
  refine⟨q', ?_⟩;have hb:A5 [c,φ (row l),ξ (.ow (.txt (dN ni (U.map λx=>([x],l.count x))))),φ (row [x])]=ξ (.nx [c,φ (row l),ξ (.ow (.txt (dN ni ((U++[x]).map λx=>([x],l.count x))))),φ (row [x])]):=by
   unfold A5;rw [a6y ni (A:=U.map λx=>([x],l.count x)) (w:=[x]) (a:=l.count x) (by rw [AT];lia) rfl rfl (K4 (r:= .v (row l)) rfl rfl (b8F l x)),c14 nx,Ao]
   rfl
  rw [AM,y0];show(A5 [c,φ (row l),ξ (.ow (.txt (dN ni (U.map λx=>([x],l.count x))))),φ (row [x])]).bind _=_;rw [hb,AR];show y0 A5 _ _ _=_;rw [e,List.append_assoc]
  rfl
theorem b8W{R:List (List Nat)}(h:okP R):R.flatten.length<=9:=by
 obtain⟨v,v1,v2,v3,v4,v5⟩:=h;have:∀(R:List (List Nat)),(∀l∈R,l.length=v)->R.flatten.length=R.length*v:=λR=>by
  induction R with
  |nil=>intro _;simp
  |cons r R ih=>intro h;rw [List.flatten_cons,AW,ih λl hl=>h l (Ab _ hl),h r AU,AV,Nat.succ_mul,Nat.add_comm]
 rw [this R v5];have:=Nat.mul_le_mul v4 v2
 lia
theorem c3N{R:List (List Nat)}(h:okP R):U1 [.tuple (R.map row)]=ξ (.ow (.txt (dN ni (plC R.flatten)))):=by
 have hl:=b8W h;obtain⟨nd,mem,ez⟩:=c23 R.flatten;have e0:AD ""=S []:=by decide+kernel
 have hu:(uL R.flatten).length<=9:=Nat.le_trans (a4M nd λx hx=>(mem x).mp hx) hl;have hs:(R.map (·.length)).sum=R.flatten.length:=(List.length_flatten).symm;have hj:W1 (.v (.str (AD ""))) (.v (.tuple (R.map row)))=φ (row R.flatten):=by
  rw [e0,a2H (sep:=[]) (rows:=R) rfl (by rw [hs];simp only [Al,Nat.mul_zero];lia),a8Z]
 have hc:a2K [.tuple (R.map row)]=ξ (.own ((uL R.flatten).map λx=>row [x])):=by
  refine m4 (n:=0) ?_;show k7 _ [φ (.tuple (R.map row))]=_;have:m1 a2g (m2 W1 (mC (.str (AD ""))) (a6 0)) [φ (.tuple (R.map row))]=ξ (.own ((uL R.flatten).map λx=>row [x])):=by
   refine one (K4 rfl (q:= .v (.tuple (R.map row))) rfl hj) ?_;show a2g (.v (.str (S R.flatten)))=_;rw [b5r,if_pos ⟨by rw [a5Y];lia,by have:=congrArg List.length ez;rw [AT,AT] at this;lia⟩,ez]
  unfold k7;rw [this]
  rfl
 obtain⟨q',lp⟩:=b33 (c:=φ (.tuple (R.map row))) (l:=R.flatten) (uL R.flatten) [] ζ (by simpa using nd) (by simp;lia)
 rw [BD] at lp;refine m4 (n:=3) ?_;show T3 [φ (.tuple (R.map row)),ζ,ζ,ζ]=_;unfold T3;refine(e8 (p:=row R.flatten) (K4 rfl (q:= .v (.tuple (R.map row))) rfl hj)).trans ?_;refine(B6 (ρ':=[φ (.tuple (R.map row)),φ (row R.flatten),ξ (.ow (.txt [])),ζ]) rfl).trans ?_;refine(W9 (ps:=(uL R.flatten).map λx=>row [x]) ?_ lp).trans rfl;unfold X3;rw [(J7 rfl).trans hc]
 rfl
theorem b4R{l:Cn}{k:Nat}(hk:k<=24)(hl:l.length<=9000):T9 [cv l,.int (k:Nat)]=ξ (.ow (.txt (dN ni (l.foldl (ptC id (· *k)) [])))):=by
 obtain⟨r,r',z⟩:=a4K (body:=U6) (is:=[3,4]) (st:=ptC id (· *k)) (sl:=λT q q'=>[ζ,φ (.int (k:Nat)),ξ (.ow (.txt (dN ni T))),q,q']) (λ_ _ _ _=>rfl) (c0d _ _) l [] ζ ζ (λe _ T hT=>by
  unfold U6;rw [a6y ni (A:=T) (w:=e.1) (a:=e.2*k) hT rfl rfl (by rw [mlv (x:=(e.2:Nat)) (k:=(k:Nat)) rfl rfl (by lia)];show ξ (d5.v (.int _))=ξ (d5.v (.int _));rw [Int.natCast_mul])]
  rfl) (by simp;lia)
 refine m4 (n:=3) ?_;show a0P [φ (cv l),φ (.int (k:Nat)),ζ,ζ,ζ]=_;unfold a0P;refine(B6 (ρ':=[φ (cv l),φ (.int (k:Nat)),ξ (.ow (.txt [])),ζ,ζ]) rfl).trans ?_;refine(B6 (ρ':=[ζ,φ (.int (k:Nat)),ξ (.ow (.txt (dN ni (l.foldl (ptC id (· *k)) [])))),r,r']) ?_).trans rfl;have tw:=a90 (i:=0) (ρ:=[φ (cv l),φ (.int (k:Nat)),ξ (.ow (.txt [])),ζ,ζ]) rfl (Z7 ni l);have kp:a0u [φ (cv l),φ (.int (k:Nat)),ξ (.ow (.txt [])),ζ,ζ]=[ζ,φ (.int (k:Nat)),ξ (.ow (.txt [])),ζ,ζ]:=by
  unfold a0u;show(if okd (cv l)=true then _ else _)::_=_
  rw [c35]
  rfl
 unfold b9B;rw [tw,AR,if_pos (b2g l),kp,b9p];exact z
theorem b6B{T:Cn}{i:Nat}{ek:M}{ρ:b7}{w:List Nat}(h:ρ[i]?=ξ (ξ (.ow (.txt (dN ni T)))))(h1:ek ρ=φ (row w)):a9g i ek (mC (.int 0)) ρ=φ (ni (g0 T w)):=by
 unfold a9g;rw [h1];show b3i i ρ (S w) (.int 0)=_;unfold b3i;rw [h];show ξ (d5.v ((D6 (dN ni T) [.inr (S w)]).getD (.int 0)))=_;rw [a15];unfold g0;cases t5 T w<;>rfl
theorem b6g{x y:M}{ρ:b7}{a b:Nat}(h1:x ρ=φ (ni a))(h2:y ρ=φ (ni b)):m2 y9 x y ρ=φ (ni (a+b)):=by
 refine(K4 h1 h2 (s:= .v (.int ((a:Nat)+(b:Nat)))) rfl).trans ?_;rw [<-Int.natCast_add]
theorem c2G{m:M}{ρ:b7}{l:Cn}(h:m ρ=ξ (.ow (.txt (dN ni l)))):mFz m ρ=φ (cv l):=by
 unfold mFz;rw [h]
 rfl
theorem c4C{x:M}{ρ:b7}{D:Γ}(h:x ρ=ξ (.ow (.txt D))):k7 x ρ=ξ (.rt (.ow (.txt D))):=by
 unfold k7;rw [h]
 rfl
theorem a4k{x:M}{ps:List PV}{D:Γ}(h:x (ps.map λq=>φ q)=ξ (.ow (.txt D))):m3 0 (k7 x) ps=ξ (.ow (.txt D)):=by
 refine m4 (n:=0) ?_;rw [Az,Am];exact c4C h
section
variable {RAb RAc RBe RDo RDy RTu RLa:RF}{K:NL u9}{C:NL Ct}{A:NL Cn}(G:Gd K C)(R:Rc C A)
include G R
theorem a8G{m:Mo}{d:u9}(ok:v7 m)(e:x6 K m=ξ d):(cnM A m).length<=576:=by
 have h1:=(a44 G R _ m d ok (AQ _) e).len;obtain⟨g1,g2⟩:=G.dm ok e;rw [<-g1] at g2;have:(l9 C m).n*(l9 C m).m<=24*24:=Nat.mul_le_mul g2.1.2 g2.2.2
 lia
theorem b6j{s0:Υ d5}:∀(ps:List Mo) (T:Cn) (q3 q4 q5:Υ d5),a1p ps->(∀p∈ps,∃d,x6 K p=ξ d)->(∀p∈ps,∀d,x6 K p=ξ d->a5f u8 u7 RBe RAb RAc RDo RTu RDy p [n5 p,kc A]=ξ (.ow (.txt (dN ni (cnM A p)))))->T.length+576*ps.length<=9000->
 ∃q3' q4' q5',y0 (C6 RAb RAc RBe RDo RDy RTu RLa) (j3 3) (ps.map n5) [s0,φ (kc A),ξ (.ow (.txt (dN ni T))),q3,q4,q5]=ξ (.nx [s0,φ (kc A),ξ (.ow (.txt (dN ni ((a58 A ps).foldl adL T)))),q3',q4',q5'])
 |[],T,q3,q4,q5,_,_,_,_=>⟨q3,q4,q5,by rw [a58];rfl⟩
 |p::ps,T,q3,q4,q5,ok,hz,ih,hl=>by
  rw [a1p] at ok;rw [AV] at hl;obtain⟨d,e⟩:=hz p AU;have hc:=a8G G R ok.1 e;have ha:=b6f (cnM A p) T;obtain⟨r,r',z⟩:=a4K (body:=P9 RAb RAc RBe RDo RDy RTu RLa) (is:=[4,5]) (st:=adC) (sl:=λT q q'=>[s0,φ (kc A),ξ (.ow (.txt (dN ni T))),φ (n5 p),q,q']) (λ_ _ _ _=>rfl) b1Y (cnM A p) T q4 q5 (λe _ T hT=>by
   unfold P9;rw [a6y ni (A:=T) (w:=e.1) (a:=g0 T e.1+e.2) hT rfl rfl (b6g (b6B (w:=e.1) rfl rfl) rfl)]
   rfl) (by lia)
  obtain⟨q3',q4',q5',y⟩:=b6j ps (adL T (cnM A p)) (φ (n5 p)) r r' ok.2 (λx hx=>hz x (Ab _ hx)) (λx hx=>ih x (Ab _ hx)) (by lia)
  refine⟨q3',q4',q5', ?_⟩;have hb:C6 RAb RAc RBe RDo RDy RTu RLa [s0,φ (kc A),ξ (.ow (.txt (dN ni T))),φ (n5 p),q4,q5]=ξ (.nx [s0,φ (kc A),ξ (.ow (.txt (dN ni (adL T (cnM A p))))),φ (n5 p),r,r']):=by
   unfold C6;exact b6w ((a4L (.inr rfl) (m:=p) (qs:=[kc A]) rfl rfl).trans (ih p AU d e)) z
  rw [AM,y0];show(C6 RAb RAc RBe RDo RDy RTu RLa [s0,φ (kc A),ξ (.ow (.txt (dN ni T))),φ (n5 p),q4,q5]).bind _=_;rw [hb,AR,a58];exact y
theorem b3E{ps:List Mo}{ds:List u9}(hp:ps.length<=6)(ok:a1p ps)(h:J3 K ps=ξ ds)(ih:∀p∈ps,∀d,x6 K p=ξ d->a5f u8 u7 RBe RAb RAc RDo RTu RDy p [n5 p,kc A]=ξ (.ow (.txt (dN ni (cnM A p))))):
 m3 4 (G7 RAb RAc RBe RDo RDy RTu RLa) [.tuple (ps.map n5),kc A]=ξ (.ow (.txt (dN ni ((a58 A ps).foldl adL [])))):=by
 obtain⟨q3,q4,q5,z⟩:=b6j (RAb:=RAb) (RAc:=RAc) (RBe:=RBe) (RDo:=RDo) (RDy:=RDy) (RTu:=RTu) (RLa:=RLa) G R (s0:=φ (.tuple (ps.map n5))) ps [] ζ ζ ζ ok (a3b h) ih (by simp;lia)
 refine m4 (n:=4) ?_
 show G7 RAb RAc RBe RDo RDy RTu RLa [φ (.tuple (ps.map n5)),φ (kc A),ζ,ζ,ζ,ζ]=_
 unfold G7
 refine(B6 (ρ':=[φ (.tuple (ps.map n5)),φ (kc A),ξ (.ow (.txt [])),ζ,ζ,ζ]) rfl).trans ?_
 exact(W9 (ps:=ps.map n5) rfl z).trans rfl
omit G R in
theorem b21{m p:Mo}{c:d5}{q:List (Υ d5)}(hm:(∃k,m= .across k p)\/(∃k,m= .down k p)\/(∃w,m= .turned w p)\/∃a b,m= .dyed a b p)(h:a5f u8 u7 RBe RAb RAc RDo RTu RDy p [n5 p,kc A]=ξ c):
 V2 (c4Q u8 u7 RBe RAb RAc RDo RTu RDy) (AD "counts") (m1 (D9 b9Y (AD "part")) (a6 0)) (a4 (a6 1) b5) (φ (n5 m)::φ (kc A)::q)=ξ c:=(a4L (.inr rfl) (qs:=[kc A]) (a3R (b6s hm)) rfl).trans h
end
def c53(n:Nat)(m:Mo):RF:=a5f u8 u7 (O5 n) (R0 n) (O4 n) (U2 n) (O6 n) (U3 n) m
theorem b7t{K:NL u9}{C:NL Ct}{A:NL Cn}(G:Gd K C)(R:Rc C A):∀(n:Nat) (m:Mo) (d:u9),v7 m->2*p9 m<=n->x6 K m=ξ d->c53 n m [n5 m,kc A]=ξ (.ow (.txt (dN ni (cnM A m)))):=by
 intro n
 induction n using Nat.strongRecOn with
 |ind n ih=>
  intro m d ok hd e;have hp:=T6 m;have hlen:=a8G G R ok e;obtain⟨n,rfl⟩:∃k,n=k+2:=⟨n - 2,by lia⟩
  cases m with
  |plain R=>
   ext u
   rw [cnM];exact a4k ((J7 (a3R (b6t _))).trans (c3N ok))
  |named w=>
   rw [x6] at e;rw [cnM] at hlen ⊢;have nm:∀ρ,m1 (D9 [AD "Named"] (AD "name")) (a6 0) (φ (n5 (.named w))::ρ)=φ (row w):=λρ=>a3R (b6r w);have tw:=a90 (i:=1) (ρ:=[φ (n5 (.named w)),φ (kc A)]) rfl (Z7 cv A);rcases R w with⟨h1,_⟩|⟨c,k,h1,h2,h3⟩
   ·rw [G.mt w,h1] at e;cases e
   ·rw [h2] at hlen ⊢;have g:a2S 1 (m1 (D9 [AD "Named"] (AD "name")) (a6 0)) [φ (n5 (.named w)),φ (kc A)]=φ (cv k):=by
     unfold a2S;rw [nm];show(tvw 1 _).bind _=_;rw [tw,AR,a15,h2]
     rfl
    refine a4k (one g ?_);unfold a3S;rw [a9Z (Z7 ni k),AR,if_pos (by rw [a2R,sizeLine_eq];exact Nat.le_trans hlen (by lia))]
    rfl
  |beside ps=>
   ext f
   ext r
   rw [cnM];exact a4k ((P5 (i0 (a3R (b07 ps)) rfl rfl)).trans hw)
  |above ps=>
   ext f
   ext r
   rw [cnM];exact a4k ((P5 (i0 (a3R (b06 ps)) rfl rfl)).trans hw)
  |across k p=>
   ext f
   ext p
   have hp':=ih (n+1) (by lia) p x ok.2.2 (by lia) e1
   have hl:=a8G G R ok.2.2 e1;rw [cnM];exact a4k ((P5 (i0 (q:= .v (cv (cnM A p))) (c2G (b21 (.inl ⟨k,rfl⟩) hp')) rfl (i0 (a3R (b3T k p)) rfl rfl))).trans (b4R ok.2.1 (by lia)))
  |down k p=>
   ext f
   ext p
   have hp':=ih (n+1) (by lia) p x ok.2.2 (by lia) e1
   have hl:=a8G G R ok.2.2 e1;rw [cnM];exact a4k ((P5 (i0 (q:= .v (cv (cnM A p))) (c2G (b21 (.inr (.inl ⟨k,rfl⟩)) hp')) rfl (i0 (a3R (b3S k p)) rfl rfl))).trans (b4R ok.2.1 (by lia)))
  |turned w p=>
   ext f
   cases e1:x6 K p with
   |none=>rw [e1] at e;cases e
   |some x=>
    have hp':=ih (n+1) (by lia) p x ok.2 (by lia) e1
    rw [cnM];exact a4k (b21 (.inr (.inr (.inl ⟨w,rfl⟩))) hp')
  |dyed a b p=>
   ext f
   have hp':=ih (n+1) (by lia) p d ok.2.2 (by lia) e
   have hl:=a8G G R ok.2.2 e;have hs:=(a44 G R _ p d ok.2.2 (AQ _) e).sg;rw [cnM];obtain⟨r,r',z⟩:=a4K (body:=X2 (R0 (n+1)) (O4 (n+1)) (O5 (n+1)) (U2 (n+1)) (U3 (n+1)) (O6 (n+1)) (M0 (n+1))) (is:=[3,4]) (st:=ptC (List.map (ex a b)) id) (sl:=λT q q'=>[φ (n5 (.dyed a b p)),φ (kc A),ξ (.ow (.txt (dN ni T))),q,q']) (λ_ _ _ _=>rfl) (c0d _ _) (cnM A p) [] ζ ζ (λx hx T hT=>by
    obtain⟨c,hc⟩:=hs x hx;unfold X2;rw [a6y ni (A:=T) (w:=x.1.map (ex a b)) (a:=x.2) hT rfl (by rw [hc];exact(b8C rfl (a3R (c3v a b p)) (a3R (b8V a b p))).trans (b2e c a b)) rfl]
    rfl) (by simp;lia)
   refine m4 (n:=3) ?_;show Z0 _ _ _ _ _ _ _ [φ (n5 (.dyed a b p)),φ (kc A),ζ,ζ,ζ]=_;unfold Z0;refine(B6 (ρ':=[φ (n5 (.dyed a b p)),φ (kc A),ξ (.ow (.txt [])),ζ,ζ]) rfl).trans ?_;exact(B6 (b6w (b21 (.inr (.inr (.inr ⟨a,b,rfl⟩))) hp') z)).trans rfl
section
variable {α:Type}
def ptN(val:NL α->Mo->α)(w:List Nat)(m:Mo):Nat->NL α->NL α
 |0,A=>A
 |n+1,A=>ptN val w m n (E1 A w (val A m))
def ptR(val:NL α->Mo->α):List Rw->NL α->NL α
 |[],A=>A
 |r::rs,A=>ptR val rs (ptN val r.nm r.mo r.cnt A)
structure Stp(f:α->PV)(val:NL α->Mo->α)(Rl:NL u9->NL α->Prop):Prop where
 put:∀{K A m d w},Rl K A->v7 m->x6 K m=ξ d->Rl (E1 K w d) (E1 A w (val A m))
 inn:∀{K A w},Rl K A->(t5 K w).isSome=(t5 A w).isSome
theorem ix1(f:Mo->PV)(r:Rw){x:M}{ρ:b7}(h:x ρ=φ (G5 f r)):m2 j7 x (R8 (mC (.int 1))) ρ=φ (f r.mo):=by
 cases r with
 |lt w m=>exact a5I (ps:=[.str (AD "let"),row w]) h
 |ag k w m=>exact a5I (ps:=[.str (AD "again"),.int (k:Nat),row w]) h
theorem ix2(f:Mo->PV)(r:Rw){x:M}{ρ:b7}(h:x ρ=φ (G5 f r)):m2 j7 x (R8 (mC (.int 2))) ρ=φ (row r.nm):=by
 cases r with
 |lt w m=>exact K4 (q:= .v (.int (-2))) h rfl rfl
 |ag k w m=>exact K4 (q:= .v (.int (-2))) h rfl rfl
theorem b6O(f:Mo->PV)(r:Rw){x:M}{ρ:b7}(h:x ρ=φ (G5 f r)):u5 (m2 gNe (m2 j7 x (mC (.int 0))) (mC (.str (AD "knot")))) ρ=ξ true:=by
 cases r with
 |lt w m=>exact J5 (r:= .v (.str (AD "let"))) (K4 (q:= .v (.int 0)) h rfl rfl) rfl rfl
 |ag k w m=>exact J5 (r:= .v (.str (AD "again"))) (K4 (q:= .v (.int 0)) h rfl rfl) rfl rfl
theorem a85(f:Mo->PV)(r:Rw){x:M}{ρ:b7}(h:x ρ=φ (G5 f r)):u5 (m2 D4 (m2 j7 x (mC (.int 0))) (mC (.str (AD "again")))) ρ=ξ r.isA:=by
 cases r with
 |lt w m=>exact J5 (r:= .v (.str (AD "let"))) (K4 (q:= .v (.int 0)) h rfl rfl) rfl rfl
 |ag k w m=>exact J5 (r:= .v (.str (AD "again"))) (K4 (q:= .v (.int 0)) h rfl rfl) rfl rfl
theorem c0E(r:Rw):a04 [G5 n5 r]=φ (.int (r.cnt:Nat)):=by
 have t:=a85 n5 r (x:=a6 0) (ρ:=[φ (G5 n5 r)]) rfl;refine m4 (n:=0) ?_;show a5u [φ (G5 n5 r)]=_;unfold a5u;cases r with
 |lt w m=>exact(b0 t).trans rfl
 |ag k w m=>exact j8 t rfl
theorem c0h(f:α->PV){A:NL α}(hl:A.length<=200){i:Nat}{w:List Nat}{a:α}{ek ev:M}{ρ:b7}(h:ρ[i]?=ξ (ξ (.ow (.txt (dN f A)))))(h1:ek ρ=φ (row w))(h2:ev ρ=φ (f a)):V3 i ek ev ρ=ξ (.nx (ρ.set i (ξ (.ow (.txt (dN f (E1 A w a))))))):=by
 ext ad
end
section
variable {α:Type}{f:α->PV}{val:NL α->Mo->α}{Rl:NL u9->NL α->Prop}(Tp:Stp f val Rl){x:Str}{g:RF}(hx:[(AD "size_step",N9),(AD "counts_step",G0)].lookup x=ξ g)
 (hg:∀{K A m d},Rl K A->v7 m->p9 m<=8->x6 K m=ξ d->∀i:Int,∃r,g [n5 m,tv (dN f A),.int i]=ξ r/\r.noK=true/\r.toValT=ξ (f (val A m)))
abbrev goS(s0:Υ d5)(x:Str)(f:α->PV)(A:NL α)(T:List PV)(s4 s5 q6 q7:Υ d5):b7:=[s0,φ (a2d x),ξ (.ow (.txt (dN f A))),ξ (.own T),s4,s5,q6,q7]
include Tp hx hg
theorem b1e{K:NL u9}{A:NL α}{m:Mo}{d:u9}(hR:Rl K A)(ok:v7 m)(dp:p9 m<=8)(e:x6 K m=ξ d){s0 q6 q7:Υ d5}{T:List PV}{i:Int}{rv:PV}(hm:∀ρ:b7,ρ[5]?=ξ (φ rv)->m2 j7 (a6 5) (R8 (mC (.int 1))) ρ=φ (n5 m)):
 mFz (R7 2 (a38 [(AD "size_step",N9),(AD "counts_step",G0)] 1 (a4 (m2 j7 (a6 5) (R8 (mC (.int 1)))) (a4 (a6 2) (a4 (a6 4) b5))))) (goS s0 x f A T (φ (.int i)) (φ rv) q6 q7)=φ (f (val A m)):=by
 obtain⟨r,e1,e2,e3⟩:=hg hR ok dp e i
 have h:R7 2 (a38 [(AD "size_step",N9),(AD "counts_step",G0)] 1 (a4 (m2 j7 (a6 5) (R8 (mC (.int 1)))) (a4 (a6 2) (a4 (a6 4) b5)))) (goS s0 x f A T (φ (.int i)) (φ rv) q6 q7)=ξ r:=by
  refine b2v rfl ?_ e2;refine(b3C (qs:=[n5 m,tv (dN f A),.int i]) rfl hx ?_).trans e1;exact i0 (hm _ rfl) rfl (i0 (q:= .v (tv (dN f A))) rfl rfl (i0 (q:= .v (.int i)) rfl rfl rfl))
 unfold mFz
 rw [h]
 show r.toValT.map d5.v=_
 rw [e3]
 rfl
theorem b6C{r:Rw}(ok:v7 r.mo)(dp:p9 r.mo<=8){s0:Υ d5}{i:Int}:∀(n:Nat) (is:List PV),is.length=n->∀(K K':NL u9) (A:NL α) (T:List PV) (q6 q7:Υ d5),itK r.nm r.mo n K=ξ K'->Rl K A->A.length+n<=200->T.length+n<=200->
 ∃T' q6' q7',T'.length=T.length+n/\Rl K' (ptN val r.nm r.mo n A)/\(ptN val r.nm r.mo n A).length<=A.length+n/\
  y0 w6 (j3 6) is (goS s0 x f A T (φ (.int i)) (φ (G5 n5 r)) q6 q7)=ξ (.nx (goS s0 x f (ptN val r.nm r.mo n A) T' (φ (.int i)) (φ (G5 n5 r)) q6' q7'))
 |0,[],_,K,K',A,T,q6,q7,h,hR,_,_=>by cases h;exact⟨T,q6,q7,rfl,hR,AQ _,rfl⟩
 |n+1,j::is,hi,K,K',A,T,q6,q7,h,hR,hA,hT=>by
  rw [itK] at h;obtain⟨d,e,h⟩:=bind_some h;have hp:=a2n A r.nm (val A r.mo);obtain⟨T',q6',q7',z1,z2,z3,z4⟩:=b6C ok dp (s0:=s0) (i:=i) n is (by simpa using hi) (E1 K r.nm d) K' (E1 A r.nm (val A r.mo)) (T++[f (val A r.mo)]) (φ j) (φ (f (val A r.mo))) h (Tp.put hR ok e) (by lia) (by rw [AW,List.length_singleton];lia)
  rw [AW,List.length_singleton] at z1;refine⟨T',q6',q7',by lia,z2,by rw [ptN];lia, ?_⟩
  have hb:w6 (goS s0 x f A T (φ (.int i)) (φ (G5 n5 r)) (φ j) q7)=ξ (.nx (goS s0 x f (E1 A r.nm (val A r.mo)) (T++[f (val A r.mo)]) (φ (.int i)) (φ (G5 n5 r)) (φ j) (φ (f (val A r.mo))))):=by
   unfold w6;refine(e8 (b1e Tp hx hg hR ok dp e λρ h5=>ix1 n5 r (by unfold a6;rw [h5]))).trans ?_
   refine(B6 (D0 (r:= .v (f (val A r.mo))) (p:=f (val A r.mo)) (ps:=T) rfl rfl rfl (by lia))).trans ?_
   refine(a3j (b6O n5 r rfl)).trans ?_;rw [c0h f (A:=A) (w:=r.nm) (a:=val A r.mo) (by lia) rfl (ix2 n5 r rfl) rfl]
   rfl
  rw [y0];show(w6 (goS s0 x f A T (φ (.int i)) (φ (G5 n5 r)) (φ j) q7)).bind _=_;rw [hb,AR];exact z4
theorem b9h{M:Nat}{r:Rw}{K K':NL u9}(o:OkR M K r K'){s0:Υ d5}{i:Int}{A:NL α}(hR:Rl K A){T:List PV}(hA:A.length<=190)(hT:T.length<=190)(q6 q7:Υ d5):∃T' q6' q7',T'.length<=T.length+3/\Rl K' (ptN val r.nm r.mo r.cnt A)/\(ptN val r.nm r.mo r.cnt A).length<=A.length+3/\
 w8 (goS s0 x f A T (φ (.int i)) (φ (G5 n5 r)) q6 q7)=ξ (.nx (goS s0 x f (ptN val r.nm r.mo r.cnt A) T' (φ (.int i)) (φ (G5 n5 r)) q6' q7')):=by
 have c3:=o.c3
 obtain⟨T',q6',q7',z1,z2,z3,z4⟩:=b6C Tp hx hg o.ok o.dp (s0:=s0) (i:=i) r.cnt ((AZ r.cnt).map λk=> .int (k:Nat)) (by simp) K K' A T q6 q7 o.it hR (by lia) (by lia)
 refine⟨T',q6',q7',by lia,z2,by lia, ?_⟩
 have t:P7 (u5 (m2 D4 (m2 j7 (a6 5) (mC (.int 0))) (mC (.str (AD "again"))))) (u5 (b0v true 2 (m2 j7 (a6 5) (mC (.int 2))))) (goS s0 x f A T (φ (.int i)) (φ (G5 n5 r)) q6 q7)=ξ false:=by
  have t1:=a85 n5 r (x:=a6 5) (ρ:=goS s0 x f A T (φ (.int i)) (φ (G5 n5 r)) q6 q7) rfl;cases r with
  |lt w m=>
   unfold P7;rw [t1]
   rfl
  |ag k w m=>
   have hi:=Tp.inn (w:=w) hR;obtain⟨d,hd⟩:=a9h (o.inn rfl);rw [show t5 K w=ξ d from hd] at hi;have t2:u5 (b0v true 2 (m2 j7 (a6 5) (mC (.int 2)))) (goS s0 x f A T (φ (.int i)) (φ (G5 n5 (.ag k w m))) q6 q7)=ξ false:=by
    show ξ (!(D6 (dN f A) [.inr (S w)]).isSome)=_;rw [a15];cases h:t5 A w with
    |none=>rw [h] at hi;cases hi
    |some a=>rfl
   exact c2B t1 t2
 unfold w8
 refine(b0 t).trans ?_
 have er:M1 (a4 (j2 a04 (a4 (a6 5) b5)) b5) (goS s0 x f A T (φ (.int i)) (φ (G5 n5 r)) q6 q7)=ξ ((AZ r.cnt).map λk=> .int (k:Nat)):=K9 ((J7 rfl).trans (c0E r)) (by lia)
 unfold M7
 rw [er]
 exact z4
theorem b7I{K:NL u9}{A:NL α}{m:Mo}{d:u9}(hR:Rl K A)(ok:v7 m)(dp:p9 m<=8)(e:x6 K m=ξ d){s0:Υ d5}{T:List PV}(hT:T.length<=190){i:Int}(q6 q7:Υ d5):∃q6' q7',
 w8 (goS s0 x f A T (φ (.int i)) (φ (kn n5 m)) q6 q7)=ξ (.nx (goS s0 x f A (T++[f (val A m)]) (φ (.int i)) (φ (kn n5 m)) q6' q7')):=by
 refine⟨φ (.int 0),φ (f (val A m)), ?_⟩
 have hb:w6 (goS s0 x f A T (φ (.int i)) (φ (kn n5 m)) (φ (.int 0)) q7)=ξ (.nx (goS s0 x f A (T++[f (val A m)]) (φ (.int i)) (φ (kn n5 m)) (φ (.int 0)) (φ (f (val A m))))):=by
  unfold w6;refine(e8 (b1e Tp hx hg hR ok dp e λρ h5=>a5I (ps:=[.str (AD "knot")]) (by unfold a6;rw [h5];rfl))).trans ?_
  refine(B6 (D0 (r:= .v (f (val A m))) (p:=f (val A m)) (ps:=T) rfl rfl rfl (by lia))).trans ?_
  rfl
 have er:M1 (a4 (j2 a04 (a4 (a6 5) b5)) b5) (goS s0 x f A T (φ (.int i)) (φ (kn n5 m)) q6 q7)=ξ ((AZ 1).map λk=> .int (k:Nat)):=K9 ((J7 rfl).trans (m4 (n:=0) rfl)) (by lia)
 unfold w8
 refine(b0 rfl).trans ?_
 unfold M7
 rw [er]
 show y0 w6 (j3 6) [.int 0] _=_
 rw [y0]
 show(w6 (goS s0 x f A T (φ (.int i)) (φ (kn n5 m)) (φ (.int 0)) q7)).bind _=_
 rw [hb,AR]
 rfl
theorem b1f{M:Nat}{m:Mo}{d:u9}(ok:v7 m)(dp:p9 m<=8){K':NL u9}(e:x6 K' m=ξ d){s0:Υ d5}:∀(rs:List Rw) (k:Nat) (K:NL u9) (A:NL α) (T:List PV) (q4 q5 q6 q7:Υ d5),Chn M K rs K'->Rl K A->A.length+3*rs.length<=190->T.length+3*rs.length<=190->
 ∃T' q4' q5' q6' q7',y0 w8 (a5n [4,5]) (((rs.map (G5 n5)++[kn n5 m]).zipIdx k).map λx=> .tuple [.int ((x.2:Nat):Int),x.1]) (goS s0 x f A T q4 q5 q6 q7)=ξ (.nx (goS s0 x f (ptR val rs A) (T'++[f (val (ptR val rs A) m)]) q4' q5' q6' q7'))
 |[],k,K,A,T,q4,q5,q6,q7,h,hR,hA,hT=>by
  cases h;obtain⟨q6',q7',z⟩:=b7I Tp hx hg hR ok dp e (s0:=s0) (T:=T) (by simp at hT;lia) (i:=(k:Nat)) q6 q7
  refine⟨T,φ (.int (k:Nat)),φ (kn n5 m),q6',q7', ?_⟩;show y0 w8 (a5n [4,5]) [.tuple [.int ((k:Nat):Int),kn n5 m]] _=_;rw [y0];show(w8 (goS s0 x f A T (φ (.int (k:Nat))) (φ (kn n5 m)) q6 q7)).bind _=_;rw [z,AR]
  rfl
 |r::rs,k,K,A,T,q4,q5,q6,q7,⟨K1,o,h⟩,hR,hA,hT=>by
  rw [AV] at hA hT;obtain⟨T1,p6,p7,y1,y2,y3,y4⟩:=b9h Tp hx hg o (s0:=s0) (i:=(k:Nat)) hR (T:=T) (by lia) (by lia) q6 q7
  obtain⟨T',q4',q5',q6',q7',z⟩:=b1f ok dp e (s0:=s0) rs (k+1) K1 _ T1 (φ (.int (k:Nat))) (φ (G5 n5 r)) p6 p7 h y2 (by lia) (by lia)
  refine⟨T',q4',q5',q6',q7', ?_⟩;rw [AM,Av,List.zipIdx_cons,AM,y0];show(w8 (goS s0 x f A T (φ (.int (k:Nat))) (φ (G5 n5 r)) q6 q7)).bind _=_;rw [y4,AR];exact z
theorem b6D{M:Nat}{m:Mo}{d:u9}(ok:v7 m)(dp:p9 m<=8){K':NL u9}(e:x6 K' m=ξ d){rs:List Rw}(hr:rs.length<=20)(h:Chn M [] rs K')(h0:Rl [] []):∃T':List PV,U0 [.list (rs.map (G5 n5)++[kn n5 m]),a2d x]=ξ (.own (T'++[f (val (ptR val rs []) m)])):=by
 obtain⟨T',q4',q5',q6',q7',z⟩:=b1f Tp hx hg ok dp e (s0:=φ (.list (rs.map (G5 n5)++[kn n5 m]))) rs 0 [] [] [] ζ ζ ζ ζ h h0 (by simp;lia) (by simp;lia)
 refine⟨T',m4 (n:=6) ?_⟩;show a0Q [φ (.list (rs.map (G5 n5)++[kn n5 m])),φ (a2d x),ζ,ζ,ζ,ζ,ζ,ζ]=_;unfold a0Q;refine(B6 (ρ':=[φ (.list (rs.map (G5 n5)++[kn n5 m])),φ (a2d x),ξ (.ow (.txt [])),ζ,ζ,ζ,ζ,ζ]) rfl).trans ?_;refine(P0 (l:=[]) rfl).trans ?_;exact(W9 (ps:=a0y (rs.map (G5 n5)++[kn n5 m])) rfl z).trans rfl
end
theorem b6P:∀l:List (List Nat),nkL (l.map row)=true
 |[]=>rfl
 |r::l=>by rw [AM,nkL,b6P l];rfl
theorem b9M(c:Ct):nk (clv c)=true:=by
 have e:clv c= .tuple (((AZ c.n).map λi=>rw_ c.m (c.f i)).map row):=by
  unfold clv cl;rw [Aj]
  rfl
 rw [e];exact b6P _
theorem c0B:Stp PR (λK m=>(x6 K m).getD (0,0)) λK A=>K=A where
 put:=λ {K A m d w} h _ e=>by
  subst h;show E1 K w d=E1 K w ((x6 K m).getD (0,0));rw [e]
  rfl
 inn:=λh=>by rw [h]
theorem a7s:Stp clv l9 Gd where
 put:=λ {K A m d w} G ok e=>by
  obtain⟨g1,g2⟩:=G.dm ok e;refine⟨G.mt.put w g1,λv d' h=> ?_,λv d' h=> ?_⟩
  ·rw [a1a] at h;split at h
   ·cases h;exact⟨g2.1.1,g2.2.1⟩
   ·exact G.pos v d' h
  ·rw [a1a] at h;split at h
   ·cases h;exact⟨g2.1.2,g2.2.2⟩
   ·exact G.le v d' h
 inn:=λ {K A w} G=>by
  rw [G.mt w];cases t5 A w<;>rfl
theorem gd0:Gd [] []:=⟨λ_=>rfl,(λw d h=>nomatch h),(λw d h=>nomatch h)⟩
theorem b3e{K A:NL u9}{m:Mo}{d:u9}(h:K=A)(ok:v7 m)(dp:p9 m<=8)(e:x6 K m=ξ d)(i:Int):∃r,N9 [n5 m,tv (dN PR A),.int i]=ξ r/\r.noK=true/\r.toValT=ξ (PR ((x6 A m).getD (0,0))):=by
 subst h;rw [e];exact⟨_,b4F ((a4L (.inl rfl) (m:=m) (qs:=[kd K,.int i]) rfl rfl).trans (c2k i 20 m d ok (by lia) e)),rfl,rfl⟩
theorem c2S:∀l:Cn,nkD (dN ni l)=true
 |[]=>rfl
 |e::l=>by show(true && nkD (dN ni l))=true;rw [c2S l];rfl
def Rk(K:NL u9)(A:NL Cn):Prop:=∃C,Gd K C/\Rc C A
theorem a8I{K:NL u9}{A:NL Cn}{m:Mo}{d:u9}(h:Rk K A)(ok:v7 m)(dp:p9 m<=8)(e:x6 K m=ξ d)(i:Int):∃r,G0 [n5 m,tv (dN cv A),.int i]=ξ r/\r.noK=true/\r.toValT=ξ (cv (cnM A m)):=by
 obtain⟨C,G,R⟩:=h;exact⟨_,a4k ((a4L (.inr rfl) (m:=m) (qs:=[kc A]) rfl rfl).trans (b7t G R 20 m d ok (by lia) e)),c2S _,rfl⟩
theorem b55:Stp cv cnM Rk where
 put:=λ {K A m d w} ⟨C,G,R⟩ ok e=>⟨E1 C w (l9 C m),a7s.put G ok e,R.put (a44 G R _ m d ok (AQ _) e) w⟩
 inn:=λ {K A w} ⟨C,G,R⟩=>by
  rw [G.mt w];rcases R w with⟨h1,h2⟩|⟨c,k,h1,h2,_⟩<;>rw [h1,h2]<;>rfl
theorem rc0:Rc [] []:=λ_=> .inl ⟨rfl,rfl⟩
theorem b6W{w:List Nat}{m:Mo}(ok:v7 m):∀(n:Nat) (K K':NL u9) (C:NL Ct) (A:NL Cn),itK w m n K=ξ K'->Gd K C->Rc C A->Gd K' (ptN l9 w m n C)/\Rc (ptN l9 w m n C) (ptN cnM w m n A)
 |0,K,K',C,A,h,G,R=>by cases h;exact⟨G,R⟩
 |n+1,K,K',C,A,h,G,R=>by
  rw [itK] at h;obtain⟨d,e,h⟩:=bind_some h;exact b6W ok n _ K' _ _ h (a7s.put G ok e) (R.put (a44 G R _ m d ok (AQ _) e) w)
theorem b6X{M:Nat}:∀(rs:List Rw) (K K':NL u9) (C:NL Ct) (A:NL Cn),Chn M K rs K'->Gd K C->Rc C A->Gd K' (ptR l9 rs C)/\Rc (ptR l9 rs C) (ptR cnM rs A)
 |[],K,K',C,A,h,G,R=>by cases h;exact⟨G,R⟩
 |r::rs,K,K',C,A,⟨K1,o,h⟩,G,R=>by
  obtain⟨z1,z2⟩:=b6W o.ok r.cnt K K1 C A o.it G R;exact b6X rs K1 K' _ _ h z1 z2
theorem b2t{r:d5}{ps:List PV}{p:PV}(h:r= .own (ps++[p])\/r= .bor (ps++[p])):j7 r (.v (.int (-1)))=φ p:=by
 have:L2.atI (ps++[p]) (-1)=ξ p:=by
  unfold L2.atI;have:ixN (ps++[p]).length (-1)=ξ ps.length:=by
   unfold ixN;rw [AW,List.length_singleton];simp
   try lia
  rw [this];simp
 rcases h with rfl|rfl
 ·show(L2.atI (ps++[p]) (-1)).map d5.v=_;rw [this]
  rfl
 ·show(L2.atI (ps++[p]) (-1)).map d5.v=_;rw [this]
  rfl
theorem b5i{M:Nat}{m:Mo}{d:u9}(ok:v7 m)(dp:p9 m<=8){K:NL u9}(e:x6 K m=ξ d){rs:List Rw}(hr:rs.length<=20)(h:Chn M [] rs K):a2h [.list (rs.map (G5 n5)++[kn n5 m])]=φ (cv (cnM (ptR cnM rs []) m)):=by
 obtain⟨T1,e1⟩:=b6D c0B (x:=AD "size_step") (g:=N9) rfl b3e ok dp e hr h rfl;obtain⟨T2,e2⟩:=b6D b55 (x:=AD "counts_step") (g:=G0) rfl a8I ok dp e hr h ⟨[],gd0,rc0⟩;have es:b2m [.list (rs.map (G5 n5)++[kn n5 m])]=ξ (.own (T1++[PR ((x6 (ptR (λK m=>(x6 K m).getD (0,0)) rs []) m).getD (0,0))])):=by
  refine m4 (n:=0) ?_;show k7 _ [φ (.list (rs.map (G5 n5)++[kn n5 m]))]=_;unfold k7;rw [(N2 rfl rfl).trans e1]
  rfl
 have el:a3V [.list (rs.map (G5 n5)++[kn n5 m]),a2d (AD "counts_step")]=φ (cv (cnM (ptR cnM rs []) m)):=by
  refine m4 (n:=0) ?_;show a3x [φ (.list (rs.map (G5 n5)++[kn n5 m])),φ (a2d (AD "counts_step"))]=_;unfold a3x;refine(c3u ((J7 rfl).trans es)).trans (L7 ?_);exact K4 ((N2 rfl rfl).trans e2) (q:= .v (.int (-1))) rfl (b2t (.inl rfl))
 exact b4F ((N2 rfl rfl).trans el)
abbrev lwS(s0:Υ d5)(A:NL Ct)(T:List PV)(s3 s4 q5:Υ d5):b7:=[s0,ξ (.ow (.txt (dN clv A))),ξ (.own T),s3,s4,q5]
theorem c2O{r:Rw}(ok:v7 r.mo)(dp:p9 r.mo<=8){s0 s4:Υ d5}:∀(n:Nat) (is:List PV),is.length=n->∀(K K':NL u9) (A:NL Ct) (T:List PV) (q5:Υ d5),itK r.nm r.mo n K=ξ K'->Gd K A->A.length+n<=200->T.length+n<=200->
 ∃T' q5',T'.length=T.length+n/\Gd K' (ptN l9 r.nm r.mo n A)/\(ptN l9 r.nm r.mo n A).length<=A.length+n/\
  y0 z7 (j3 5) is (lwS s0 A T (φ (G5 j4 r)) s4 q5)=ξ (.nx (lwS s0 (ptN l9 r.nm r.mo n A) T' (φ (G5 j4 r)) s4 q5'))
 |0,[],_,K,K',A,T,q5,h,hR,_,_=>by cases h;exact⟨T,q5,rfl,hR,AQ _,rfl⟩
 |n+1,j::is,hi,K,K',A,T,q5,h,hR,hA,hT=>by
  rw [itK] at h;obtain⟨d,e,h⟩:=bind_some h;have hp:=a2n A r.nm (l9 A r.mo);obtain⟨T',q5',z1,z2,z3,z4⟩:=c2O ok dp (s0:=s0) (s4:=s4) n is (by simpa using hi) (E1 K r.nm d) K' (E1 A r.nm (l9 A r.mo)) (T++[clv (l9 A r.mo)]) (φ j) h (a7s.put hR ok e) (by lia) (by rw [AW,List.length_singleton];lia)
  rw [AW,List.length_singleton] at z1;refine⟨T',q5',by lia,z2,by rw [ptN];lia, ?_⟩
  have hb:z7 (lwS s0 A T (φ (G5 j4 r)) s4 (φ j))=ξ (.nx (lwS s0 (E1 A r.nm (l9 A r.mo)) (T++[clv (l9 A r.mo)]) (φ (G5 j4 r)) s4 (φ j))):=by
   unfold z7;refine(B6 (D0 (r:= .v (clv (l9 A r.mo))) (p:=clv (l9 A r.mo)) (ps:=T) (a4E rfl (ix1 j4 r rfl) (a6p hR ok dp e) (b9M _)) rfl rfl (by lia))).trans ?_
   refine(a3j (b6O j4 r rfl)).trans ?_;rw [c0h clv (A:=A) (w:=r.nm) (a:=l9 A r.mo) (by lia) rfl (ix2 j4 r rfl) (K4 (r:= .bor (T++[clv (l9 A r.mo)])) rfl rfl (b2t (.inr rfl)))]
   rfl
  rw [y0];show(z7 (lwS s0 A T (φ (G5 j4 r)) s4 (φ j))).bind _=_;rw [hb,AR];exact z4
theorem c3W{M:Nat}{r:Rw}{K K':NL u9}(o:OkR M K r K'){s0:Υ d5}{A:NL Ct}(hR:Gd K A){T:List PV}(hA:A.length<=190)(hT:T.length<=190)(q4 q5:Υ d5):∃T' q4' q5',T'.length<=T.length+3/\Gd K' (ptN l9 r.nm r.mo r.cnt A)/\(ptN l9 r.nm r.mo r.cnt A).length<=A.length+3/\
 z8 (lwS s0 A T (φ (G5 j4 r)) q4 q5)=ξ (.nx (lwS s0 (ptN l9 r.nm r.mo r.cnt A) T' (φ (G5 j4 r)) q4' q5')):=by
 have c3:=o.c3
 obtain⟨T',q5',z1,z2,z3,z4⟩:=c2O o.ok o.dp (s0:=s0) (s4:=φ (.int (r.cnt:Nat))) r.cnt ((AZ r.cnt).map λk=> .int (k:Nat)) (by simp) K K' A T q5 o.it hR (by lia) (by lia)
 refine⟨T',φ (.int (r.cnt:Nat)),q5',by lia,z2,by lia, ?_⟩
 have t1:=a85 j4 r (x:=a6 3) (ρ:=lwS s0 A T (φ (G5 j4 r)) q4 q5) rfl
 have t:mIf (u5 (m2 D4 (m2 j7 (a6 3) (mC (.int 0))) (mC (.str (AD "again"))))) (m2 j7 (a6 3) (mC (.int 1))) (mC (.int 1)) (lwS s0 A T (φ (G5 j4 r)) q4 q5)=φ (.int (r.cnt:Nat)):=by
  cases r with
  |lt w m=>exact(c2Q t1).trans rfl
  |ag k w m=>exact(b9C t1).trans rfl
 unfold z8
 refine(e8 t).trans ?_
 have er:M1 (a4 (a6 4) b5) (lwS s0 A T (φ (G5 j4 r)) (φ (.int (r.cnt:Nat))) q5)=ξ ((AZ r.cnt).map λk=> .int (k:Nat)):=K9 rfl (by lia)
 show M7 _ _ _ (lwS s0 A T (φ (G5 j4 r)) (φ (.int (r.cnt:Nat))) q5)=_
 unfold M7
 rw [er]
 exact z4
theorem c1w{K:NL u9}{A:NL Ct}{m:Mo}{d:u9}(hR:Gd K A)(ok:v7 m)(dp:p9 m<=8)(e:x6 K m=ξ d){s0:Υ d5}{T:List PV}(hT:T.length<=190)(q4 q5:Υ d5):∃q4' q5',
 z8 (lwS s0 A T (φ (kn j4 m)) q4 q5)=ξ (.nx (lwS s0 A (T++[clv (l9 A m)]) (φ (kn j4 m)) q4' q5')):=by
 refine⟨φ (.int 1),φ (.int 0), ?_⟩
 have hb:z7 (lwS s0 A T (φ (kn j4 m)) (φ (.int 1)) (φ (.int 0)))=ξ (.nx (lwS s0 A (T++[clv (l9 A m)]) (φ (kn j4 m)) (φ (.int 1)) (φ (.int 0)))):=by
  unfold z7;refine(B6 (D0 (r:= .v (clv (l9 A m))) (p:=clv (l9 A m)) (ps:=T) (a4E rfl (a5I (ps:=[.str (AD "knot")]) rfl) (a6p hR ok dp e) (b9M _)) rfl rfl (by lia))).trans ?_
  rfl
 have er:M1 (a4 (a6 4) b5) (lwS s0 A T (φ (kn j4 m)) (φ (.int 1)) q5)=ξ ((AZ 1).map λk=> .int (k:Nat)):=K9 rfl (by lia)
 unfold z8
 refine(e8 (p:= .int 1) rfl).trans ?_
 show M7 _ _ _ (lwS s0 A T (φ (kn j4 m)) (φ (.int 1)) q5)=_
 unfold M7
 rw [er]
 show y0 z7 (j3 5) [.int 0] _=_
 rw [y0]
 show(z7 (lwS s0 A T (φ (kn j4 m)) (φ (.int 1)) (φ (.int 0)))).bind _=_
 rw [hb,AR]
 rfl
theorem b6J{M:Nat}{m:Mo}{d:u9}(ok:v7 m)(dp:p9 m<=8){K':NL u9}(e:x6 K' m=ξ d){s0:Υ d5}:∀(rs:List Rw) (K:NL u9) (A:NL Ct) (T:List PV) (q3 q4 q5:Υ d5),Chn M K rs K'->Gd K A->A.length+3*rs.length<=190->T.length+3*rs.length<=190->
 ∃T' q3' q4' q5',y0 z8 (j3 3) (rs.map (G5 j4)++[kn j4 m]) (lwS s0 A T q3 q4 q5)=ξ (.nx (lwS s0 (ptR l9 rs A) (T'++[clv (l9 (ptR l9 rs A) m)]) q3' q4' q5'))
 |[],K,A,T,q3,q4,q5,h,hR,hA,hT=>by
  cases h;obtain⟨q4',q5',z⟩:=c1w hR ok dp e (s0:=s0) (T:=T) (by simp at hT;lia) q4 q5
  refine⟨T,φ (kn j4 m),q4',q5', ?_⟩;show y0 z8 (j3 3) [kn j4 m] _=_;rw [y0];show(z8 (lwS s0 A T (φ (kn j4 m)) q4 q5)).bind _=_;rw [z,AR]
  rfl
 |r::rs,K,A,T,q3,q4,q5,⟨K1,o,h⟩,hR,hA,hT=>by
  rw [AV] at hA hT;obtain⟨T1,p4,p5,y1,y2,y3,y4⟩:=c3W o (s0:=s0) hR (T:=T) (by lia) (by lia) q4 q5
  obtain⟨T',q3',q4',q5',z⟩:=b6J ok dp e (s0:=s0) rs K1 _ T1 (φ (G5 j4 r)) p4 p5 h y2 (by lia) (by lia)
  refine⟨T',q3',q4',q5', ?_⟩;rw [AM,Av,y0];show(z8 (lwS s0 A T (φ (G5 j4 r)) q4 q5)).bind _=_;rw [y4,AR];exact z
theorem b7q{M:Nat}{m:Mo}{d:u9}(ok:v7 m)(dp:p9 m<=8){K:NL u9}(e:x6 K m=ξ d){rs:List Rw}(hr:rs.length<=20)(h:Chn M [] rs K):∃T':List PV,a0F [.list (rs.map (G5 j4)++[kn j4 m])]=ξ (.own (T'++[clv (l9 (ptR l9 rs []) m)])):=by
 obtain⟨T',q3',q4',q5',z⟩:=b6J ok dp e (s0:=φ (.list (rs.map (G5 j4)++[kn j4 m]))) rs [] [] [] ζ ζ ζ h gd0 (by simp;lia) (by simp;lia)
 refine⟨T',m4 (n:=5) ?_⟩;show a2x [φ (.list (rs.map (G5 j4)++[kn j4 m])),ζ,ζ,ζ,ζ,ζ]=_;unfold a2x;refine(B6 (ρ':=[φ (.list (rs.map (G5 j4)++[kn j4 m])),ξ (.ow (.txt [])),ζ,ζ,ζ,ζ]) rfl).trans ?_;refine(P0 (l:=[]) rfl).trans ?_;exact(W9 (ps:=rs.map (G5 j4)++[kn j4 m]) rfl z).trans rfl
theorem c1C{ns:List Int}:∃M:Nat,3<=M/\a5C [.list (ns.map .int)]=φ (.int (M:Nat)):=by
 obtain⟨c,hc⟩:=b6i (ns:=ns);obtain⟨j,hj⟩:∃j:Int,j=c / 3 % 4:=⟨_,rfl⟩;have e1:m2 Θ (m2 Ω (j2 K8 (a4 (a6 0) (a4 (mC (.int 0)) b5))) (mC (.int 3))) (mC (.int 4)) [φ (.list (ns.map .int))]=φ (.int j):=by
  rw [hj];exact md (dv ((N2 rfl rfl).trans hc) rfl (by lia)) rfl (by lia)
 have hj4:j=0\/j=1\/j=2\/j=3:=by lia
 have e2:∃M:Nat,3<=M/\j7 (.own [.int 6,.int 9,.int 6,.int 12]) (.v (.int j))=φ (.int (M:Nat)):=by
  rcases hj4 with h|h|h|h<;>rw [h]
  ·exact⟨6,by lia,rfl⟩
  ·exact⟨9,by lia,rfl⟩
  ·exact⟨6,by lia,rfl⟩
  ·exact⟨12,by lia,rfl⟩
 obtain⟨M,hM,e2⟩:=e2;exact⟨M,hM,b4F (K4 (r:= .own [.int 6,.int 9,.int 6,.int 12]) rfl e1 e2)⟩
theorem b4s:∀l:List (List Nat),a2U (l.map row)=true
 |[]=>rfl
 |r::l=>by rw [AM,a2U,b4s l];rfl
theorem b9R:∀{a b:List PV},a2U a=true->a2U b=true->a2U (a++b)=true
 |[],b,_,h=>h
 |p::a,b,h,h2=>by
  rw [a2U,χ] at h;rw [Av,a2U,h.1,b9R h.2 h2]
  rfl
mutual
theorem a1H:∀m:Mo,okd (n5 m)=true
 | .plain R=>by rw [n5];show(okd (.bool false)&&(okd (.tuple (R.map row))&& true))=true;rw [show okd (.tuple (R.map row))=a2U (R.map row) from by rw [okd],b4s];rfl
 | .named w=>by rw [n5];rfl
 | .beside ps=>by rw [n5];show(okd (.bool false)&&(okd (.tuple (a4V ps))&& true))=true;rw [show okd (.tuple (a4V ps))=a2U (a4V ps) from by rw [okd],a9y ps];rfl
 | .above ps=>by rw [n5];show(okd (.bool false)&&(okd (.tuple (a4V ps))&& true))=true;rw [show okd (.tuple (a4V ps))=a2U (a4V ps) from by rw [okd],a9y ps];rfl
 | .across k p=>by rw [n5];show(okd (.bool false)&&(okd (.int (k:Nat))&&(okd (n5 p)&& true)))=true;rw [a1H p];rfl
 | .down k p=>by rw [n5];show(okd (.bool false)&&(okd (.int (k:Nat))&&(okd (n5 p)&& true)))=true;rw [a1H p];rfl
 | .turned w p=>by rw [n5];show(okd (.bool false)&&(okd (row w)&&(okd (n5 p)&& true)))=true;rw [a1H p];rfl
 | .dyed a b p=>by rw [n5];show(okd (.bool false)&&(okd (row [a])&&(okd (row [b])&&(okd (n5 p)&& true))))=true;rw [a1H p];rfl
theorem a9y:∀ps:List Mo,a2U (a4V ps)=true
 |[]=>by rw [a4V];rfl
 |p::ps=>by rw [a4V,a2U,a1H p,a9y ps];rfl
end
theorem c36(r:Rw):okd (G5 n5 r)=true:=by
 cases r with
 |lt w m=>show(true &&(true &&(okd (n5 m)&& true)))=true;rw [a1H];rfl
 |ag k w m=>show(true &&(true &&(true &&(okd (n5 m)&& true))))=true;rw [a1H];rfl
theorem b4r(m:Mo):∀rs:List Rw,a2U (rs.map (G5 n5)++[kn n5 m])=true
 |[]=>by show((true &&(okd (n5 m)&& true))&& true)=true;rw [a1H];rfl
 |r::rs=>by rw [AM,Av,a2U,c36,b4r m rs];rfl
def duC(T:Cn)(l:List Nat):Cn:=l.foldl (λT x=>adC T ([x],1)) T
theorem b8I:∀(l:List Nat) (T:Cn),(duC T l).length<=T.length+l.length
 |[],T=>AQ _
 |x::l,T=>by
  have h1:=b8I l (adC T ([x],1));have h2:=b1Y T ([x],1);show(duC (adC T ([x],1)) l).length<=_;rw [AV];lia
theorem c2E:∀(l:List Nat) (T:Cn),Gc T->Gc (duC T l)/\∀c,g0 (duC T l) [c]=g0 T [c]+l.count c
 |[],T,h=>⟨h,λc=>rfl⟩
 |x::l,T,h=>by
  obtain⟨z1,z2⟩:=c2E l (adC T ([x],1)) (h.put (by lia) ⟨x,rfl⟩)
  refine⟨z1,λc=> ?_⟩;show g0 (duC (adC T ([x],1)) l) [c]=_;rw [z2];unfold adC;rw [b5p,List.count_cons]
  by_cases d:x=c
  ·subst d;simp;lia
  ·rw [if_neg (λz=>d (List.cons.inj z).1)];simp [d]
abbrev dS(s0 s1:Υ d5)(T:Cn)(q3 q4 s5 s6:Υ d5):b7:=[s0,s1,ξ (.ow (.txt (dN ni T))),q3,q4,s5,s6]
theorem b6l{s0 s1 q3 s5 s6:Υ d5}:∀(l:List Nat) (T:Cn) (q4:Υ d5),T.length+l.length<=10000->∃q4',y0 a33 (j3 4) (l.map λc=> .str (S [c])) (dS s0 s1 T q3 q4 s5 s6)=ξ (.nx (dS s0 s1 (duC T l) q3 q4' s5 s6))
 |[],T,q4,_=>⟨q4,rfl⟩
 |x::l,T,q4,hl=>by
  rw [AV] at hl;have h2:=b1Y T ([x],1);obtain⟨q4',z⟩:=b6l (s0:=s0) (s1:=s1) (q3:=q3) (s5:=s5) (s6:=s6) l (adC T ([x],1)) (φ (row [x])) (by lia)
  refine⟨q4', ?_⟩;have hb:a33 (dS s0 s1 T q3 (φ (row [x])) s5 s6)=ξ (.nx (dS s0 s1 (adC T ([x],1)) q3 (φ (row [x])) s5 s6)):=by
   unfold a33;rw [a6y ni (A:=T) (w:=[x]) (a:=g0 T [x]+1) (by lia) rfl rfl (b6g (b:=1) (b6B (w:=[x]) rfl rfl) rfl)]
   rfl
  rw [AM,y0];show(a33 (dS s0 s1 T q3 (φ (row [x])) s5 s6)).bind _=_;rw [hb,AR];exact z
theorem b3N{s0 s1 s5 s6:Υ d5}:∀(L:List (List Nat)) (T:Cn) (q3 q4:Υ d5),T.length+L.flatten.length<=10000->∃q3' q4',y0 a34 (j3 3) (L.map row) (dS s0 s1 T q3 q4 s5 s6)=ξ (.nx (dS s0 s1 (duC T L.flatten) q3' q4' s5 s6))
 |[],T,q3,q4,_=>⟨q3,q4,rfl⟩
 |l::L,T,q3,q4,hl=>by
  rw [List.flatten_cons,AW] at hl;have h2:=b8I l T;obtain⟨p4,y⟩:=b6l (s0:=s0) (s1:=s1) (q3:=φ (row l)) (s5:=s5) (s6:=s6) l T q4 (by lia)
  obtain⟨q3',q4',z⟩:=b3N (s0:=s0) (s1:=s1) (s5:=s5) (s6:=s6) L (duC T l) (φ (row l)) p4 (by lia)
  refine⟨q3',q4', ?_⟩;have hb:a34 (dS s0 s1 T (φ (row l)) q4 s5 s6)=ξ (.nx (dS s0 s1 (duC T l) (φ (row l)) p4 s5 s6)):=by
   unfold a34 M7;rw [b9F (l:=l) rfl];exact y
  rw [AM,y0];show(a34 (dS s0 s1 T (φ (row l)) q4 s5 s6)).bind _=_;rw [hb,AR,List.flatten_cons];show y0 _ _ _ _=ξ (.nx (dS s0 s1 (duC T (l++L.flatten)) q3' q4' s5 s6));rw [show duC T (l++L.flatten)=duC (duC T l) L.flatten from List.foldl_append];exact z
theorem b6E{B:Cn}:∀{A:Cn},(∀e∈A,t5 B e.1=ξ e.2)->a7J (dN ni B) (dN ni A)=true
 |[],_=>rfl
 |e::A,h=>by
  show(match D6 (dN ni B) [.inr (S e.1)] with|none=>false|some q=>η (ni e.2) q && a7J (dN ni B) (dN ni A))=true
  rw [a15,h e AU,b6E λx hx=>h x (Ab _ hx)];show(η (ni e.2) (ni e.2)&& true)=true;rw [show η (ni e.2) (ni e.2)=((e.2:Int)==(e.2:Int)) from rfl];simp
theorem b8Q{x:Ct}{A B:Cn}(h:Cnt x A)(g:Cnt x B){p q:d5}(hp:tvr p=ξ (dN ni A))(hq:tvr q=ξ (dN ni B))(neg:Bool):b3W neg p q=φ (.bool (!neg)):=by
 obtain⟨h1,h2⟩:=h.same g;have e1:((dN ni A).length==(dN ni B).length && a7J (dN ni B) (dN ni A))=true:=by rw [a2R,a2R,h1,b6E h2];simp
 unfold b3W;rw [hp,hq];show(if _/\_ then _ else _)=_
 rw [if_pos ⟨b2p A,b2p B⟩,e1];cases neg<;>rfl
theorem c1n(l:Cn):isFn (cv l)=false:=by cases l<;>rfl
theorem main:∀ns:List Int,ns.length<=63->c2J [.list (ns.map .int)]=φ (.bool true):=by
 intro ns hl;obtain⟨M,hM,eM⟩:=c1C (ns:=ns);obtain⟨rs,K,m,h,ok,dp,⟨d,e,_,_⟩,hr,er⟩:=b5R hM hl;obtain⟨T,ec⟩:=b7q ok dp e hr h;have ek:=b5i ok dp e hr h;have eb:=b8B h hr ok dp;have hok:=b4r m rs;obtain⟨GK,RK⟩:=b6X rs [] K [] [] h gd0 rc0;have hcn:=a44 GK RK _ m d ok (AQ _) e;obtain⟨g1,g2⟩:=GK.dm ok e;obtain⟨c,hc⟩:∃c,c=l9 (ptR l9 rs []) m:=⟨_,rfl⟩;obtain⟨k,hk⟩:∃k,k=cnM (ptR cnM rs []) m:=⟨_,rfl⟩;rw [<-hc] at ec hcn g1;rw [<-hk] at ek hcn;rw [<-g1] at g2;obtain⟨RT,hRT⟩:∃l:List PV,l=rs.map (G5 j4)++[kn j4 m]:=⟨_,rfl⟩;obtain⟨RP,hRP⟩:∃l:List PV,l=rs.map (G5 n5)++[kn n5 m]:=⟨_,rfl⟩;have er:Z2 [.list (ns.map .int),.int 21,.int (M:Nat)]=ξ (.own RT):=by rw [hRT];exact er
 rw [<-hRT] at ec eb;rw [<-hRP] at ek eb hok;clear hc hk;have hf:(ksL c).length<=576:=by
  rw [b9x];exact Nat.mul_le_mul g2.1.2 g2.2.2
 obtain⟨L,hL,hL2⟩:∃L:List (List Nat),clv c= .tuple (L.map row)/\L.flatten=ksL c:=⟨(AZ c.n).map λi=>rw_ c.m (c.f i),by unfold clv cl;rw [Aj];rfl,rfl⟩
 obtain⟨q3,q4,e5⟩:=b3N (s0:=φ (.list (ns.map .int))) (s1:=φ (.list RT)) (s5:=ζ) (s6:=ζ) L [] ζ ζ (by rw [hL2];simp;lia)
 rw [hL2] at e5;obtain⟨u1,u2⟩:=c2E (ksL c) [] gc0;have hdu:Cnt c (duC [] (ksL c)):=u1.cnt λa=>by rw [u2,a8H];show 0+_=_;lia
 generalize duC [] (ksL c)=W at e5 hdu;refine m4 (n:=6) ?_;show b8z [φ (.list (ns.map .int)),ζ,ζ,ζ,ζ,ζ,ζ]=_;unfold b8z;refine(P0 (l:=RT) ((b8C rfl rfl ((J7 rfl).trans eM)).trans er)).trans ?_;refine(B6 (ρ':=[φ (.list (ns.map .int)),ξ (.own RT),ξ (.ow (.txt [])),ζ,ζ,ζ,ζ]) rfl).trans ?_;refine(B6 (ρ':=dS (φ (.list (ns.map .int))) (φ (.list RT)) W q3 q4 ζ ζ) ?_).trans ?_
 ·show M7 _ _ _ (dS (φ (.list (ns.map .int))) (φ (.list RT)) [] ζ ζ ζ ζ)=_;have e1:m2 j7 (j2 a0F (a4 (a6 1) b5)) (R8 (mC (.int 1))) (dS (φ (.list (ns.map .int))) (φ (.list RT)) [] ζ ζ ζ ζ)=φ (clv c):=K4 ((J7 rfl).trans ec) (q:= .v (.int (-1))) rfl (b2t (.inl rfl));unfold M7 X3;rw [e1,hL];exact e5
 refine(B6 (ρ':=dS (φ (.list (ns.map .int))) (φ (.list RT)) W q3 q4 (ξ (.own RP)) ζ) ?_).trans ?_
 ·show n3 5 _ (dS (φ (.list (ns.map .int))) (φ (.list RT)) W q3 q4 ζ ζ)=_;unfold n3;rw [(J7 rfl).trans eb]
  rfl
 refine(B6 (ρ':=dS (φ (.list (ns.map .int))) (φ (.list RT)) W q3 q4 (φ (.list RP)) (ξ (.ow (.txt (dN ni k))))) ?_).trans ?_
 ·show n3 6 _ (dS (φ (.list (ns.map .int))) (φ (.list RT)) W q3 q4 (φ (.list RP)) ζ)=_;have e6:b2A (j2 a2h (a4 (a6 5) b5)) (dS (φ (.list (ns.map .int))) (φ (.list RT)) W q3 q4 (φ (.list RP)) ζ)=ξ (.ow (.txt (dN ni k))):=by
   have hv:a6 5 (a0u (dS (φ (.list (ns.map .int))) (φ (.list RT)) W q3 q4 (φ (.list RP)) ζ))=φ (.list RP):=by
    have h5:(a0u (dS (φ (.list (ns.map .int))) (φ (.list RT)) W q3 q4 (φ (.list RP)) ζ))[5]?=ξ (φ (.list RP)):=by
     show ξ (if b9S (.v (.list RP))=true then ξ (d5.v (.list RP)) else ζ)=_
     rw [if_pos (show b9S (.v (.list RP))=true by show okd (.list RP)=true;rw [okd];exact hok)]
    unfold a6;rw [h5]
   unfold b2A;rw [(J7 hv).trans ek];show(tvr (.v (cv k))).bind _=_;rw [a9Z (Z7 ni k),AR,if_pos (b2g k)]
  unfold n3;rw [e6]
  rfl
 have t1:mtV (m1 (a3p "dict") (a6 6)) (dS (φ (.list (ns.map .int))) (φ (.list RT)) W q3 q4 (φ (.list RP)) (ξ (.ow (.txt (dN ni k)))))=ξ true:=b3j (by
  show a3p "dict" (.bo (.txt (dN ni k)))=_;unfold a3p;show(bif isFn (cv k) then ζ else ξ (d5.v (.bool (a5G "dict" (cv k)))))=_
  rw [c1n]
  rfl)
 refine(b0 (c5s (c6c t1) (J5 (r:= .bo (.txt (dN ni k))) rfl (q:= .bo (.txt (dN ni W))) rfl (b8Q hcn hdu rfl rfl true)))).trans ?_;refine(B6 (ρ':=dS (φ (.list (ns.map .int))) (φ (.list RT)) W q3 ζ (φ (.list RP)) (ξ (.ow (.txt (dN ni k))))) ?_).trans ?_
 ·show(if((dN ni k).all λe=>isI e.2)=true/\6≠4/\4<7 then _ else ζ)=_
  rw [if_pos ⟨b2p k,by lia,by lia⟩]
  rfl
 refine(B6 (ρ':=dS (φ (.list (ns.map .int))) (φ (.list RT)) W q3 ζ (φ (.list RP)) (ξ (.ow (.txt [])))) rfl).trans ?_;show k7 _ (dS (φ (.list (ns.map .int))) (φ (.list RT)) W q3 ζ (φ (.list RP)) (ξ (.ow (.txt []))))=_;exact L7 (K4 ((J7 rfl).trans ek) (q:= .bo (.txt (dN ni W))) rfl (b8Q hcn hdu (a9Z (Z7 ni k)) rfl false))
set_option maxHeartbeats 4000000
seal L2.PE L2.PS L2.PSs L2.PT L2.PW L2.PA L2.PG L2.PGs L2.PI
def S2(i:Nat):Stmt:=PySem.Challenge.pw_carpetkin_k26_counted.main.body.getD i (.Pass ⟨0,0,0,0⟩)
abbrev a21:Stmt:=S2 59
theorem a5k:i8 [ϡi,"_law_at"] [ϡi,"_law_at"] (c6 a21):=S1
abbrev a4r:Stmt:=S2 61
theorem a6L:i8 ["_law_number_here","_law_rows","_law_letters","_law_wide","_law_r","_law_row","_law_c","_law_mixed"] ["_law_number_here"] (c6 a4r):=S1
abbrev a5N:Stmt:=S2 62
theorem a7Z:i8 ["_law_number_here","_law_names_here"] ["_law_number_here","_law_names_here"] (c6 a5N):=S1
abbrev a5P:Stmt:=S2 64
theorem a71:i8 ["_law_number_here","_law_tree","_law_other","_law_way","_law_many","_law_letters","_law_turns"] ["_law_number_here","_law_tree","_law_other"] (c6 a5P):=S1
abbrev a5M:Stmt:=S2 65
theorem a7Y:i8 ["_law_word","_law_dims",ϡc,"_law_size_here"] ["_law_word","_law_dims"] (c6 a5M):=S1
theorem b0B:List.Nodup (α:=Str) ["_law_tree","_law_known","_law_word","_law_dims","_law_bad","_law_size_here","_law_part"]:=by decide+kernel
theorem b0C:List.Nodup (α:=Str) ["_law_tree","_law_known","_law_word","_law_dims","_law_bad","0_law_size_here","_law_size_here"]:=by decide+kernel
abbrev a24:Stmt:=S2 66
theorem a4y:i8 ["_law_tree","_law_known","_law_word","_law_dims","_law_bad","_law_size_here"] ["_law_tree","_law_known"] (c6 a24):=S1
theorem b0D:List.Nodup (α:=Str) ["_law_tree","_law_word","_law_part"]:=by decide+kernel
abbrev a25:Stmt:=S2 63
theorem a4z:i8 ["_law_tree","_law_word"] ["_law_tree"] (c6 a25):=S1
abbrev a4p:Stmt:=S2 67
theorem a6J:i8 ["_law_number_here","_law_known","_law_names_here","_law_most_here","_law_tree","_law_step_here","_law_mixed","_law_new","_law_size_here","_law_fits"] ["_law_number_here","_law_known","_law_names_here","_law_most_here"] (c6 a4p):=S1
abbrev a11:Stmt:=S2 58
theorem a4t:i8 ["_law_script","_law_k"] ["_law_script","_law_k"] (c6 a11):=S1
abbrev a4q:Stmt:=S2 60
theorem a6K:i8 [] [] (c6 a4q):=S1
abbrev X7:Stmt:=S2 69
theorem a1L:i8 ["_law_tree","_law_name","_law_many","_law_known","_law_most_here","_law_dims","_law_k","_law_size_here"] ["_law_tree","_law_name","_law_many","_law_known","_law_most_here"] (c6 X7):=S1
abbrev a12:Stmt:=S2 70
theorem a4w:i8 ["_law_script","_law_last","_law_most_here","_law_known","_law_rows","_law_at","_law_number_here","_law_name","_law_tree","_law_many","_law_dims"] ["_law_script","_law_last","_law_most_here"] (c6 a12):=S1
theorem b0w:List.Nodup (α:=Str) ["_law_tree","_law_word","_law_part"]:=by decide+kernel
theorem b0x:List.Nodup (α:=Str) ["_law_tree","_law_word","_law_part"]:=by decide+kernel
abbrev a20:Stmt:=S2 68
theorem a4u:i8 ["_law_tree","_law_word"] ["_law_tree"] (c6 a20):=S1
abbrev a4n:Stmt:=S2 71
theorem a6H:i8 ["_law_rows",ϡc,"_law_row"] ["_law_rows"] (c6 a4n):=S1
abbrev a5Q:Stmt:=S2 11
theorem a72:i8 ["row"] ["row"] (c6 a5Q):=S1
abbrev a7q:Stmt:=S2 19
theorem a9M:i8 ["cloth"] ["cloth"] (c6 a7q):=S1
abbrev a2X:Stmt:=L8 (S2 49) 2
theorem a5h:i8 ["self","known","row"] ["self","known","row"] (c6 a2X):=S1
abbrev a2W:Stmt:=L8 (S2 50) 3
theorem a5g:i8 ["self","known","row"] ["self","known","row"] (c6 a2W):=S1
abbrev a1f:Stmt:=S2 40
theorem a3m:i8 ["rows","knots","row"] ["rows","knots","row"] (c6 a1f):=S1
abbrev O9:Stmt:=S2 42
theorem a5l:i8 ["one","other","row"] ["one","other","row"] (c6 O9):=S1
abbrev L1:Stmt:=S2 41
theorem a4A:i8 ["one","other","row"] ["one","other","row"] (c6 L1):=S1
abbrev a0H:Stmt:=L8 (S2 52) 3
theorem a13:i8 ["self","known","row"] ["self","known","row"] (c6 a0H):=S1
abbrev Z9:Stmt:=L8 (S2 53) 3
theorem a1i:i8 ["self","known","row","size"] ["self","known","row"] (c6 Z9):=S1
abbrev a0a:Stmt:=L8 (S2 51) 3
theorem a1j:i8 ["self","known","row"] ["self","known","row"] (c6 a0a):=S1
abbrev a1J:Stmt:=L8 (S2 54) 3
theorem a26:i8 ["self","known","row","size"] ["self","known","row"] (c6 a1J):=S1
abbrev a1K:Stmt:=L8 (S2 56) 3
theorem a27:i8 ["self","known","row"] ["self","known","row"] (c6 a1K):=S1
abbrev a0d:Stmt:=L8 (S2 55) 3
theorem a1m:i8 ["self","known","row","size"] ["self","known","row"] (c6 a0d):=S1
theorem a6q:List.Nodup (α:=Str) ["parts","known","row","lay","found","come","size","part"]:=by decide+kernel
abbrev V7:Stmt:=S2 43
theorem a0w:i8 ["parts","known","row","lay","found","come","size"] ["parts","known","row","lay"] (c6 V7):=S1
abbrev S6:Stmt:=S2 9
theorem a6M:i8 ["motif","known","row"] ["motif","known","row"] (c6 S6):=S1
abbrev a2Y:Stmt:=S2 36
theorem a5i:i8 ["cloth"] ["cloth"] (c6 a2Y):=S1
abbrev V6:Stmt:=S2 37
theorem a1n:i8 ["cloth","knots","many","colour"] ["cloth"] (c6 V6):=S1
abbrev a1e:Stmt:=L8 (S2 49) 4
theorem a3l:i8 ["self","known"] ["self","known"] (c6 a1e):=S1
abbrev a1d:Stmt:=L8 (S2 50) 5
theorem a3k:i8 ["self","known"] ["self","known"] (c6 a1d):=S1
abbrev a1g:Stmt:=S2 46
theorem a3n:i8 ["counts","times","come","colour","many"] ["counts","times"] (c6 a1g):=S1
abbrev a4l:Stmt:=S2 33
theorem a6F:i8 ["colour","one","other"] ["colour","one","other"] (c6 a4l):=S1
abbrev V5:Stmt:=L8 (S2 52) 5
theorem a0v:i8 ["self","known"] ["self","known"] (c6 V5):=S1
abbrev R3:Stmt:=L8 (S2 53) 5
theorem X8:i8 ["self","known"] ["self","known"] (c6 R3):=S1
abbrev R4:Stmt:=L8 (S2 51) 5
theorem X9:i8 ["self","known"] ["self","known"] (c6 R4):=S1
abbrev a0b:Stmt:=L8 (S2 54) 5
theorem a1k:i8 ["self","known"] ["self","known"] (c6 a0b):=S1
abbrev a0c:Stmt:=L8 (S2 56) 5
theorem a1l:i8 ["self","known","come","colour","many"] ["self","known"] (c6 a0c):=S1
abbrev R5:Stmt:=L8 (S2 55) 5
theorem Y0:i8 ["self","known"] ["self","known"] (c6 R5):=S1
abbrev O8:Stmt:=S2 45
theorem V8:i8 ["parts","known","together","part","colour","many"] ["parts","known"] (c6 O8):=S1
abbrev L0:Stmt:=S2 10
theorem a4s:i8 ["motif","known","row"] ["motif","known","row"] (c6 L0):=S1
abbrev a1h:Stmt:=S2 12
theorem a3o:i8 ["program","step","known","told","place","row","k","come"] ["program","step"] (c6 a1h):=S1
abbrev b3d:Stmt:=S2 13
theorem b4J:i8 ["program"] ["program"] (c6 b3d):=S1
abbrev a4m:Stmt:=S2 14
theorem a6G:i8 ["program","step"] ["program","step"] (c6 a4m):=S1
abbrev a7p:Stmt:=S2 15
theorem a9L:i8 ["program"] ["program"] (c6 a7p):=S1
abbrev a5O:Stmt:=S2 78
theorem a70:i8 ["_law_script"] ["_law_script"] (c6 a5O):=S1
theorem b0y:List.Nodup (α:=Str) ["_law_tree","_law_cloths_here","_law_word","_law_rows","_law_parts","0_law_part","_law_part"]:=by decide+kernel
theorem b0z:List.Nodup (α:=Str) ["_law_tree","_law_cloths_here","_law_word","_law_rows","_law_parts","0_law_part","_law_part"]:=by decide+kernel
theorem b0A:List.Nodup (α:=Str) ["_law_tree","_law_cloths_here","_law_word","_law_rows","_law_parts","0_law_part","_law_part"]:=by decide+kernel
abbrev a22:Stmt:=S2 72
theorem a4v:i8 ["_law_tree","_law_cloths_here","_law_word","_law_rows","_law_parts","_law_part"] ["_law_tree","_law_cloths_here"] (c6 a22):=S1
abbrev a5L:Stmt:=S2 74
theorem a7X:i8 ["_law_way","_law_part","_law_r","_law_c","_law_last","_law_end"] ["_law_way","_law_part","_law_r","_law_c"] (c6 a5L):=S1
abbrev a23:Stmt:=S2 75
theorem a4x:i8 ["_law_plan_here","_law_r","_law_c","_law_part","_law_sign_here","_law_place"] ["_law_plan_here","_law_r","_law_c"] (c6 a23):=S1
abbrev a0I:Stmt:=S2 73
theorem a14:i8 ["_law_plan_here","_law_r","_law_c","_law_part"] ["_law_plan_here","_law_r","_law_c"] (c6 a0I):=S1
theorem a9j:List.Nodup (α:=Str) ["_law_tree","_law_cloths_here","_law_plan_here","_law_rows","_law_r","_law_c"]:=by decide+kernel
abbrev a4o:Stmt:=S2 76
theorem a6I:i8 ["_law_tree","_law_cloths_here","_law_plan_here","_law_rows","_law_r"] ["_law_tree","_law_cloths_here"] (c6 a4o):=S1
abbrev a2Z:Stmt:=S2 77
theorem a5j:i8 ["_law_rows","_law_cloths_here",ϡc,"_law_row","_law_many","_law_k"] ["_law_rows"] (c6 a2Z):=S1
abbrev c0o:Stmt:=S2 79
theorem c0r:i8 ["_law_script","_law_rows","_law_due","_law_row","_law_sign_here","_law_program_here",ϡc] ["_law_script"] (c6 c0o):=S1
structure MoB(K:AE)(mg:Str->Υ AA):Prop where
 Zcw:mg "bool"=ζ
 Zcb:mg "dict"=ζ
 Zby:mg "enumerate"=ζ
 Zc5:mg "int"=ζ
 Zan:mg "isinstance"=ζ
 Zb0:mg "len"=ζ
 Zcn:mg "list"=ζ
 Zcr:mg "max"=ζ
 Zc9:mg "min"=ζ
 Zbg:mg "range"=ζ
 Zda:mg "set"=ζ
 Zb6:mg "sorted"=ζ
 Zcc:mg "str"=ζ
 Zc6:mg "sum"=ζ
 Zb1:mg "tuple"=ζ
abbrev b4I:Stmt:=L8 (S2 49) 0
theorem b8g:i8 ["self","rows"] ["self","rows"] (c6 b4I):=S1
abbrev b4H:Stmt:=L8 (S2 50) 0
theorem b8f:i8 ["self","name"] ["self","name"] (c6 b4H):=S1
abbrev b1F:Stmt:=L8 (S2 51) 0
theorem b5Z:i8 ["self","parts"] ["self","parts"] (c6 b1F):=S1
abbrev b4G:Stmt:=L8 (S2 52) 0
theorem b8e:i8 ["self","parts"] ["self","parts"] (c6 b4G):=S1
abbrev b1E:Stmt:=L8 (S2 53) 0
theorem b5Y:i8 ["self","many","part"] ["self","many","part"] (c6 b1E):=S1
abbrev b60:Stmt:=L8 (S2 54) 0
theorem c0p:i8 ["self","many","part"] ["self","many","part"] (c6 b60):=S1
abbrev b1G:Stmt:=L8 (S2 55) 0
theorem b50:i8 ["self","way","part"] ["self","way","part"] (c6 b1G):=S1
abbrev b61:Stmt:=L8 (S2 56) 0
theorem c0q:i8 ["self","one","other","part"] ["self","one","other","part"] (c6 b61):=S1
structure Ad where
 Zbh:AB
 Zbi:AB
 Za8:AB
 Zbj:AB
 Za9:AB
 Zbw:AB
 Zba:AB
 Zbx:AB
 Zaw:AB
 Zax:AB
 Zam:AB
 Zah:AB
 Zai:AB
 Zao:AB
 Zap:AB
 Zaj:AB
 Zaq:AB
 Zar:AB
 Zaf:AB
 Zac:AB
 Zad:AB
 Zak:AB
 Zal:AB
 Zae:AB
structure Oc(K:AE)(mg:Str->Υ AA)(a:Ad):Prop where
 kc_Plain:KC K "Plain" a.Zbh
 kc_Named:KC K "Named" a.Zbi
 kc_Beside:KC K "Beside" a.Za8
 kc_Above:KC K "Above" a.Zbj
 kc_Across:KC K "Across" a.Za9
 kc_Down:KC K "Down" a.Zbw
 kc_Turned:KC K "Turned" a.Zba
 kc_Dyed:KC K "Dyed" a.Zbx
 fi_Plain_counts:PySem.W.findIn K (.ref a.Zbh) "counts"=ξ (ξ (.ref a.Zaq))
 fi_Named_counts:PySem.W.findIn K (.ref a.Zbi) "counts"=ξ (ξ (.ref a.Zar))
 fi_Beside_counts:PySem.W.findIn K (.ref a.Za8) "counts"=ξ (ξ (.ref a.Zad))
 fi_Above_counts:PySem.W.findIn K (.ref a.Zbj) "counts"=ξ (ξ (.ref a.Zaf))
 fi_Across_counts:PySem.W.findIn K (.ref a.Za9) "counts"=ξ (ξ (.ref a.Zac))
 fi_Down_counts:PySem.W.findIn K (.ref a.Zbw) "counts"=ξ (ξ (.ref a.Zak))
 fi_Turned_counts:PySem.W.findIn K (.ref a.Zba) "counts"=ξ (ξ (.ref a.Zae))
 fi_Dyed_counts:PySem.W.findIn K (.ref a.Zbx) "counts"=ξ (ξ (.ref a.Zal))
 fi_Plain_size:PySem.W.findIn K (.ref a.Zbh) "size"=ξ (ξ (.ref a.Zaw))
 fi_Named_size:PySem.W.findIn K (.ref a.Zbi) "size"=ξ (ξ (.ref a.Zax))
 fi_Beside_size:PySem.W.findIn K (.ref a.Za8) "size"=ξ (ξ (.ref a.Zai))
 fi_Above_size:PySem.W.findIn K (.ref a.Zbj) "size"=ξ (ξ (.ref a.Zam))
 fi_Across_size:PySem.W.findIn K (.ref a.Za9) "size"=ξ (ξ (.ref a.Zah))
 fi_Down_size:PySem.W.findIn K (.ref a.Zbw) "size"=ξ (ξ (.ref a.Zao))
 fi_Turned_size:PySem.W.findIn K (.ref a.Zba) "size"=ξ (ξ (.ref a.Zaj))
 fi_Dyed_size:PySem.W.findIn K (.ref a.Zbx) "size"=ξ (ξ (.ref a.Zap))
 fld_many:a0p K ["Across","Down"] "many"
 fld_name:a0p K ["Named"] "name"
 fld_one:a0p K ["Dyed"] "one"
 fld_other:a0p K ["Dyed"] "other"
 fld_part:a0p K ["Across","Down","Turned","Dyed"] "part"
 fld_parts:a0p K ["Beside","Above"] "parts"
 fld_rows:a0p K ["Plain"] "rows"
 fld_way:a0p K ["Turned"] "way"
section
variable (P:AJ)(w:AI)(K:AE)(mg:Str->Υ AA)(base:Heap)(a:Ad)
abbrev a51:Prop:=p8 P w K mg base "_law_number" [ϡi,"_law_at"] 1 K3
abbrev a3u:Prop:=p8 P w K mg base "_law_plain" ["_law_number_here"] 1 a1B
abbrev a8t:Prop:=p8 P w K mg base "_law_leaf" ["_law_number_here","_law_names_here"] 2 a03
abbrev a8v:Prop:=p8 P w K mg base "_law_step" ["_law_number_here","_law_tree","_law_other"] 1 X0
abbrev a5q:Prop:=p8 P w K mg base "_law_laid" ["_law_word","_law_dims"] 1 a2L
abbrev a5r:Prop:=p8 P w K mg base "_law_size" ["_law_tree","_law_known"] 13 C5
abbrev b5a:Prop:=p8 P w K mg base "_law_text" ["_law_tree"] 13 X1
abbrev a7z:Prop:=p8 P w K mg base "_law_grown" ["_law_number_here","_law_known","_law_names_here","_law_most_here"] 14 N8
abbrev a1Q:Prop:=p8 P w K mg base "_law_cell_at" ["_law_script","_law_k"] 1 K8
abbrev a7A:Prop:=p8 P w K mg base "_law_names" [] 1 a1A
abbrev a18:Prop:=p8 P w K mg base "_law_again_fits" ["_law_tree","_law_name","_law_many","_law_known","_law_most_here"] 14 B5
abbrev a4Y:Prop:=p8 P w K mg base "_law_program" ["_law_script","_law_last","_law_most_here"] 15 Z2
abbrev b47:Prop:=p8 P w K mg base "_law_made" ["_law_tree"] 14 D5
abbrev a7x:Prop:=p8 P w K mg base "_law_built" ["_law_rows"] 15 a3W
abbrev a8w:Prop:=p8 P w K mg base "times_of" ["row"] 1 a04
abbrev b0S:Prop:=p8 P w K mg base "size_of" ["cloth"] 1 a66
abbrev E4:Prop:=z9 P w K mg base a.Zaw ["self","known","row"] 2 x9
abbrev E3:Prop:=z9 P w K mg base a.Zax ["self","known","row"] 1 x8
abbrev G6:Prop:=p8 P w K mg base "checked_size" ["rows","knots","row"] 1 I0
abbrev a0B:Prop:=p8 P w K mg base "size_above" ["one","other","row"] 2 a0G
abbrev Y7:Prop:=p8 P w K mg base "size_beside" ["one","other","row"] 2 Z3
abbrev b1W:Prop:=z9 P w K mg base a.Zam ["self","known","row"] 22 a6l
abbrev a96:Prop:=z9 P w K mg base a.Zah ["self","known","row"] 22 a47
abbrev a97:Prop:=z9 P w K mg base a.Zai ["self","known","row"] 22 a48
abbrev b3v:Prop:=z9 P w K mg base a.Zao ["self","known","row"] 22 a7H
abbrev b3w:Prop:=z9 P w K mg base a.Zap ["self","known","row"] 22 a7I
abbrev b0a:Prop:=z9 P w K mg base a.Zaj ["self","known","row"] 22 a5b
structure E2(k:Nat)(i4 g7 g8 i9 j0 g9 Zab:Λ):Prop where
 Za4:z9 P w K mg base a.Zam ["self","known","row"] k i4
 Za1:z9 P w K mg base a.Zah ["self","known","row"] k g7
 Za0:z9 P w K mg base a.Zai ["self","known","row"] k g8
 Za6:z9 P w K mg base a.Zao ["self","known","row"] k i9
 Za7:z9 P w K mg base a.Zap ["self","known","row"] k j0
 Za2:z9 P w K mg base a.Zaj ["self","known","row"] k g9
 Zbb:p8 P w K mg base "size_of_laid" ["parts","known","row","lay"] k Zab
abbrev a3v:Prop:=p8 P w K mg base "size_step" ["motif","known","row"] 23 N9
abbrev a5Z:Prop:=p8 P w K mg base "colours_of" ["cloth"] 1 a2K
abbrev a1v:Prop:=p8 P w K mg base "knots_by_colour" ["cloth"] 2 U1
abbrev B9:Prop:=z9 P w K mg base a.Zaq ["self","known"] 3 u8
abbrev B8:Prop:=z9 P w K mg base a.Zar ["self","known"] 1 u7
abbrev T0:Prop:=p8 P w K mg base "counts_times" ["counts","times"] 1 T9
abbrev a3t:Prop:=p8 P w K mg base "exchanged" ["colour","one","other"] 1 a1z
abbrev a8s:Prop:=z9 P w K mg base a.Zaf ["self","known"] 23 a3U
abbrev a75:Prop:=z9 P w K mg base a.Zac ["self","known"] 23 a3g
abbrev a76:Prop:=z9 P w K mg base a.Zad ["self","known"] 23 a3h
abbrev a98:Prop:=z9 P w K mg base a.Zak ["self","known"] 23 a49
abbrev a99:Prop:=z9 P w K mg base a.Zal ["self","known"] 23 a5a
abbrev a77:Prop:=z9 P w K mg base a.Zae ["self","known"] 23 a3i
structure B7(k:Nat)(d7 c7 c8 f9 g5 c9 Zaa:Λ):Prop where
 Zav:z9 P w K mg base a.Zaf ["self","known"] k d7
 Zat:z9 P w K mg base a.Zac ["self","known"] k c7
 Zas:z9 P w K mg base a.Zad ["self","known"] k c8
 Zay:z9 P w K mg base a.Zak ["self","known"] k f9
 Zaz:z9 P w K mg base a.Zal ["self","known"] k g5
 Zau:z9 P w K mg base a.Zae ["self","known"] k c9
 Za3:p8 P w K mg base "counts_of_laid" ["parts","known"] k Zaa
abbrev Y6:Prop:=p8 P w K mg base "counts_step" ["motif","known","row"] 24 G0
abbrev a0N:Prop:=p8 P w K mg base "gone_through" ["program","step"] 25 U0
abbrev b6e:Prop:=p8 P w K mg base "sizes" ["program"] 26 b2m
abbrev a7w:Prop:=p8 P w K mg base "last_told" ["program","step"] 27 a3V
abbrev b0R:Prop:=p8 P w K mg base "counted" ["program"] 28 a2h
abbrev a8u:Prop:=p8 P w K mg base "_law_most" ["_law_script"] 2 a5C
abbrev b48:Prop:=p8 P w K mg base "_law_plan" ["_law_tree","_law_cloths_here"] 13 a5D
abbrev a5p:Prop:=p8 P w K mg base "_law_from" ["_law_way","_law_part","_law_r","_law_c"] 1 a5B
abbrev b49:Prop:=p8 P w K mg base "_law_sign" ["_law_plan_here","_law_r","_law_c"] 25 a5E
structure a5o(k:Nat)(A0 Zag:Λ):Prop where
 Za5:p8 P w K mg base "_law_sign" ["_law_plan_here","_law_r","_law_c"] k A0
 Zbn:p8 P w K mg base "_law_within" ["_law_plan_here","_law_r","_law_c"] k Zag
abbrev a7y:Prop:=p8 P w K mg base "_law_cloth" ["_law_tree","_law_cloths_here"] 26 a3X
abbrev a50:Prop:=p8 P w K mg base "_law_cloths" ["_law_rows"] 27 a0F
structure Io:Prop where
 i_Above:L3 P w K mg base "Above" ["parts"] 1
 i_Across:L3 P w K mg base "Across" ["many","part"] 1
 i_Beside:L3 P w K mg base "Beside" ["parts"] 1
 i_Down:L3 P w K mg base "Down" ["many","part"] 1
 i_Dyed:L3 P w K mg base "Dyed" ["one","other","part"] 1
 i_Named:L3 P w K mg base "Named" ["name"] 1
 i_Plain:L3 P w K mg base "Plain" ["rows"] 1
 i_Turned:L3 P w K mg base "Turned" ["way","part"] 1
end
section
variable (P:AJ)(w:AI){K:AE}{mg:Str->Υ AA}(base:Heap)(a:Ad)
theorem b0L(D:Df K mg "_law_number" a21):a51 P w K mg base:=by
 exists z0,0,a5k,el2 λ_ _=>rfl
 exact c5 (i5 (e9 m9 (e9 u3 (e9 t6 (d6 0) (e9 c1R a8 a8)) (e9 m9 (e9 u3 a8 (d6 1)) a8)) (e9 u3 (d6 1) (d6 1))))
theorem b2X(D:Df K mg "_law_plain" a4r)(M:MoB K mg):a3u P w K mg base:=by
 exists z0,0,a6L,el1 λ_=>rfl
 ext c
 ·exact j5 (i:=1) S.nd (F8 b8)
 ext c
 ·exact j5 (i:=2) S.nd (a3N d9 a6f (a6g (d8 (F8 (a5 a8 (a5 a8 (a5 a8 b8)))) (e9 t6 (d6 0) a8))))
 ext c
 ·exact j5 (i:=3) S.nd (e9 m9 a8 (e9 t6 (e9 t6 (e9 u3 (d6 0) a8) a8) a8))
 ext c
 ·refine a01 PassesOwn.never ?_ ?_ M.Zbg ?_ ?_ (A6 4) ?_
  ·exact rfl
  ·exact rfl
  ·exact a5 (e9 m9 a8 (e9 t6 (e9 t6 (e9 u3 (d6 0) a8) a8) a8)) b8
  ·exact p0 (i:=4) S.nd rfl (Or.inl rfl)
  ext c
  ·exact j5 (i:=5) S.nd d9
  ext c
  ·refine a01 PassesOwn.never ?_ ?_ M.Zbg ?_ ?_ (A6 6) ?_
   ·exact rfl
   ·exact rfl
   ·exact a5 (d6 3) b8
   ·exact p0 (i:=6) S.nd rfl (Or.inl rfl)
   ext c
   ·exact j5 (i:=7) S.nd (e9 t6 (e9 u3 (d6 0) (e9 m9 (e9 m9 (e9 u3 a8 (d6 4)) (e9 u3 a8 (d6 6))) a8)) a8)
   exact c5 (j5 (i:=5) S.nd (e9 m9 (d6 5) (d8 (d6 2) (e9 t6 (d6 7) (a0i a0X rfl M.Zb0 (by rfl) (d6 2))))))
  exact c5 (W8 1 (pv 1) (d6 5))
 exact c5 (i5 (n8 (a5 d9 (a5 (a46 a6b rfl M.Zb1 (by rfl) (d6 1)) b8))))
theorem b4i(D:Df K mg "_law_leaf" a5N)(M:MoB K mg)(a0h:a3u P w K mg base):a8t P w K mg base:=by
 exists z0,1,a7Z,el2 λ_ _=>rfl
 ext c
 ·refine m5 (PW.pt (a61 (k6 (a4a hu) (d6 1) (F8 b8)) (a4J (k6 a6u (e9 t6 (e9 t6 (e9 u3 (d6 0) a8) a8) a8) a8)))) ?_ ?_
  ·exact c5 (i5 (n8 (a5 d9 (a5 (d8 (d6 1) (e9 t6 (e9 t6 (e9 u3 (d6 0) a8) a8) (a0i a0X rfl M.Zb0 (by rfl) (d6 1)))) b8))))
  exact j6
 exact c5 (i5 (j9 a0h hr (by decide) rfl (a7 g6) (a5 (d6 0) b8)))
theorem b4o(D:Df K mg "_law_step" a5P)(M:MoB K mg):a8v P w K mg base:=by
 exists z0,0,a71,el3 λ_ _ _=>rfl
 ext c
 ·exact j5 (i:=3) S.nd (e9 t6 (e9 t6 (e9 u3 (d6 0) a8) a8) a8)
 ext c
 ·exact j5 (i:=4) S.nd (e9 m9 a8 (e9 t6 (e9 t6 (e9 u3 (d6 0) a8) a8) (d8 (F8 (a5 a8 (a5 a8 b8))) (a46 c3f rfl M.Zc5 (by rfl) (b8K (k9 hu) (e9 t6 (d6 0) a8) a8)))))
 ext c
 ·exact j5 (i:=5) S.nd d9
 ext c
 ·refine m5 ?_ ?_ ?_
  ·exact k6 (k9 hu) (d6 3) a8
  ·exact b4 (j5 (i:=6) S.nd (F8 (a5 d9 (a5 d9 (a5 d9 (a5 d9 (a5 d9 (a5 d9 (a5 d9 b8))))))))) (c5 (i5 (n8 (a5 d9 (a5 (d8 (d6 6) (e9 t6 (d6 0) a8)) (a5 (d6 1) b8))))))
  exact j6
 ext c
 ·exact m5 (k6 (k9 hu) (d6 3) a8) (c5 (i5 (n8 (a5 d9 (a5 (d8 (d6 5) (e9 t6 (d6 0) a8)) (a5 (d8 (d6 5) (e9 t6 (e9 b4u (d6 0) a8) a8)) (a5 (d6 1) b8))))))) j6
 ext c
 ·exact m5 (k6 (k9 hu) (d6 3) a8) (c5 (i5 (n8 (a5 d9 (a5 (d6 4) (a5 (d6 1) b8)))))) j6
 ext c
 ·exact m5 (k6 (k9 hu) (d6 3) a8) (c5 (i5 (n8 (a5 d9 (a5 (d6 4) (a5 (d6 1) b8)))))) j6
 ext c
 ·exact m5 (k6 (k9 hu) (d6 3) a8) (c5 (i5 (n8 (a5 d9 (a5 (F8 (a5 (d6 1) (a5 (d6 2) b8))) b8))))) j6
 ext c
 ·exact m5 (k6 (k9 hu) (d6 3) a8) (c5 (i5 (n8 (a5 d9 (a5 (F8 (a5 (d6 1) (a5 (d6 2) b8))) b8))))) j6
 ext c
 ·exact m5 (k6 (k9 hu) (d6 3) a8) (c5 (i5 (n8 (a5 d9 (a5 (F8 (a5 (d6 1) (a5 (n8 (a5 d9 (a5 d9 (a5 (d6 1) b8)))) b8))) b8))))) j6
 ext c
 ·exact m5 (k6 (k9 hu) (d6 3) a8) (c5 (i5 (n8 (a5 d9 (a5 (F8 (a5 (d6 1) (a5 (n8 (a5 d9 (a5 d9 (a5 (d6 1) b8)))) (a5 (d6 1) b8)))) b8))))) j6
 exact c5 (i5 (n8 (a5 d9 (a5 (a3N (e9 u3 (F8 (a5 (d6 2) (a5 (d6 1) b8))) a8) a6f (a6g (e9 m9 a8 (e9 t6 (d6 0) a8)))) b8))))
theorem b4h(D:Df K mg "_law_laid" a5M)(M:MoB K mg):a5q P w K mg base:=by
 exists z0,0,a7Y,el2 λ_ _=>rfl
 ext c
 ·exact j5 (i:=2) S.nd (d8 (d6 1) a8)
 ext c
 ·refine a3P PassesOwn.never ?_ ?_ ?_ (A6 3) ?_
  ·exact rfl
  ·exact a3N (d6 1) (a6g a8) a6f
  ·exact p0 (i:=3) S.nd rfl (Or.inl rfl)
  ext c
  ·refine m5 ?_ ?_ ?_
   ·exact k6 (k9 hu) (d6 0) d9
   ·ext c
    ·exact m5 (k6 (a4a hu) (d8 (d6 3) a8) (d8 (d6 2) a8)) (c5 (i5 (n8 (a5 d9 (a5 d9 b8))))) j6
    exact c5 (j5 (i:=2) S.nd (n8 (a5 (d8 (d6 2) a8) (a5 (e9 m9 (d8 (d6 2) a8) (d8 (d6 3) a8)) b8))))
   ext c
   ·exact m5 (k6 (a4a hu) (d8 (d6 3) a8) (d8 (d6 2) a8)) (c5 (i5 (n8 (a5 d9 (a5 d9 b8))))) j6
   exact c5 (j5 (i:=2) S.nd (n8 (a5 (e9 m9 (d8 (d6 2) a8) (d8 (d6 3) a8)) (a5 (d8 (d6 2) a8) b8))))
  exact c5 (m5 (k6 a7l (a0i (a8h rfl) rfl M.Zcr (by rfl) (d6 2)) a8) (c5 (i5 (n8 (a5 d9 (a5 d9 b8))))) j6)
 exact c5 (D7 2 (pv 2))
theorem b4n{k:Nat}(hk0:1<=k){J9:Λ}(D:Df K mg "_law_size" a24)(M:MoB K mg)(a0Z:a5q P w K mg base)(D2:p8 P w K mg base "_law_size" ["_law_tree","_law_known"] k J9):p8 P w K mg base "_law_size" ["_law_tree","_law_known"] (k+1) (m3 4 (a0U J9)):=by
 exists z0,k,a4y,el2 λ_ _=>rfl
 ext c
 ·exact j5 (i:=2) S.nd (d8 (d6 0) a8)
 ext c
 ·exact m5 (k6 (k9 hu) (d6 2) d9) (c5 (i5 (n8 (a5 (a0i a0X rfl M.Zb0 (by rfl) (d8 (d6 0) a8)) (a5 (a0i a0X rfl M.Zb0 (by rfl) (d8 (d8 (d6 0) a8) a8)) b8))))) j6
 ext c
 ·exact m5 (k6 (k9 hu) (d6 2) d9) (c5 (i5 (b7x 1 hu (pv 1) (d8 (d6 0) a8) (n8 (a5 d9 (a5 (d8 (d6 0) a8) b8)))))) j6
 ext c
 ·ext am
  ·ext c
   ·refine a8i (i:=3) (ys:=["_law_part"]) (N0:=["_law_tree","_law_known","_law_word","_law_dims","_law_bad","_law_size_here"]) ?_ (λ_ _ h=>h) ?_ ⟨by kernel_rfl,rfl,δ rfl,δ rfl,δ rfl⟩ ?_ (λC fp pins s H=>p0 (i:=6) b0B rfl (Or.inl rfl)) (λn h=>G2 (i:=6) (Nat.le_of_eq h)) (λC fp pins s H=>a2D) ?_
    ·exact S.nd
    ·exact rfl
    ·exact a2E (d8 (d6 0) a8)
    intro C fp pins s H;exact j9 D2 hr (by lia) rfl (a7 (a7 g6)) (a5 (d6 6) (a5 (d6 1) b8))
   ext c
   ·refine a8i (i:=4) (ys:=["_law_size_here"]) (N0:=["_law_tree","_law_known","_law_word","_law_dims","_law_bad","0_law_size_here"]) ?_ (λ_ _ h=>h) ?_ ⟨by kernel_rfl,rfl,δ rfl,δ rfl,δ rfl⟩ ?_ (λC fp pins s H=>p0 (i:=6) b0C rfl (Or.inl rfl)) (λn h=>G2 (i:=6) (Nat.le_of_eq h)) ?_ (λC fp pins s H=>(d6 6))
    ·exact S.nd
    ·exact rfl
    ·exact a2E (d6 3)
    intro C fp pins s H;exact c3k (a60 (a6Z (.inr (.inr (.inl rfl))) rfl M.Zan (d8 (d6 6) a8) (a1I rfl M.Zcc (by rfl) rfl)))
   exact b4 (m5 (k6 (a4a hu) (d6 4) (F8 b8)) (c5 (i5 (d8 (d6 4) a8))) j6) (c5 (a5A 3 (i5 (j9 a0Z hr (by lia) rfl (a7 (a7 g6)) (a5 (d6 2) (a5 (d6 3) b8))))))
  exact j6
 ext c
 ·exact j5 (i:=5) S.nd (j9 D2 hr (by lia) rfl (a7 (a7 g6)) (a5 (d8 (d6 0) (a00 a8)) (a5 (d6 1) b8)))
 ext c
 ·exact m5 (PW.pt (a3f (a60 (a6Z (.inr (.inr (.inl rfl))) rfl M.Zan (d8 (d6 5) a8) (a1I rfl M.Zcc (by rfl) rfl))) (a0s (k6 (k9 hu) (d6 2) d9)))) (c5 (D7 5 (pv 5))) j6
 ext c
 ·refine m5 ?_ ?_ ?_
  ·exact k6 (k9 hu) (d6 2) d9
  ·exact b4 (m5 (k6 (b20 hu) (d8 (d6 0) a8) (F8 (a5 d9 (a5 d9 (a5 d9 (a5 d9 b8)))))) (c5 (i5 (n8 (a5 (d8 (d6 5) a8) (a5 (d8 (d6 5) a8) b8))))) j6) (c5 (D7 5 (pv 5)))
  exact j6
 ext c
 ·refine m5 ?_ ?_ ?_
  ·exact k6 (k9 hu) (d6 2) d9
  ·exact c5 (j5 (i:=5) S.nd (n8 (a5 (d8 (d6 5) a8) (a5 (e9 u3 (d8 (d6 5) a8) (d8 (d6 0) a8)) b8))))
  exact c5 (j5 (i:=5) S.nd (n8 (a5 (e9 u3 (d8 (d6 5) a8) (d8 (d6 0) a8)) (a5 (d8 (d6 5) a8) b8))))
 exact b4 (m5 (k6 a7l (a0i (a8h rfl) rfl M.Zcr (by rfl) (d6 5)) a8) (c5 (i5 (n8 (a5 d9 (a5 d9 b8))))) j6) (c5 (D7 5 (pv 5)))
theorem b2N(W4:Df K mg "_law_size" a24)(M:MoB K mg)(a0Z:a5q P w K mg base):∀n:Nat,p8 P w K mg base "_law_size" ["_law_tree","_law_known"] (1+n) (a30 n):=by
 intro n
 induction n with
 |zero=>exact o0 (k:=0) W4 a4y (λ_ _ _ _ _ _=>el2 (λ_ _=>rfl)) λf cdv A outer s H E hr=>A3
 |succ n ih=>
  exact b4n P w base (Nat.le_add_right _ _) W4 M a0Z ih
theorem b4p{k:Nat}(hk0:1<=k){K0:Λ}(D:Df K mg "_law_text" a25)(M:MoB K mg)(N5:p8 P w K mg base "_law_text" ["_law_tree"] k K0):p8 P w K mg base "_law_text" ["_law_tree"] (k+1) (m3 1 (a0V K0)):=by
 exists z0,k,a4z,el1 λ_=>rfl
 ext c
 ·exact j5 (i:=1) S.nd (d8 (d6 0) a8)
 ext c
 ·exact m5 (k6 (k9 hu) (d6 1) d9) (c5 (i5 (e9 m9 (e9 m9 d9 (a6d d9 (d8 (d6 0) a8))) d9))) j6
 ext c
 ·exact m5 (k6 (k9 hu) (d6 1) d9) (c5 (i5 (d8 (d6 0) a8))) j6
 ext c
 ·refine m5 (PW.pt (a3f (k6 (k9 hu) (d6 1) d9) (a0s (k6 (k9 hu) (d6 1) d9)))) ?_ ?_
  ·ext y
   refine e9 m9 ?_ ?_
   ·refine e9 m9 ?_ ?_
    ·exact e9 m9 (d6 1) d9
    refine a6d ?_ ?_
    ·exact d9
    exists y0,["_law_part"],["_law_tree","_law_word"],2,b0D
    ·exact rfl
    ·exact a2E (d8 (d6 0) a8)
    intro C fp pins s H;exact j9 N5 hr (by lia) rfl (a7 g6) (a5 (d6 2) b8)
   exact d9
  exact j6
 ext c
 ·refine m5 (PW.pt (a3f (k6 (k9 hu) (d6 1) d9) (a0s (k6 (k9 hu) (d6 1) d9)))) ?_ ?_
  ·exact c5 (i5 (e9 m9 (e9 m9 (e9 m9 (e9 m9 (e9 m9 (d6 1) d9) (a46 c3h rfl M.Zcc (by rfl) (d8 (d6 0) a8))) d9) (j9 N5 hr (by lia) rfl (a7 g6) (a5 (d8 (d6 0) a8) b8))) d9))
  exact j6
 ext c
 ·exact m5 (k6 (k9 hu) (d6 1) d9) (c5 (i5 (e9 m9 (e9 m9 (e9 m9 (d8 (d6 0) a8) d9) (j9 N5 hr (by lia) rfl (a7 g6) (a5 (d8 (d6 0) a8) b8))) d9))) j6
 exact c5 (i5 (e9 m9 (e9 m9 (e9 m9 (e9 m9 (e9 m9 (e9 m9 d9 (d8 (d6 0) a8)) d9) (d8 (d6 0) a8)) d9) (j9 N5 hr (by lia) rfl (a7 g6) (a5 (d8 (d6 0) a8) b8))) d9))
theorem b2O(a2u:Df K mg "_law_text" a25)(M:MoB K mg):∀n:Nat,p8 P w K mg base "_law_text" ["_law_tree"] (1+n) (a31 n):=by
 intro n
 induction n with
 |zero=>exact o0 (k:=0) a2u a4z (λ_ _ _ _ _ _=>el1 (λ_=>rfl)) λf cdv A outer s H E hr=>A3
 |succ n ih=>
  exact b4p P w base (Nat.le_add_right _ _) a2u M ih
theorem b2V(D:Df K mg "_law_grown" a4p)(M:MoB K mg)(a2C:a8t P w K mg base)(a0h:a3u P w K mg base)(a5w:a8v P w K mg base)(D2:a5r P w K mg base)(N5:b5a P w K mg base):a7z P w K mg base:=by
 exists z0,13,a6J,el4 λ_ _ _ _=>rfl
 ext c
 ·exact j5 (i:=4) S.nd (j9 a2C hr (by decide) rfl (a7 (a7 g6)) (a5 (d6 0) (a5 (d6 2) b8)))
 ext c
 ·refine m5 (PW.pt (a61 (k6 a7l (d6 3) a8) (a4J (a60 (a6Z (.inr (.inr (.inl rfl))) rfl M.Zan (d8 (j9 D2 hr (by decide) rfl (a7 (a7 g6)) (a5 (d6 4) (a5 (d6 1) b8))) a8) (a1I rfl M.Zcc (by rfl) rfl)))))) ?_ ?_
  ·exact c5 (j5 (i:=4) S.nd (j9 a0h hr (by decide) rfl (a7 g6) (a5 (d6 0) b8)))
  exact j6
 ext c
 ·refine a01 PassesOwn.never ?_ ?_ M.Zbg ?_ ?_ (A6 5) ?_
  ·exact rfl
  ·exact rfl
  ·exact a5 (e9 t6 (e9 t6 (e9 u3 (d6 0) a8) a8) a8) b8
  ·exact p0 (i:=5) S.nd rfl (Or.inl rfl)
  ext c
  ·exact j5 (i:=6) S.nd (e9 t6 (e9 u3 (d6 0) (e9 m9 (e9 u3 a8 (d6 5)) a8)) a8)
  ext c
  ·refine j5 (i:=7) ?_ ?_
   ·exact S.nd
   exact j9 a5w hr (by decide) rfl (a7 (a7 (a7 g6))) (a5 (d6 6) (a5 (d6 4) (a5 (j9 a2C hr (by decide) rfl (a7 (a7 g6)) (a5 (e9 m9 (e9 u3 (d6 6) a8) a8) (a5 (d6 2) b8))) b8)))
  ext c
  ·exact j5 (i:=8) S.nd (j9 D2 hr (by decide) rfl (a7 (a7 g6)) (a5 (d6 7) (a5 (d6 1) b8)))
  ext c
  ·exact j5 (i:=9) S.nd (c3l (c3n (a6Z (.inr (.inr (.inl rfl))) rfl M.Zan (d8 (d6 8) a8) (a1I rfl M.Zcc (by rfl) rfl))) (c3o (b8K c1P (a0i (a8h rfl) rfl M.Zcr (by rfl) (d6 8)) (d6 3))))
  refine c5 ?_;refine m5 (PW.pt (a61 (PW.pt (a3f (a60 (d6 9)) (a0s (k6 (k9 hu) (d6 3) a8)))) (a4J (k6 a6u (a0i a0X rfl M.Zb0 (by rfl) (j9 N5 hr (by decide) rfl (a7 g6) (a5 (d6 7) b8))) a8)))) ?_ ?_
  ·exact c5 (j5 (i:=4) S.nd (d6 7))
  exact j6
 exact c5 (D7 4 (pv 4))
theorem a9v(D:Df K mg "_law_cell_at" a11)(M:MoB K mg):a1Q P w K mg base:=by
 exists z0,0,a4t,el2 λ_ _=>rfl
 exact b4 (m5 (k6 a6u (d6 1) (a0i a0X rfl M.Zb0 (by rfl) (d6 0))) (c5 (i5 (d8 (d6 0) (d6 1)))) j6) (c5 (i5 a8))
theorem b2W(D:Df K mg "_law_names" a4q):a7A P w K mg base:=by
 exists z0,0,a6K,el0 rfl
 exact c5 (i5 (F8 (a5 d9 (a5 d9 (a5 d9 (a5 d9 (a5 d9 b8)))))))
theorem a6t(D:Df K mg "_law_again_fits" X7)(M:MoB K mg)(D2:a5r P w K mg base):a18 P w K mg base:=by
 exists z0,13,a1L,el5 λ_ _ _ _ _=>rfl
 ext c
 ·exact j5 (i:=5) S.nd (a46 b3F rfl M.Zcb (by rfl) (d6 3))
 ext c
 ·refine a01 PassesOwn.never ?_ ?_ M.Zbg ?_ ?_ (A6 6) ?_
  ·exact rfl
  ·exact rfl
  ·exact a5 (d6 2) b8
  ·exact p0 (i:=6) S.nd rfl (Or.inl rfl)
  ext c
  ·exact j5 (i:=7) S.nd (a8S 5 D2 hr (by decide) rfl (d6 0) (pv 5))
  ext c
  ·exact m5 (PW.pt (a3f (a60 (a6Z (.inr (.inr (.inl rfl))) rfl M.Zan (d8 (d6 7) a8) (a1I rfl M.Zcc (by rfl) rfl))) (a0s (k6 a7l (a0i (a8h rfl) rfl M.Zcr (by rfl) (d6 7)) (d6 4))))) (c5 (i5 b5j)) j6
  exact c5 (a0E 5 hu (pv 5) (d6 1) (d6 7))
 exact c5 (D7 5 (pv 5))
theorem a9w(D:Df K mg "_law_program" a12)(M:MoB K mg)(a0C:a51 P w K mg base)(a1x:a7z P w K mg base)(Q1:a1Q P w K mg base)(a3L:a7A P w K mg base)(W5:a18 P w K mg base)(D2:a5r P w K mg base):a4Y P w K mg base:=by
 exists z0,14,a4w,el3 λ_ _ _=>rfl
 ext c
 ·exact j5 (i:=3) S.nd a3O
 ext c
 ·exact j5 (i:=4) S.nd (F8 b8)
 ext c
 ·refine b8S PassesOwn.never ?_ ?_ M.Zbg ?_ ?_ (A6 5) ?_
  ·exact rfl
  ·exact rfl
  ·exact a5 a8 (a5 (c46 (c3g rfl) rfl M.Zc9 (by rfl) (a0i a0X rfl M.Zb0 (by rfl) (d6 0)) (d6 1)) b8)
  ·exact p0 (i:=5) S.nd rfl (Or.inl rfl)
  ext c
  ·exact j5 (i:=6) S.nd (j9 a0C hr (by decide) rfl (a7 (a7 g6)) (a5 (d8 (d6 0) (d6 5)) (a5 (d6 5) b8)))
  ext c
  ·exact j5 (i:=7) S.nd (d8 (c02 a3L hr (by decide) rfl) (e9 t6 (e9 t6 (e9 u3 (d6 6) a8) a8) a8))
  ext c
  ·exact j5 (i:=8) S.nd (a6e 3 (j9 a1x hr (by decide) rfl (a7 (a7 (a7 (a7 g6)))) (a5 (d6 6) (a5 (d6 3) (a5 (a46 (b3H rfl) rfl M.Zcn (by rfl) (d6 3)) (a5 (d6 2) b8))))))
  ext c
  ·exact j5 (i:=9) S.nd (e9 m9 a8 (e9 t6 (e9 t6 (e9 u3 (d6 6) a8) a8) a8))
  ext c
  ·exact j5 (i:=10) S.nd b5j
  ext c
  ·refine m5 (PW.pt (a61 (k6 (k9 hu) (e9 t6 (d6 6) a8) a8) (a4J (c3t 3 hu (pv 3) (d6 7) (by first|rfl|exact nomark _))))) ?_ ?_
   ·exact c5 (j5 (i:=10) S.nd (a6e 3 (j9 W5 hr (by decide) rfl (a7 (a7 (a7 (a7 (a7 g6))))) (a5 (d6 8) (a5 (d6 7) (a5 (d6 9) (a5 (d6 3) (a5 (d6 2) b8))))))))
   exact j6
  refine c5 ?_;refine m5 ?_ ?_ ?_
  ·exact k6 c1N (d6 10) b5j
  ·exact b4 (W8 4 (pv 4) (n8 (a5 d9 (a5 (d6 7) (a5 (d6 8) b8))))) (c5 (a0E 3 hu (pv 3) (d6 7) (a8S 3 D2 hr (by decide) rfl (d6 8) (pv 3))))
  exact b4 (W8 4 (pv 4) (n8 (a5 d9 (a5 (d6 9) (a5 (d6 7) (a5 (d6 8) b8)))))) (c5 (c09 (i:=3) (j:=10) S.nd (by decide) (pv 10)))
 ext c
 ·exact j5 (i:=6) S.nd (j9 a0C hr (by decide) rfl (a7 (a7 g6)) (a5 (j9 Q1 hr (by decide) rfl (a7 (a7 g6)) (a5 (d6 0) (a5 a8 b8))) (a5 a8 b8)))
 ext y
 refine e9 m9 (d6 4) ?_;exact F8 (a5 (n8 (a5 d9 (a5 (a6e 3 (j9 a1x hr (by decide) rfl (a7 (a7 (a7 (a7 g6)))) (a5 (d6 6) (a5 (d6 3) (a5 (a46 (b3H rfl) rfl M.Zcn (by rfl) (d6 3)) (a5 (d6 2) b8)))))) b8))) b8)
theorem b4j{k:Nat}(hk0:2<=k){B4:Λ}(D:Df K mg "_law_made" a20)(M:MoB K mg)(I:Io P w K mg base)(E8:p8 P w K mg base "_law_made" ["_law_tree"] k B4):p8 P w K mg base "_law_made" ["_law_tree"] (k+1) (m3 1 (a0S B4)):=by
 exists z0,k,a4u,el1 λ_=>rfl
 ext c
 ·exact j5 (i:=1) S.nd (d8 (d6 0) a8)
 ext c
 ·exact m5 (k6 (k9 hu) (d6 1) d9) (c5 (i5 (a3M I.i_Plain hr (by lia) rfl (a7 g6) (a5 (d8 (d6 0) a8) b8)))) j6
 ext c
 ·exact m5 (k6 (k9 hu) (d6 1) d9) (c5 (i5 (a3M I.i_Named hr (by lia) rfl (a7 g6) (a5 (d8 (d6 0) a8) b8)))) j6
 ext c
 ·refine m5 ?_ ?_ ?_
  ·exact k6 (k9 hu) (d6 1) d9
  ·ext y
   refine a3M I.i_Beside hr ?_ ?_ ?_ ?_
   ·lia
   ·exact rfl
   ·exact a7 g6
   refine a5 ?_ ?_
   ·refine a46 a6b ?_ M.Zb1 ?_ ?_
    ·exact rfl
    ·rfl
    exists y0,["_law_part"],["_law_tree","_law_word"],2,b0w
    ·exact rfl
    ·exact a2E (d8 (d6 0) a8)
    intro C fp pins s H;exact j9 E8 hr (by lia) rfl (a7 g6) (a5 (d6 2) b8)
   exact b8
  exact j6
 ext c
 ·refine m5 ?_ ?_ ?_
  ·exact k6 (k9 hu) (d6 1) d9
  ·ext y
   refine a3M I.i_Above hr ?_ ?_ ?_ ?_
   ·lia
   ·exact rfl
   ·exact a7 g6
   refine a5 ?_ ?_
   ·refine a46 a6b ?_ M.Zb1 ?_ ?_
    ·exact rfl
    ·rfl
    exists y0,["_law_part"],["_law_tree","_law_word"],2,b0x
    ·exact rfl
    ·exact a2E (d8 (d6 0) a8)
    intro C fp pins s H;exact j9 E8 hr (by lia) rfl (a7 g6) (a5 (d6 2) b8)
   exact b8
  exact j6
 ext c
 ·exact m5 (k6 (k9 hu) (d6 1) d9) (c5 (i5 (a3M I.i_Across hr (by lia) rfl (a7 (a7 g6)) (a5 (d8 (d6 0) a8) (a5 (j9 E8 hr (by lia) rfl (a7 g6) (a5 (d8 (d6 0) a8) b8)) b8))))) j6
 ext c
 ·exact m5 (k6 (k9 hu) (d6 1) d9) (c5 (i5 (a3M I.i_Down hr (by lia) rfl (a7 (a7 g6)) (a5 (d8 (d6 0) a8) (a5 (j9 E8 hr (by lia) rfl (a7 g6) (a5 (d8 (d6 0) a8) b8)) b8))))) j6
 ext c
 ·exact m5 (k6 (k9 hu) (d6 1) d9) (c5 (i5 (a3M I.i_Turned hr (by lia) rfl (a7 (a7 g6)) (a5 (d8 (d6 0) a8) (a5 (j9 E8 hr (by lia) rfl (a7 g6) (a5 (d8 (d6 0) a8) b8)) b8))))) j6
 exact c5 (i5 (a3M I.i_Dyed hr (by lia) rfl (a7 (a7 (a7 g6))) (a5 (d8 (d6 0) a8) (a5 (d8 (d6 0) a8) (a5 (j9 E8 hr (by lia) rfl (a7 g6) (a5 (d8 (d6 0) a8) b8)) b8)))))
theorem b2K(a2r:Df K mg "_law_made" a20)(M:MoB K mg)(I:Io P w K mg base):∀n:Nat,p8 P w K mg base "_law_made" ["_law_tree"] (2+n) (a3Y n):=by
 intro n
 induction n with
 |zero=>exact o0 (k:=1) a2r a4u (λ_ _ _ _ _ _=>el1 (λ_=>rfl)) λf cdv A outer s H E hr=>A3
 |succ n ih=>
  exact b4j P w base (Nat.le_add_right _ _) a2r M I ih
theorem b2T(D:Df K mg "_law_built" a4n)(E8:b47 P w K mg base):a7x P w K mg base:=by
 exists z0,14,a6H,el1 λ_=>rfl
 ext c
 ·exact j5 (i:=1) S.nd (F8 b8)
 ext c
 ·refine a3P PassesOwn.never ?_ (d6 0) ?_ (A6 2) ?_
  ·exact rfl
  ·exact p0 (i:=2) S.nd rfl (Or.inl rfl)
  exact c5 (W8 1 (pv 1) (e9 m9 (a3N (d6 2) a6f (a6g (a00 a8))) (n8 (a5 (j9 E8 hr (by decide) rfl (a7 g6) (a5 (d8 (d6 2) (a00 a8)) b8)) b8))))
 exact c5 (D7 1 (pv 1))
theorem b4q(D:Df K mg "times_of" a5Q):a8w P w K mg base:=by
 exists z0,0,a72,el1 λ_=>rfl
 exact b4 (m5 (k6 (k9 hu) (d8 (d6 0) a8) d9) (c5 (i5 (d8 (d6 0) a8))) j6) (c5 (i5 a8))
theorem b5N(D:Df K mg "size_of" a7q)(M:MoB K mg):b0S P w K mg base:=by
 exists z0,0,a9M,el1 λ_=>rfl
 exact c5 (i5 (n8 (a5 (a0i a0X rfl M.Zb0 (by rfl) (d6 0)) (a5 (a0i a0X rfl M.Zb0 (by rfl) (d8 (d6 0) a8)) b8))))
theorem b0I(D:Dm K "size" "Plain.size" a2X a.Zaw)(O:Oc K mg a)(a6X:b0S P w K mg base):E4 P w K mg base a:=by
 exists z1,1,a5h,el3 λ_ _ _=>rfl
 exact c5 (i5 (j9 a6X hr (by decide) rfl (a7 g6) (a5 (C7 O.fld_rows (d6 0)) b8)))
theorem b0H(D:Dm K "size" "Named.size" a2W a.Zax)(O:Oc K mg a):E3 P w K mg base a:=by
 exists z1,0,a5g,el3 λ_ _ _=>rfl
 exact b4 (m5 (b5n 1 hu (pv 1) (C7 O.fld_name (d6 0)) (by first|rfl|exact nomark _)) (c5 a3Q) j6) (c5 (i5 (a8T 1 hu (pv 1) (C7 O.fld_name (d6 0)))))
theorem a8c(D:Df K mg "checked_size" a1f){Zcd:AA}{Zcx:Nat}(Zce:mg "LONGEST"=ξ Zcd)(Zcf:a5s K Zcx Zcd=ξ S7):G6 P w K mg base:=by
 exists z0,0,a3m,el3 λ_ _ _=>rfl
 exact b4 (m5 (PW.pt (a3f (k6 a7l (d6 0) (b2c rfl Zce Zcf)) (a0s (k6 a7l (d6 1) (b2c rfl Zce Zcf))))) (c5 a3Q) j6) (c5 (i5 (n8 (a5 (d6 0) (a5 (d6 1) b8)))))
theorem b0N(D:Df K mg "size_above" O9)(u6:G6 P w K mg base):a0B P w K mg base:=by
 exists z0,1,a5l,el3 λ_ _ _=>rfl
 ext c
 ·exact m5 (k6 (a4a hu) (d8 (d6 0) a8) (d8 (d6 1) a8)) (c5 a3Q) j6
 exact c5 (i5 (j9 u6 hr (by decide) rfl (a7 (a7 (a7 g6))) (a5 (e9 m9 (d8 (d6 0) a8) (d8 (d6 1) a8)) (a5 (d8 (d6 0) a8) (a5 (d6 2) b8)))))
theorem a9x(D:Df K mg "size_beside" L1)(u6:G6 P w K mg base):Y7 P w K mg base:=by
 exists z0,1,a4A,el3 λ_ _ _=>rfl
 ext c
 ·exact m5 (k6 (a4a hu) (d8 (d6 0) a8) (d8 (d6 1) a8)) (c5 a3Q) j6
 exact c5 (i5 (j9 u6 hr (by decide) rfl (a7 (a7 (a7 g6))) (a5 (d8 (d6 0) a8) (a5 (e9 m9 (d8 (d6 0) a8) (d8 (d6 1) a8)) (a5 (d6 2) b8)))))
theorem b0G{k:Nat}(hk0:2<=k){i4 g7 g8 i9 j0 g9 Zab:Λ}(D:Dm K "size" "Above.size" a0H a.Zam)(O:Oc K mg a){Q4:AB}(C8:FnV K mg "size_above" Q4)(K2:a0B P w K mg base)(g:E2 P w K mg base a k i4 g7 g8 i9 j0 g9 Zab):z9 P w K mg base a.Zam ["self","known","row"] (k+1) (m3 0 (a54 i4 g7 g8 i9 j0 g9 Zab)):=by
 exists z1,k,a13,el3 λ_ _ _=>rfl
 exact c5 (i5 (j9 g.Zbb hr (by lia) rfl (a7 (a7 (a7 (a7 g6)))) (a5 (C7 O.fld_parts (d6 0)) (a5 (d6 1) (a5 (d6 2) (a5 (b6n C8) b8))))))
theorem a9p{k:Nat}(hk0:2<=k){i4 g7 g8 i9 j0 g9 Zab:Λ}(D:Dm K "size" "Across.size" Z9 a.Zah)(O:Oc K mg a)(u6:G6 P w K mg base)(m8:E4 P w K mg base a)(m7:E3 P w K mg base a)(g:E2 P w K mg base a k i4 g7 g8 i9 j0 g9 Zab):z9 P w K mg base a.Zah ["self","known","row"] (k+1) (m3 1 (Y9 i4 g7 g8 i9 j0 g9 Zab)):=by
 exists z1,k,a1i,el3 λ_ _ _=>rfl
 ext c
 ·refine j5 (i:=3) ?_ ?_
  ·exact S.nd
  ext b
  ·exact C7 O.fld_part (d6 0)
  ·exact a7 (a7 g6)
  exact a5 (d6 1) (a5 (d6 2) b8)
 exact c5 (i5 (j9 u6 hr (by lia) rfl (a7 (a7 (a7 g6))) (a5 (d8 (d6 3) a8) (a5 (e9 u3 (d8 (d6 3) a8) (C7 O.fld_many (d6 0))) (a5 (d6 2) b8)))))
theorem a9q{k:Nat}(hk0:2<=k){i4 g7 g8 i9 j0 g9 Zab:Λ}(D:Dm K "size" "Beside.size" a0a a.Zai)(O:Oc K mg a){N6:AB}(C1:FnV K mg "size_beside" N6)(E9:Y7 P w K mg base)(g:E2 P w K mg base a k i4 g7 g8 i9 j0 g9 Zab):z9 P w K mg base a.Zai ["self","known","row"] (k+1) (m3 0 (a41 i4 g7 g8 i9 j0 g9 Zab)):=by
 exists z1,k,a1j,el3 λ_ _ _=>rfl
 exact c5 (i5 (j9 g.Zbb hr (by lia) rfl (a7 (a7 (a7 (a7 g6)))) (a5 (C7 O.fld_parts (d6 0)) (a5 (d6 1) (a5 (d6 2) (a5 (b6n C1) b8))))))
theorem b2P{k:Nat}(hk0:2<=k){i4 g7 g8 i9 j0 g9 Zab:Λ}(D:Dm K "size" "Down.size" a1J a.Zao)(O:Oc K mg a)(u6:G6 P w K mg base)(m8:E4 P w K mg base a)(m7:E3 P w K mg base a)(g:E2 P w K mg base a k i4 g7 g8 i9 j0 g9 Zab):z9 P w K mg base a.Zao ["self","known","row"] (k+1) (m3 1 (a1w i4 g7 g8 i9 j0 g9 Zab)):=by
 exists z1,k,a26,el3 λ_ _ _=>rfl
 ext c
 ·refine j5 (i:=3) ?_ ?_
  ·exact S.nd
  ext b
  ·exact C7 O.fld_part (d6 0)
  ·exact a7 (a7 g6)
  exact a5 (d6 1) (a5 (d6 2) b8)
 exact c5 (i5 (j9 u6 hr (by lia) rfl (a7 (a7 (a7 g6))) (a5 (e9 u3 (d8 (d6 3) a8) (C7 O.fld_many (d6 0))) (a5 (d8 (d6 3) a8) (a5 (d6 2) b8)))))
theorem b2Q{k:Nat}(hk0:2<=k){i4 g7 g8 i9 j0 g9 Zab:Λ}(D:Dm K "size" "Dyed.size" a1K a.Zap)(O:Oc K mg a)(m8:E4 P w K mg base a)(m7:E3 P w K mg base a)(g:E2 P w K mg base a k i4 g7 g8 i9 j0 g9 Zab):z9 P w K mg base a.Zap ["self","known","row"] (k+1) (m3 0 (a7D i4 g7 g8 i9 j0 g9 Zab)):=by
 exists z1,k,a27,el3 λ_ _ _=>rfl
 ext y
 ext b
 ·exact C7 O.fld_part (d6 0)
 ·exact a7 (a7 g6)
 exact a5 (d6 1) (a5 (d6 2) b8)
theorem a9t{k:Nat}(hk0:2<=k){i4 g7 g8 i9 j0 g9 Zab:Λ}(D:Dm K "size" "Turned.size" a0d a.Zaj)(O:Oc K mg a){Zbc:AA}{Zbo:Nat}(Zbp:mg "LYING_WAYS"=ξ Zbc)(Zbq:a5s K Zbo Zbc=ξ P3)(m8:E4 P w K mg base a)(m7:E3 P w K mg base a)(g:E2 P w K mg base a k i4 g7 g8 i9 j0 g9 Zab):z9 P w K mg base a.Zaj ["self","known","row"] (k+1) (m3 1 (Z1 i4 g7 g8 i9 j0 g9 Zab)):=by
 exists z1,k,a1m,el3 λ_ _ _=>rfl
 ext c
 ·refine j5 (i:=3) ?_ ?_
  ·exact S.nd
  ext b
  ·exact C7 O.fld_part (d6 0)
  ·exact a7 (a7 g6)
  exact a5 (d6 1) (a5 (d6 2) b8)
 exact b4 (m5 (k6 (b20 hu) (C7 O.fld_way (d6 0)) (b2c rfl Zbp Zbq)) (c5 (i5 (n8 (a5 (d8 (d6 3) a8) (a5 (d8 (d6 3) a8) b8))))) j6) (c5 (D7 3 (pv 3)))
theorem a8f{k:Nat}(hk0:2<=k){i4 g7 g8 i9 j0 g9 Zab:Λ}(D:Df K mg "size_of_laid" V7)(O:Oc K mg a){Q4:AB}(C8:FnV K mg "size_above" Q4){N6:AB}(C1:FnV K mg "size_beside" N6)(m8:E4 P w K mg base a)(m7:E3 P w K mg base a)(E9:Y7 P w K mg base)(K2:a0B P w K mg base)(g:E2 P w K mg base a k i4 g7 g8 i9 j0 g9 Zab):p8 P w K mg base "size_of_laid" ["parts","known","row","lay"] (k+1) (m3 3 (N1 i4 g7 g8 i9 j0 g9 Zab)):=by
 exists z0,k,a0w,el4 λ_ _ _ _=>rfl
 ext c
 ·refine a8i (i:=4) (ys:=["part"]) (N0:=["parts","known","row","lay","found","come","size"]) ?_ (λ_ _ h=>h) ?_ ⟨by kernel_rfl,rfl,δ rfl,δ rfl,δ rfl⟩ ?_ (λC fp pins s H=>p0 (i:=7) a6q rfl (Or.inl rfl)) (λn h=>G2 (i:=7) (Nat.le_of_eq h)) (λC fp pins s H=>a2D) ?_
  ·exact S.nd
  ·exact rfl
  ·exact a2E (d6 0)
  intro C fp pins s H;refine Q9 (a9 m8 O.kc_Plain O.fi_Plain_size (by lia) rfl (a9 m7 O.kc_Named O.fi_Named_size (by lia) rfl (a9 g.Za0 O.kc_Beside O.fi_Beside_size (by lia) rfl (a9 g.Za4 O.kc_Above O.fi_Above_size (by lia) rfl (a9 g.Za1 O.kc_Across O.fi_Across_size (by lia) rfl (a9 g.Za6 O.kc_Down O.fi_Down_size (by lia) rfl (a9 g.Za2 O.kc_Turned O.fi_Turned_size (by lia) rfl (a9 g.Za7 O.kc_Dyed O.fi_Dyed_size (by lia) rfl A9)))))))) hr (d6 7) ?_ ?_
  ·exact a7 (a7 g6)
  exact a5 (d6 1) (a5 (d6 2) b8)
 ext c
 ·exact j5 (i:=5) S.nd (d8 (d6 4) a8)
 ext c
 ·refine a3P PassesOwn.never ?_ ?_ ?_ (A6 6) ?_
  ·exact rfl
  ·exact a3N (d6 4) (a6g a8) a6f
  ·exact p0 (i:=6) S.nd rfl (Or.inl rfl)
  exact c5 (j5 (i:=5) S.nd (b3O 3 (a2G E9 C1 (by lia) rfl (a2G K2 C8 (by lia) rfl b08)) hr (pv 3) (a7 (a7 (a7 g6))) (a5 (d6 5) (a5 (d6 6) (a5 (d6 2) b8)))))
 exact c5 (D7 5 (pv 5))
theorem a9o(a0A:Dm K "size" "Above.size" a0H a.Zam)(Y1:Dm K "size" "Across.size" Z9 a.Zah)(Y2:Dm K "size" "Beside.size" a0a a.Zai)(a1s:Dm K "size" "Down.size" a1J a.Zao)(a1t:Dm K "size" "Dyed.size" a1K a.Zap)(Y5:Dm K "size" "Turned.size" a0d a.Zaj)(Zbk:Df K mg "size_of_laid" V7)(O:Oc K mg a){Q4:AB}(C8:FnV K mg "size_above" Q4){N6:AB}(C1:FnV K mg "size_beside" N6){Zbc:AA}{Zbo:Nat}(Zbp:mg "LYING_WAYS"=ξ Zbc)(Zbq:a5s K Zbo Zbc=ξ P3)(K2:a0B P w K mg base)(u6:G6 P w K mg base)(m8:E4 P w K mg base a)(m7:E3 P w K mg base a)(E9:Y7 P w K mg base):∀n:Nat,E2 P w K mg base a (2+n) (a1W n) (a05 n) (a06 n) (a2N n) (a2O n) (a07 n) (a0t n):=by
 intro n
 induction n with
 |zero=>exact⟨x4 (k:=1) a0A a13 (λ_ _ _ _ _ _=>el3 (λ_ _ _=>rfl)) λcdv A outer s H E hr=>A3,x4 (k:=1) Y1 a1i (λ_ _ _ _ _ _=>el3 (λ_ _ _=>rfl)) λcdv A outer s H E hr=>A3,x4 (k:=1) Y2 a1j (λ_ _ _ _ _ _=>el3 (λ_ _ _=>rfl)) λcdv A outer s H E hr=>A3,x4 (k:=1) a1s a26 (λ_ _ _ _ _ _=>el3 (λ_ _ _=>rfl)) λcdv A outer s H E hr=>A3,x4 (k:=1) a1t a27 (λ_ _ _ _ _ _=>el3 (λ_ _ _=>rfl)) λcdv A outer s H E hr=>A3,x4 (k:=1) Y5 a1m (λ_ _ _ _ _ _=>el3 (λ_ _ _=>rfl)) λcdv A outer s H E hr=>A3,o0 (k:=1) Zbk a0w (λ_ _ _ _ _ _=>el4 (λ_ _ _ _=>rfl)) λf cdv A outer s H E hr=>A3⟩
 |succ n ih=>
  exact⟨b0G P w base a (Nat.le_add_right _ _) a0A O C8 K2 ih,a9p P w base a (Nat.le_add_right _ _) Y1 O u6 m8 m7 ih,a9q P w base a (Nat.le_add_right _ _) Y2 O C1 E9 ih,b2P P w base a (Nat.le_add_right _ _) a1s O u6 m8 m7 ih,b2Q P w base a (Nat.le_add_right _ _) a1t O m8 m7 ih,a9t P w base a (Nat.le_add_right _ _) Y5 O Zbp Zbq m8 m7 ih,a8f P w base a (Nat.le_add_right _ _) Zbk O C8 C1 m8 m7 E9 K2 ih⟩
theorem b2Y(D:Df K mg "size_step" S6)(O:Oc K mg a)(m8:E4 P w K mg base a)(m7:E3 P w K mg base a)(Za0:a97 P w K mg base a)(Za4:b1W P w K mg base a)(Za1:a96 P w K mg base a)(Za6:b3v P w K mg base a)(Za2:b0a P w K mg base a)(Za7:b3w P w K mg base a):a3v P w K mg base:=by
 exists z0,22,a6M,el3 λ_ _ _=>rfl
 ext y
 refine Q9 (a9 m8 O.kc_Plain O.fi_Plain_size (by decide) rfl (a9 m7 O.kc_Named O.fi_Named_size (by decide) rfl (a9 Za0 O.kc_Beside O.fi_Beside_size (by decide) rfl (a9 Za4 O.kc_Above O.fi_Above_size (by decide) rfl (a9 Za1 O.kc_Across O.fi_Across_size (by decide) rfl (a9 Za6 O.kc_Down O.fi_Down_size (by decide) rfl (a9 Za2 O.kc_Turned O.fi_Turned_size (by decide) rfl (a9 Za7 O.kc_Dyed O.fi_Dyed_size (by decide) rfl A9)))))))) hr (d6 0) ?_ ?_
 ·exact a7 (a7 g6)
 exact a5 (d6 1) (a5 (d6 2) b8)
theorem b0J(D:Df K mg "colours_of" a2Y)(M:MoB K mg):a5Z P w K mg base:=by
 exists z0,0,a5i,el1 λ_=>rfl
 exact c5 (i5 (b5k rfl rfl M.Zb6 rfl M.Zda (a6d d9 (d6 0))))
theorem a5J(D:Df K mg "knots_by_colour" V6)(a2A:a5Z P w K mg base):a1v P w K mg base:=by
 exists z0,1,a1n,el1 λ_=>rfl
 ext c
 ·exact j5 (i:=1) S.nd (a6d d9 (d6 0))
 ext c
 ·exact j5 (i:=2) S.nd a3O
 exact b4 (a3P PassesOwn.never rfl (j9 a2A hr (by decide) rfl (a7 g6) (a5 (d6 0) b8)) (p0 (i:=3) S.nd rfl (Or.inl rfl)) (A6 3) (c5 (a0E 2 hu (pv 2) (d6 3) (b8L (d6 1) (d6 3))))) (c5 (D7 2 (pv 2)))
theorem a8b(D:Dm K "counts" "Plain.counts" a1e a.Zaq)(O:Oc K mg a)(T5:a1v P w K mg base):B9 P w K mg base a:=by
 exists z1,2,a3l,el2 λ_ _=>rfl
 exact c5 (i5 (j9 T5 hr (by decide) rfl (a7 g6) (a5 (C7 O.fld_rows (d6 0)) b8)))
theorem a8a(D:Dm K "counts" "Named.counts" a1d a.Zar)(M:MoB K mg)(O:Oc K mg a):B8 P w K mg base a:=by
 exists z1,0,a3k,el2 λ_ _=>rfl
 exact c5 (i5 (a46 b3F rfl M.Zcb (by rfl) (a8T 1 hu (pv 1) (C7 O.fld_name (d6 0)))))
theorem a8d(D:Df K mg "counts_times" a1g):T0 P w K mg base:=by
 exists z0,0,a3n,el2 λ_ _=>rfl
 ext c
 ·exact j5 (i:=2) S.nd a3O
 exact b4 (c08 0 PassesOwn.never rfl (pv 0) (b24 rfl (a0n (p0 (i:=3) S.nd rfl (Or.inl rfl)) (a0n (p0 (i:=4) S.nd rfl (Or.inl rfl)) a8o))) (a6Q [3,4]) (c5 (a0E 2 hu (pv 2) (d6 3) (e9 u3 (d6 4) (d6 1))))) (c5 (D7 2 (pv 2)))
theorem b2R(D:Df K mg "exchanged" a4l):a3t P w K mg base:=by
 exists z0,0,a6F,el3 λ_ _ _=>rfl
 exact b4 (m5 (k6 (k9 hu) (d6 0) (d6 1)) (c5 (D7 2 (pv 2))) j6) (b4 (m5 (k6 (k9 hu) (d6 0) (d6 2)) (c5 (D7 1 (pv 1))) j6) (c5 (D7 0 (pv 0))))
theorem a79{k:Nat}(hk0:3<=k){d7 c7 c8 f9 g5 c9 Zaa:Λ}(D:Dm K "counts" "Above.counts" V5 a.Zaf)(O:Oc K mg a)(g:B7 P w K mg base a k d7 c7 c8 f9 g5 c9 Zaa):z9 P w K mg base a.Zaf ["self","known"] (k+1) (m3 0 (a3w d7 c7 c8 f9 g5 c9 Zaa)):=by
 exists z1,k,a0v,el2 λ_ _=>rfl
 exact c5 (i5 (j9 g.Za3 hr (by lia) rfl (a7 (a7 g6)) (a5 (C7 O.fld_parts (d6 0)) (a5 (d6 1) b8))))
theorem a7i{k:Nat}(hk0:3<=k){d7 c7 c8 f9 g5 c9 Zaa:Λ}(D:Dm K "counts" "Across.counts" R3 a.Zac)(O:Oc K mg a)(C0:T0 P w K mg base)(l7:B9 P w K mg base a)(l6:B8 P w K mg base a)(g:B7 P w K mg base a k d7 c7 c8 f9 g5 c9 Zaa):z9 P w K mg base a.Zac ["self","known"] (k+1) (m3 0 (a3c d7 c7 c8 f9 g5 c9 Zaa)):=by
 exists z1,k,X8,el2 λ_ _=>rfl
 ext y
 refine j9 C0 hr ?_ ?_ ?_ ?_
 ·lia
 ·exact rfl
 ·exact a7 (a7 g6)
 refine a5 ?_ ?_
 ·refine b8N ?_
  ext a
  ·exact C7 O.fld_part (d6 0)
  ·exact a7 g6
  exact a5 (d6 1) b8
 exact a5 (C7 O.fld_many (d6 0)) b8
theorem a7j{k:Nat}(hk0:3<=k){d7 c7 c8 f9 g5 c9 Zaa:Λ}(D:Dm K "counts" "Beside.counts" R4 a.Zad)(O:Oc K mg a)(g:B7 P w K mg base a k d7 c7 c8 f9 g5 c9 Zaa):z9 P w K mg base a.Zad ["self","known"] (k+1) (m3 0 (a3d d7 c7 c8 f9 g5 c9 Zaa)):=by
 exists z1,k,X9,el2 λ_ _=>rfl
 exact c5 (i5 (j9 g.Za3 hr (by lia) rfl (a7 (a7 g6)) (a5 (C7 O.fld_parts (d6 0)) (a5 (d6 1) b8))))
theorem a9r{k:Nat}(hk0:3<=k){d7 c7 c8 f9 g5 c9 Zaa:Λ}(D:Dm K "counts" "Down.counts" a0b a.Zak)(O:Oc K mg a)(C0:T0 P w K mg base)(l7:B9 P w K mg base a)(l6:B8 P w K mg base a)(g:B7 P w K mg base a k d7 c7 c8 f9 g5 c9 Zaa):z9 P w K mg base a.Zak ["self","known"] (k+1) (m3 0 (a42 d7 c7 c8 f9 g5 c9 Zaa)):=by
 exists z1,k,a1k,el2 λ_ _=>rfl
 ext y
 refine j9 C0 hr ?_ ?_ ?_ ?_
 ·lia
 ·exact rfl
 ·exact a7 (a7 g6)
 refine a5 ?_ ?_
 ·refine b8N ?_
  ext a
  ·exact C7 O.fld_part (d6 0)
  ·exact a7 g6
  exact a5 (d6 1) b8
 exact a5 (C7 O.fld_many (d6 0)) b8
theorem a9s{k:Nat}(hk0:3<=k){d7 c7 c8 f9 g5 c9 Zaa:Λ}(D:Dm K "counts" "Dyed.counts" a0c a.Zal)(O:Oc K mg a)(a0g:a3t P w K mg base)(l7:B9 P w K mg base a)(l6:B8 P w K mg base a)(g:B7 P w K mg base a k d7 c7 c8 f9 g5 c9 Zaa):z9 P w K mg base a.Zal ["self","known"] (k+1) (m3 3 (Z0 d7 c7 c8 f9 g5 c9 Zaa)):=by
 exists z1,k,a1l,el2 λ_ _=>rfl
 ext c
 ·exact j5 (i:=2) S.nd a3O
 ext c
 ·refine b6p PassesOwn.never ?_ ?_ ?_ (a6Q [3,4]) ?_
  ·exact rfl
  ·ext a
   ·exact C7 O.fld_part (d6 0)
   ·exact a7 g6
   exact a5 (d6 1) b8
  ·exact b24 rfl (a0n (p0 (i:=3) S.nd rfl (Or.inl rfl)) (a0n (p0 (i:=4) S.nd rfl (Or.inl rfl)) a8o))
  exact c5 (a0E 2 hu (pv 2) (j9 a0g hr (by lia) rfl (a7 (a7 (a7 g6))) (a5 (d6 3) (a5 (C7 O.fld_one (d6 0)) (a5 (C7 O.fld_other (d6 0)) b8)))) (d6 4))
 exact c5 (D7 2 (pv 2))
theorem a7k{k:Nat}(hk0:3<=k){d7 c7 c8 f9 g5 c9 Zaa:Λ}(D:Dm K "counts" "Turned.counts" R5 a.Zae)(O:Oc K mg a)(l7:B9 P w K mg base a)(l6:B8 P w K mg base a)(g:B7 P w K mg base a k d7 c7 c8 f9 g5 c9 Zaa):z9 P w K mg base a.Zae ["self","known"] (k+1) (m3 0 (a3e d7 c7 c8 f9 g5 c9 Zaa)):=by
 exists z1,k,Y0,el2 λ_ _=>rfl
 ext y
 ext a
 ·exact C7 O.fld_part (d6 0)
 ·exact a7 g6
 exact a5 (d6 1) b8
theorem a6s{k:Nat}(hk0:3<=k){d7 c7 c8 f9 g5 c9 Zaa:Λ}(D:Df K mg "counts_of_laid" O8)(O:Oc K mg a)(l7:B9 P w K mg base a)(l6:B8 P w K mg base a)(g:B7 P w K mg base a k d7 c7 c8 f9 g5 c9 Zaa):p8 P w K mg base "counts_of_laid" ["parts","known"] (k+1) (m3 4 (G7 d7 c7 c8 f9 g5 c9 Zaa)):=by
 exists z0,k,V8,el2 λ_ _=>rfl
 ext c
 ·exact j5 (i:=2) S.nd a3O
 ext c
 ·refine a3P PassesOwn.never ?_ (d6 0) ?_ (A6 3) ?_
  ·exact rfl
  ·exact p0 (i:=3) S.nd rfl (Or.inl rfl)
  refine c5 ?_;refine b6p PassesOwn.never ?_ ?_ ?_ (a6Q [4,5]) ?_
  ·exact rfl
  ·refine Q9 (a9 l7 O.kc_Plain O.fi_Plain_counts (by lia) rfl (a9 l6 O.kc_Named O.fi_Named_counts (by lia) rfl (a9 g.Zas O.kc_Beside O.fi_Beside_counts (by lia) rfl (a9 g.Zav O.kc_Above O.fi_Above_counts (by lia) rfl (a9 g.Zat O.kc_Across O.fi_Across_counts (by lia) rfl (a9 g.Zay O.kc_Down O.fi_Down_counts (by lia) rfl (a9 g.Zau O.kc_Turned O.fi_Turned_counts (by lia) rfl (a9 g.Zaz O.kc_Dyed O.fi_Dyed_counts (by lia) rfl A9)))))))) hr (d6 3) ?_ ?_
   ·exact a7 g6
   exact a5 (d6 1) b8
  ·exact b24 rfl (a0n (p0 (i:=4) S.nd rfl (Or.inl rfl)) (a0n (p0 (i:=5) S.nd rfl (Or.inl rfl)) a8o))
  exact c5 (a0E 2 hu (pv 2) (d6 4) (e9 m9 (b3P 2 hu (pv 2) (d6 4) a8) (d6 5)))
 exact c5 (D7 2 (pv 2))
theorem a7h(S8:Dm K "counts" "Above.counts" V5 a.Zaf)(Q6:Dm K "counts" "Across.counts" R3 a.Zac)(Q7:Dm K "counts" "Beside.counts" R4 a.Zad)(Y3:Dm K "counts" "Down.counts" a0b a.Zak)(Y4:Dm K "counts" "Dyed.counts" a0c a.Zal)(Q8:Dm K "counts" "Turned.counts" R5 a.Zae)(Zbf:Df K mg "counts_of_laid" O8)(O:Oc K mg a)(C0:T0 P w K mg base)(l7:B9 P w K mg base a)(l6:B8 P w K mg base a)(a0g:a3t P w K mg base):∀n:Nat,B7 P w K mg base a (3+n) (R0 n) (O4 n) (O5 n) (U2 n) (U3 n) (O6 n) (M0 n):=by
 intro n
 induction n with
 |zero=>exact⟨x4 (k:=2) S8 a0v (λ_ _ _ _ _ _=>el2 (λ_ _=>rfl)) λcdv A outer s H E hr=>A3,x4 (k:=2) Q6 X8 (λ_ _ _ _ _ _=>el2 (λ_ _=>rfl)) λcdv A outer s H E hr=>A3,x4 (k:=2) Q7 X9 (λ_ _ _ _ _ _=>el2 (λ_ _=>rfl)) λcdv A outer s H E hr=>A3,x4 (k:=2) Y3 a1k (λ_ _ _ _ _ _=>el2 (λ_ _=>rfl)) λcdv A outer s H E hr=>A3,x4 (k:=2) Y4 a1l (λ_ _ _ _ _ _=>el2 (λ_ _=>rfl)) λcdv A outer s H E hr=>A3,x4 (k:=2) Q8 Y0 (λ_ _ _ _ _ _=>el2 (λ_ _=>rfl)) λcdv A outer s H E hr=>A3,o0 (k:=2) Zbf V8 (λ_ _ _ _ _ _=>el2 (λ_ _=>rfl)) λf cdv A outer s H E hr=>A3⟩
 |succ n ih=>
  exact⟨a79 P w base a (Nat.le_add_right _ _) S8 O ih,a7i P w base a (Nat.le_add_right _ _) Q6 O C0 l7 l6 ih,a7j P w base a (Nat.le_add_right _ _) Q7 O ih,a9r P w base a (Nat.le_add_right _ _) Y3 O C0 l7 l6 ih,a9s P w base a (Nat.le_add_right _ _) Y4 O a0g l7 l6 ih,a7k P w base a (Nat.le_add_right _ _) Q8 O l7 l6 ih,a6s P w base a (Nat.le_add_right _ _) Zbf O l7 l6 ih⟩
theorem a9u(D:Df K mg "counts_step" L0)(O:Oc K mg a)(l7:B9 P w K mg base a)(l6:B8 P w K mg base a)(Zas:a76 P w K mg base a)(Zav:a8s P w K mg base a)(Zat:a75 P w K mg base a)(Zay:a98 P w K mg base a)(Zau:a77 P w K mg base a)(Zaz:a99 P w K mg base a):Y6 P w K mg base:=by
 exists z0,23,a4s,el3 λ_ _ _=>rfl
 ext y
 refine Q9 (a9 l7 O.kc_Plain O.fi_Plain_counts (by decide) rfl (a9 l6 O.kc_Named O.fi_Named_counts (by decide) rfl (a9 Zas O.kc_Beside O.fi_Beside_counts (by decide) rfl (a9 Zav O.kc_Above O.fi_Above_counts (by decide) rfl (a9 Zat O.kc_Across O.fi_Across_counts (by decide) rfl (a9 Zay O.kc_Down O.fi_Down_counts (by decide) rfl (a9 Zau O.kc_Turned O.fi_Turned_counts (by decide) rfl (a9 Zaz O.kc_Dyed O.fi_Dyed_counts (by decide) rfl A9)))))))) hr (d6 0) ?_ ?_
 ·exact a7 g6
 exact a5 (d6 1) b8
theorem a8e(D:Df K mg "gone_through" a1h)(M:MoB K mg){a02:AB}(G9:FnV K mg "counts_step" a02){a2F:AB}(O3:FnV K mg "size_step" a2F)(a5x:a8w P w K mg base)(a1y:a3v P w K mg base)(Q0:Y6 P w K mg base):a0N P w K mg base:=by
 exists z0,24,a3o,el2 λ_ _=>rfl
 ext c
 ·exact j5 (i:=2) S.nd a3O
 ext c
 ·exact j5 (i:=3) S.nd (F8 b8)
 ext c
 ·refine c06 PassesOwn.never ?_ ?_ M.Zby ?_ ?_ (a6Q [4,5]) ?_
  ·exact rfl
  ·exact rfl
  ·exact a5 (d6 0) b8
  ·exact b24 rfl (a0n (p0 (i:=4) S.nd rfl (Or.inl rfl)) (a0n (p0 (i:=5) S.nd rfl (Or.inl rfl)) a8o))
  ext c
  ·exact m5 (PW.pt (a61 (k6 (k9 hu) (d8 (d6 5) a8) d9) (a4J (b7C 2 hu (pv 2) (d8 (d6 5) a8) (by first|rfl|exact nomark _))))) (c5 a3Q) j6
  refine c5 ?_;refine a01 PassesOwn.never ?_ ?_ M.Zbg ?_ ?_ (A6 6) ?_
  ·exact rfl
  ·exact rfl
  ·exact a5 (j9 a5x hr (by decide) rfl (a7 g6) (a5 (d6 5) b8)) b8
  ·exact p0 (i:=6) S.nd rfl (Or.inl rfl)
  ext c
  ·refine j5 (i:=7) ?_ ?_
   ·exact S.nd
   exact b8N (a6e 2 (b3O 1 (a2G a1y O3 (by decide) rfl (a2G Q0 G9 (by decide) rfl b08)) hr (pv 1) (a7 (a7 (a7 g6))) (a5 (d8 (d6 5) (a00 a8)) (a5 (d6 2) (a5 (d6 4) b8)))))
  exact b4 (W8 3 (pv 3) (d6 7)) (c5 (m5 (k6 (a4a hu) (d8 (d6 5) a8) d9) (c5 (a0E 2 hu (pv 2) (d8 (d6 5) (a00 a8)) (d6 7))) j6))
 exact c5 (D7 3 (pv 3))
theorem b9Q(D:Df K mg "sizes" b3d){a2F:AB}(O3:FnV K mg "size_step" a2F)(N4:a0N P w K mg base)(a1y:a3v P w K mg base):b6e P w K mg base:=by
 exists z0,25,b4J,el1 λ_=>rfl
 exact c5 (i5 (j9 N4 hr (by decide) rfl (a7 (a7 g6)) (a5 (d6 0) (a5 (b6n O3) b8))))
theorem b2S(D:Df K mg "last_told" a4m)(b19:b6e P w K mg base)(N4:a0N P w K mg base)(Q0:Y6 P w K mg base):a7w P w K mg base:=by
 exists z0,26,a6G,el2 λ_ _=>rfl
 exact b4 (c05 (j9 b19 hr (by decide) rfl (a7 g6) (a5 (d6 0) b8))) (c5 (i5 (d8 (j9 N4 hr (by decide) rfl (a7 (a7 g6)) (a5 (d6 0) (a5 (d6 1) b8))) (a00 a8))))
theorem b5M(D:Df K mg "counted" a7p){a02:AB}(G9:FnV K mg "counts_step" a02)(a3I:a7w P w K mg base)(Q0:Y6 P w K mg base):b0R P w K mg base:=by
 exists z0,27,a9L,el1 λ_=>rfl
 exact c5 (i5 (j9 a3I hr (by decide) rfl (a7 (a7 g6)) (a5 (d6 0) (a5 (b6n G9) b8))))
theorem b4k(D:Df K mg "_law_most" a5O)(Q1:a1Q P w K mg base):a8u P w K mg base:=by
 exists z0,1,a70,el1 λ_=>rfl
 exact c5 (i5 (d8 (F8 (a5 a8 (a5 a8 (a5 a8 (a5 a8 b8))))) (e9 t6 (e9 b4u (j9 Q1 hr (by decide) rfl (a7 (a7 g6)) (a5 (d6 0) (a5 a8 b8))) a8) a8)))
theorem b4l{k:Nat}(hk0:1<=k){D1:Λ}(D:Df K mg "_law_plan" a22)(M:MoB K mg)(W6:p8 P w K mg base "_law_plan" ["_law_tree","_law_cloths_here"] k D1):p8 P w K mg base "_law_plan" ["_law_tree","_law_cloths_here"] (k+1) (m3 4 (a0T D1)):=by
 exists z0,k,a4v,el2 λ_ _=>rfl
 ext c
 ·exact j5 (i:=2) S.nd (d8 (d6 0) a8)
 ext c
 ·ext am
  ·ext c
   ·exact j5 (i:=3) S.nd (b8O (k6 (k9 hu) (d6 2) d9) (a8T 1 hu (pv 1) (d8 (d6 0) a8)) (d8 (d6 0) a8))
   exact c5 (i5 (n8 (a5 d9 (a5 (a0i a0X rfl M.Zb0 (by rfl) (d6 3)) (a5 (a0i a0X rfl M.Zb0 (by rfl) (d8 (d6 3) a8)) (a5 (d6 3) b8))))))
  exact j6
 ext c
 ·ext am
  ·ext c
   ·refine a8i (i:=4) (ys:=["_law_part"]) (N0:=["_law_tree","_law_cloths_here","_law_word","_law_rows","_law_parts","0_law_part"]) ?_ (λ_ _ h=>h) ?_ ⟨by kernel_rfl,rfl,δ rfl,δ rfl,δ rfl⟩ ?_ (λC fp pins s H=>p0 (i:=6) b0y rfl (Or.inl rfl)) (λn h=>G2 (i:=6) (Nat.le_of_eq h)) (λC fp pins s H=>a2D) ?_
    ·exact S.nd
    ·exact rfl
    ·exact a2E (d8 (d6 0) a8)
    intro C fp pins s H;exact j9 W6 hr (by lia) rfl (a7 (a7 g6)) (a5 (d6 6) (a5 (d6 1) b8))
   ext c
   ·refine m5 ?_ ?_ ?_
    ·exact k6 (k9 hu) (d6 2) d9
    ·refine c5 ?_;refine a5A 4 ?_;refine i5 ?_;refine n8 ?_;refine a5 (d6 2) ?_;refine a5 ?_ ?_
     ·exact d8 (d8 (d6 4) a8) a8
     refine a5 ?_ ?_
     ·refine a0i (b8G rfl) ?_ M.Zc6 ?_ ?_
      ·exact rfl
      ·rfl
      exists y0,["_law_part"],["_law_tree","_law_cloths_here","_law_word","_law_rows","_law_parts","0_law_part"],6,b0z
      ·exact rfl
      ·exact a2E (d6 4)
      intro C fp pins s H;exact d8 (d6 6) a8
     exact a5 (d6 4) b8
    exact j6
   refine c5 ?_;refine a5A 4 ?_;refine i5 ?_;refine n8 ?_;refine a5 (d6 2) ?_;refine a5 ?_ ?_
   ·refine a0i (b8G rfl) ?_ M.Zc6 ?_ ?_
    ·exact rfl
    ·rfl
    exists y0,["_law_part"],["_law_tree","_law_cloths_here","_law_word","_law_rows","_law_parts","0_law_part"],6,b0A
    ·exact rfl
    ·exact a2E (d6 4)
    intro C fp pins s H;exact d8 (d6 6) a8
   exact a5 (d8 (d8 (d6 4) a8) a8) (a5 (d6 4) b8)
  exact j6
 ext c
 ·exact j5 (i:=5) S.nd (j9 W6 hr (by lia) rfl (a7 (a7 g6)) (a5 (d8 (d6 0) (a00 a8)) (a5 (d6 1) b8)))
 ext c
 ·exact m5 (k6 (k9 hu) (d6 2) d9) (c5 (i5 (n8 (a5 (d6 2) (a5 (d8 (d6 5) a8) (a5 (e9 u3 (d8 (d6 5) a8) (d8 (d6 0) a8)) (a5 (d6 5) b8))))))) j6
 ext c
 ·exact m5 (k6 (k9 hu) (d6 2) d9) (c5 (i5 (n8 (a5 (d6 2) (a5 (e9 u3 (d8 (d6 5) a8) (d8 (d6 0) a8)) (a5 (d8 (d6 5) a8) (a5 (d6 5) b8))))))) j6
 ext c
 ·exact m5 (k6 (k9 hu) (d6 2) d9) (c5 (i5 (n8 (a5 (d6 2) (a5 (d8 (d6 5) a8) (a5 (d8 (d6 5) a8) (a5 (d6 5) (a5 (d8 (d6 0) a8) (a5 (d8 (d6 0) a8) b8))))))))) j6
 ext c
 ·exact m5 (k6 (b20 hu) (d8 (d6 0) a8) (F8 (a5 d9 (a5 d9 (a5 d9 (a5 d9 b8)))))) (c5 (i5 (n8 (a5 (d8 (d6 0) a8) (a5 (d8 (d6 5) a8) (a5 (d8 (d6 5) a8) (a5 (d6 5) b8))))))) j6
 exact c5 (i5 (n8 (a5 (d8 (d6 0) a8) (a5 (d8 (d6 5) a8) (a5 (d8 (d6 5) a8) (a5 (d6 5) b8))))))
theorem b2L(a2s:Df K mg "_law_plan" a22)(M:MoB K mg):∀n:Nat,p8 P w K mg base "_law_plan" ["_law_tree","_law_cloths_here"] (1+n) (a3Z n):=by
 intro n
 induction n with
 |zero=>exact o0 (k:=0) a2s a4v (λ_ _ _ _ _ _=>el2 (λ_ _=>rfl)) λf cdv A outer s H E hr=>A3
 |succ n ih=>
  exact b4l P w base (Nat.le_add_right _ _) a2s M ih
theorem b4g(D:Df K mg "_law_from" a5L):a5p P w K mg base:=by
 exists z0,0,a7X,el4 λ_ _ _ _=>rfl
 ext c
 ·exact j5 (i:=4) S.nd (e9 R1 (d8 (d6 1) a8) a8)
 ext c
 ·exact j5 (i:=5) S.nd (e9 R1 (d8 (d6 1) a8) a8)
 ext c
 ·exact m5 (k6 (k9 hu) (d6 0) d9) (c5 (i5 (n8 (a5 (e9 R1 (d6 4) (d6 3)) (a5 (d6 2) b8))))) j6
 ext c
 ·exact m5 (k6 (k9 hu) (d6 0) d9) (c5 (i5 (n8 (a5 (e9 R1 (d6 4) (d6 2)) (a5 (e9 R1 (d6 5) (d6 3)) b8))))) j6
 ext c
 ·exact m5 (k6 (k9 hu) (d6 0) d9) (c5 (i5 (n8 (a5 (d6 3) (a5 (e9 R1 (d6 5) (d6 2)) b8))))) j6
 ext c
 ·exact m5 (k6 (k9 hu) (d6 0) d9) (c5 (i5 (n8 (a5 (d6 2) (a5 (e9 R1 (d6 5) (d6 3)) b8))))) j6
 ext c
 ·exact m5 (k6 (k9 hu) (d6 0) d9) (c5 (i5 (n8 (a5 (e9 R1 (d6 4) (d6 2)) (a5 (d6 3) b8))))) j6
 exact b4 (m5 (k6 (k9 hu) (d6 0) d9) (c5 (i5 (n8 (a5 (d6 3) (a5 (d6 2) b8))))) j6) (c5 (i5 (n8 (a5 (e9 R1 (d6 4) (d6 3)) (a5 (e9 R1 (d6 5) (d6 2)) b8)))))
theorem b4m{k:Nat}(hk0:1<=k){A0 Zag:Λ}(D:Df K mg "_law_sign" a23)(a0Y:a5p P w K mg base)(g:a5o P w K mg base k A0 Zag):p8 P w K mg base "_law_sign" ["_law_plan_here","_law_r","_law_c"] (k+1) (m3 3 (w4 A0 Zag)):=by
 exists z0,k,a4x,el3 λ_ _ _=>rfl
 ext c
 ·exact m5 (k6 (k9 hu) (d8 (d6 0) a8) d9) (c5 (i5 (d8 (d8 (d8 (d6 0) a8) (d6 1)) (d6 2)))) j6
 ext c
 ·refine m5 (PW.pt (a3f (k6 (k9 hu) (d8 (d6 0) a8) d9) (a0s (k6 (k9 hu) (d8 (d6 0) a8) d9)))) ?_ ?_
  ·exact c5 (i5 (j9 g.Zbn hr (by lia) rfl (a7 (a7 (a7 g6))) (a5 (d6 0) (a5 (d6 1) (a5 (d6 2) b8)))))
  exact j6
 ext c
 ·exact j5 (i:=3) S.nd (d8 (d6 0) a8)
 ext c
 ·refine m5 (PW.pt (a3f (k6 (k9 hu) (d8 (d6 0) a8) d9) (a0s (k6 (k9 hu) (d8 (d6 0) a8) d9)))) ?_ ?_
  ·exact c5 (i5 (j9 g.Za5 hr (by lia) rfl (a7 (a7 (a7 g6))) (a5 (d6 3) (a5 (e9 t6 (d6 1) (d8 (d6 3) a8)) (a5 (e9 t6 (d6 2) (d8 (d6 3) a8)) b8)))))
  exact j6
 ext c
 ·refine m5 ?_ ?_ ?_
  ·exact k6 (k9 hu) (d8 (d6 0) a8) d9
  ·ext c
   ·exact j5 (i:=4) S.nd (j9 g.Za5 hr (by lia) rfl (a7 (a7 (a7 g6))) (a5 (d6 3) (a5 (d6 1) (a5 (d6 2) b8))))
   exact b4 (m5 (k6 (k9 hu) (d6 4) (d8 (d6 0) a8)) (c5 (i5 (d8 (d6 0) a8))) j6) (c5 (i5 (b8O (k6 (k9 hu) (d6 4) (d8 (d6 0) a8)) (d8 (d6 0) a8) (d6 4))))
  exact j6
 ext c
 ·exact j5 (i:=5) S.nd (j9 a0Y hr (by lia) rfl (a7 (a7 (a7 (a7 g6)))) (a5 (d8 (d6 0) a8) (a5 (d6 3) (a5 (d6 1) (a5 (d6 2) b8)))))
 exact c5 (i5 (j9 g.Za5 hr (by lia) rfl (a7 (a7 (a7 g6))) (a5 (d6 3) (a5 (d8 (d6 5) a8) (a5 (d8 (d6 5) a8) b8)))))
theorem b0M{k:Nat}(hk0:1<=k){A0 Zag:Λ}(D:Df K mg "_law_within" a0I)(g:a5o P w K mg base k A0 Zag):p8 P w K mg base "_law_within" ["_law_plan_here","_law_r","_law_c"] (k+1) (m3 1 (O2 A0 Zag)):=by
 exists z0,k,a14,el3 λ_ _ _=>rfl
 ext c
 ·refine a3P PassesOwn.never ?_ ?_ ?_ (A6 3) ?_
  ·exact rfl
  ·exact d8 (d6 0) a8
  ·exact p0 (i:=3) S.nd rfl (Or.inl rfl)
  ext c
  ·exact m5 (PW.pt (a61 (k6 a6u (d6 1) (d8 (d6 3) a8)) (a4J (k6 a6u (d6 2) (d8 (d6 3) a8))))) (c5 (i5 (j9 g.Za5 hr (by lia) rfl (a7 (a7 (a7 g6))) (a5 (d6 3) (a5 (d6 1) (a5 (d6 2) b8)))))) j6
  exact c5 (m5 (k6 (k9 hu) (d8 (d6 0) a8) d9) (c5 (j5 (i:=2) S.nd (e9 R1 (d6 2) (d8 (d6 3) a8)))) (c5 (j5 (i:=1) S.nd (e9 R1 (d6 1) (d8 (d6 3) a8)))))
 exact c5 (i5 d9)
theorem b2M(a2t:Df K mg "_law_sign" a23)(Zbr:Df K mg "_law_within" a0I)(a0Y:a5p P w K mg base):∀n:Nat,a5o P w K mg base (1+n) (C9 n) (G1 n):=by
 intro n
 induction n with
 |zero=>exact⟨o0 (k:=0) a2t a4x (λ_ _ _ _ _ _=>el3 (λ_ _ _=>rfl)) λf cdv A outer s H E hr=>A3,o0 (k:=0) Zbr a14 (λ_ _ _ _ _ _=>el3 (λ_ _ _=>rfl)) λf cdv A outer s H E hr=>A3⟩
 |succ n ih=>
  exact⟨b4m P w base (Nat.le_add_right _ _) a2t a0Y ih,b0M P w base (Nat.le_add_right _ _) Zbr ih⟩
theorem b2U(D:Df K mg "_law_cloth" a4o)(M:MoB K mg)(W6:b48 P w K mg base)(Za5:b49 P w K mg base):a7y P w K mg base:=by
 exists z0,25,a6I,el2 λ_ _=>rfl
 ext c
 ·exact j5 (i:=2) S.nd (j9 W6 hr (by decide) rfl (a7 (a7 g6)) (a5 (d6 0) (a5 (d6 1) b8))) rfl (Or.inr rfl)
 ext c
 ·exact j5 (i:=3) S.nd (F8 b8)
 ext c
 ·refine a01 PassesOwn.never ?_ ?_ M.Zbg ?_ ?_ (A6 4) ?_
  ·exact rfl
  ·exact rfl
  ·exact a5 (d8 (d6 2) a8) b8
  ·exact p0 (i:=4) S.nd rfl (Or.inr rfl)
  refine c5 ?_;refine W8 3 (pv 3) ?_;refine a6d ?_ ?_
  ·exact d9
  exists y0,["_law_c"],["_law_tree","_law_cloths_here","_law_plan_here","_law_rows","_law_r"],5,a9j
  ·exact rfl
  ·exact c03 rfl M.Zbg (a5 (d8 (d6 2) a8) b8)
  intro C fp pins s H;exact j9 Za5 hr (by decide) rfl (a7 (a7 (a7 g6))) (a5 (d6 2) (a5 (d6 4) (a5 (d6 5) b8)))
 exact c5 (i5 (a46 a6b rfl M.Zb1 (by rfl) (d6 3)))
theorem b0K(D:Df K mg "_law_cloths" a2Z)(M:MoB K mg)(a3K:a7y P w K mg base):a50 P w K mg base:=by
 exists z0,26,a5j,el1 λ_=>rfl
 ext c
 ·exact j5 (i:=1) S.nd a3O
 ext c
 ·exact j5 (i:=2) S.nd (F8 b8)
 ext c
 ·refine a3P PassesOwn.never ?_ (d6 0) ?_ (A6 3) ?_
  ·exact rfl
  ·exact p0 (i:=3) S.nd rfl (Or.inl rfl)
  ext c
  ·exact j5 (i:=4) S.nd (b8O (k6 (k9 hu) (d8 (d6 3) a8) d9) (d8 (d6 3) a8) a8)
  refine c5 ?_;refine a01 PassesOwn.never ?_ ?_ M.Zbg ?_ ?_ (A6 5) ?_
  ·exact rfl
  ·exact rfl
  ·exact a5 (d6 4) b8
  ·exact p0 (i:=5) S.nd rfl (Or.inl rfl)
  exact b4 (W8 2 (pv 2) (a8S 1 a3K hr (by decide) rfl (d8 (d6 3) (a00 a8)) (pv 1))) (c5 (m5 (k6 (a4a hu) (d8 (d6 3) a8) d9) (c5 (a0E 1 hu (pv 1) (d8 (d6 3) (a00 a8)) (d8 (d6 2) (a00 a8)))) j6))
 exact c5 (D7 2 (pv 2))
theorem c33{f:AB}{fd:FuncData}(F:Fun K "law" "law" c0o f fd)(M:MoB K mg)(a1V:a4Y P w K mg base)(a3J:a7x P w K mg base)(a4F:b0R P w K mg base)(a5v:a8u P w K mg base)(a2B:a50 P w K mg base):S9 P w K mg base CX0 29 f fd ["_law_script"] (spP K 1 c2J):=by
 refine b8X (k:=28) F c0r λcdv A outer s H E hr=> ?_;have S:=c0r;have hu:=hr.units
 ext c
 ·exact j5 (i:=1) S.nd (j9 a1V hr (by decide) rfl (a7 (a7 (a7 g6))) (a5 (d6 0) (a5 a8 (a5 (j9 a5v hr (by decide) rfl (a7 g6) (a5 (d6 0) b8)) b8))))
 ext c
 ·exact j5 (i:=2) S.nd a3O
 ext c
 ·refine a5A 1 ?_;refine a3P PassesOwn.never ?_ ?_ ?_ (A6 3) ?_
  ·exact rfl
  ·exact d8 (j9 a2B hr (by decide) rfl (a7 g6) (a5 (d6 1) b8)) (a00 a8)
  ·exact p0 (i:=3) S.nd rfl (Or.inl rfl)
  exact c5 (c07 PassesOwn.never rfl (c04 (d6 3)) (p0 (i:=4) S.nd rfl (Or.inl rfl)) (A6 4) (c5 (a0E 2 hu (pv 2) (d6 4) (e9 m9 (b3P 2 hu (pv 2) (d6 4) a8) a8))))
 ext c
 ·exact a5A 1 (j5 (i:=5) S.nd (j9 a3J hr (by decide) rfl (a7 g6) (a5 (d6 1) b8)))
 ext c
 ·exact a5A 5 (j5 (i:=6) S.nd (b8M (j9 a4F hr (by decide) rfl (a7 g6) (a5 (d6 5) b8))))
 ext c
 ·exact m5 (PW.pt (a3f (c3s (a60 (a6Z (.inr (.inr (.inr (.inr (.inr rfl))))) rfl M.Zan (d6 6) (a1I rfl M.Zcb (by rfl) rfl)))) (a0s (k6 (b9W hu) (d6 6) (d6 2))))) (c5 (i5 c2F)) j6
 ext c
 ·exact c3q 6 4 PassesOwn.never rfl hu (pv 6) (p0 (i:=4) S.nd rfl (Or.inl rfl)) (pv 6) (pv 4) (pv 6) (pv 4) rfl M.Zan (a1I rfl M.Zc5 (by rfl) rfl) (a1I rfl M.Zcw (by rfl) rfl) (c5 (i5 c2F))
 exact b4 (b7B 6 (pv 6)) (c5 (a5A 5 (i5 (b8K (c1M hu) (j9 a4F hr (by decide) rfl (a7 g6) (a5 (d6 5) b8)) (d6 2)))))
end
theorem c28{l:PySem.W.OpenLaw}{w:AI}{K:AE}{h:Heap}{mg:Str->Υ AA}{fa:AB}(X:K.In h)(G:h.Ns mainGlobals mg)(hfa:mg "law"=ξ (.ref fa))
 {T8:AB} {b0F b0b:Υ AB} {b0P:Array (Υ AA)} {b0E b0o b0k b0O a43 b0j:AA}
 {Q3:AB} {a9n a8z:Υ AB} {a9Q:Array (Υ AA)} {a9l a87 a8N a9C a3E a8K:AA}
 {a0j:AB} {b2J b1Z:Υ AB} {b3f:Array (Υ AA)} {b2I b2q b2b b25 a56 b18:AA}
 {Q2:AB} {a9m a8y:Υ AB} {a9P:Array (Υ AA)} {a9k a86 a8M a9B a3D a8J:AA}
 {Zbh:AB}
 {Zbi:AB}
 {Za8:AB}
 {Zbj:AB}
 {Za9:AB}
 {Zbw:AB}
 {Zba:AB}
 {Zbx:AB}
 {Zb7:AB}
 {Zb8:AB}
 {Zb2:AB}
 {Zb9:AB}
 {Zb3:AB}
 {Zcl:AB}
 {Zb4:AB}
 {Zcm:AB}
 {Zaw:AB}
 {Zax:AB}
 {Zam:AB}
 {Zah:AB}
 {Zai:AB}
 {Zao:AB}
 {Zap:AB}
 {Zaj:AB}
 {Zaq:AB}
 {Zar:AB}
 {Zaf:AB}
 {Zac:AB}
 {Zad:AB}
 {Zak:AB}
 {Zal:AB}
 {Zae:AB}
 {Zb5:AA}
 {Zbz:AA}
 (a0C:Df0 K "_law_number" a21)
 (a0h:Df0 K "_law_plain" a4r)
 (a2C:Df0 K "_law_leaf" a5N)
 (a5w:Df0 K "_law_step" a5P)
 (a0Z:Df0 K "_law_laid" a5M)
 (D2:Df0 K "_law_size" a24)
 (N5:Df0 K "_law_text" a25)
 (a1x:Df0 K "_law_grown" a4p)
 (Q1:Df0 K "_law_cell_at" a11)
 (a3L:Df0 K "_law_names" a4q)
 (W5:Df0 K "_law_again_fits" X7)
 (a1V:Df0 K "_law_program" a12)
 (E8:Df0 K "_law_made" a20)
 (a3J:Df0 K "_law_built" a4n)
 (a5x:Df0 K "times_of" a5Q)
 (a6X:Df0 K "size_of" a7q)
 (u6:Df0 K "checked_size" a1f)
 (a52:PySem.W.nsIn K mainGlobals "size_above"=ξ (ξ (.ref T8))) (a6o:K.lookup T8=ξ ⟨b0E,b0F,.func (PySem.W.fnOf "size_above" "size_above" (L9 O9) (C4 O9) (c6 O9) .none b0o b0k b0O b0b a43 b0j),b0P⟩) (b14:PySem.W.codeIn K a43 "size_above"=true) (b2r:PySem.W.keepIn K (.ref T8)=true) (b0m:a9z K "size_above" T8=true)
 (a40:PySem.W.nsIn K mainGlobals "size_beside"=ξ (ξ (.ref Q3))) (a5d:K.lookup Q3=ξ ⟨a9l,a9n,.func (PySem.W.fnOf "size_beside" "size_beside" (L9 L1) (C4 L1) (c6 L1) .none a87 a8N a9C a8z a3E a8K),a9Q⟩) (b0g:PySem.W.codeIn K a3E "size_beside"=true) (b0q:PySem.W.keepIn K (.ref Q3)=true) (a8X:a9z K "size_beside" Q3=true)
 (Zbb:Df0 K "size_of_laid" V7)
 (a7B:PySem.W.nsIn K mainGlobals "size_step"=ξ (ξ (.ref a0j))) (a7M:K.lookup a0j=ξ ⟨b2I,b2J,.func (PySem.W.fnOf "size_step" "size_step" (L9 S6) (C4 S6) (c6 S6) .none b2q b2b b25 b1Z a56 b18),b3f⟩) (b3B:PySem.W.codeIn K a56 "size_step"=true) (b32:PySem.W.keepIn K (.ref a0j)=true) (b2l:a9z K "size_step" a0j=true)
 (a2A:Df0 K "colours_of" a2Y)
 (T5:Df0 K "knots_by_colour" V6)
 (C0:Df0 K "counts_times" a1g)
 (a0g:Df0 K "exchanged" a4l)
 (Za3:Df0 K "counts_of_laid" O8)
 (a4Z:PySem.W.nsIn K mainGlobals "counts_step"=ξ (ξ (.ref Q2))) (a5c:K.lookup Q2=ξ ⟨a9k,a9m,.func (PySem.W.fnOf "counts_step" "counts_step" (L9 L0) (C4 L0) (c6 L0) .none a86 a8M a9B a8y a3D a8J),a9P⟩) (b0f:PySem.W.codeIn K a3D "counts_step"=true) (b0p:PySem.W.keepIn K (.ref Q2)=true) (a8W:a9z K "counts_step" Q2=true)
 (N4:Df0 K "gone_through" a1h)
 (b19:Df0 K "sizes" b3d)
 (a3I:Df0 K "last_told" a4m)
 (a4F:Df0 K "counted" a7p)
 (a5v:Df0 K "_law_most" a5O)
 (W6:Df0 K "_law_plan" a22)
 (a0Y:Df0 K "_law_from" a5L)
 (Za5:Df0 K "_law_sign" a23)
 (Zbn:Df0 K "_law_within" a0I)
 (a3K:Df0 K "_law_cloth" a4o)
 (a2B:Df0 K "_law_cloths" a2Z)
 (c43:Df0 K "law" c0o)
 (Zco:PySem.W.nsIn K mainGlobals "Plain"=ξ (ξ (.ref Zbh)))
 (Zcp:PySem.W.nsIn K mainGlobals "Named"=ξ (ξ (.ref Zbi)))
 (Zcg:PySem.W.nsIn K mainGlobals "Beside"=ξ (ξ (.ref Za8)))
 (Zcq:PySem.W.nsIn K mainGlobals "Above"=ξ (ξ (.ref Zbj)))
 (Zch:PySem.W.nsIn K mainGlobals "Across"=ξ (ξ (.ref Za9)))
 (Zcy:PySem.W.nsIn K mainGlobals "Down"=ξ (ξ (.ref Zbw)))
 (Zci:PySem.W.nsIn K mainGlobals "Turned"=ξ (ξ (.ref Zba)))
 (Zcz:PySem.W.nsIn K mainGlobals "Dyed"=ξ (ξ (.ref Zbx)))
 (oi_Plain:PySem.W.findIn K (.ref Zbh) "__init__"=ξ (ξ (.ref Zb7))) (ck_Plain:ckC K Zbh "Plain" Zb7 ["rows"]=true) (Zc0:Dm K "__init__" "Plain.__init__" b4I Zb7)
 (oi_Named:PySem.W.findIn K (.ref Zbi) "__init__"=ξ (ξ (.ref Zb8))) (ck_Named:ckC K Zbi "Named" Zb8 ["name"]=true) (Zc1:Dm K "__init__" "Named.__init__" b4H Zb8)
 (oi_Beside:PySem.W.findIn K (.ref Za8) "__init__"=ξ (ξ (.ref Zb2))) (ck_Beside:ckC K Za8 "Beside" Zb2 ["parts"]=true) (Zcs:Dm K "__init__" "Beside.__init__" b1F Zb2)
 (oi_Above:PySem.W.findIn K (.ref Zbj) "__init__"=ξ (ξ (.ref Zb9))) (ck_Above:ckC K Zbj "Above" Zb9 ["parts"]=true) (Zc2:Dm K "__init__" "Above.__init__" b4G Zb9)
 (oi_Across:PySem.W.findIn K (.ref Za9) "__init__"=ξ (ξ (.ref Zb3))) (ck_Across:ckC K Za9 "Across" Zb3 ["many","part"]=true) (Zct:Dm K "__init__" "Across.__init__" b1E Zb3)
 (oi_Down:PySem.W.findIn K (.ref Zbw) "__init__"=ξ (ξ (.ref Zcl))) (ck_Down:ckC K Zbw "Down" Zcl ["many","part"]=true) (Zc7:Dm K "__init__" "Down.__init__" b60 Zcl)
 (oi_Turned:PySem.W.findIn K (.ref Zba) "__init__"=ξ (ξ (.ref Zb4))) (ck_Turned:ckC K Zba "Turned" Zb4 ["way","part"]=true) (Zcu:Dm K "__init__" "Turned.__init__" b1G Zb4)
 (oi_Dyed:PySem.W.findIn K (.ref Zbx) "__init__"=ξ (ξ (.ref Zcm))) (ck_Dyed:ckC K Zbx "Dyed" Zcm ["one","other","part"]=true) (Zc8:Dm K "__init__" "Dyed.__init__" b61 Zcm)
 (fi_Plain_counts:PySem.W.findIn K (.ref Zbh) "counts"=ξ (ξ (.ref Zaq)))
 (fi_Named_counts:PySem.W.findIn K (.ref Zbi) "counts"=ξ (ξ (.ref Zar)))
 (fi_Beside_counts:PySem.W.findIn K (.ref Za8) "counts"=ξ (ξ (.ref Zad)))
 (fi_Above_counts:PySem.W.findIn K (.ref Zbj) "counts"=ξ (ξ (.ref Zaf)))
 (fi_Across_counts:PySem.W.findIn K (.ref Za9) "counts"=ξ (ξ (.ref Zac)))
 (fi_Down_counts:PySem.W.findIn K (.ref Zbw) "counts"=ξ (ξ (.ref Zak)))
 (fi_Turned_counts:PySem.W.findIn K (.ref Zba) "counts"=ξ (ξ (.ref Zae)))
 (fi_Dyed_counts:PySem.W.findIn K (.ref Zbx) "counts"=ξ (ξ (.ref Zal)))
 (fi_Plain_size:PySem.W.findIn K (.ref Zbh) "size"=ξ (ξ (.ref Zaw)))
 (fi_Named_size:PySem.W.findIn K (.ref Zbi) "size"=ξ (ξ (.ref Zax)))
 (fi_Beside_size:PySem.W.findIn K (.ref Za8) "size"=ξ (ξ (.ref Zai)))
 (fi_Above_size:PySem.W.findIn K (.ref Zbj) "size"=ξ (ξ (.ref Zam)))
 (fi_Across_size:PySem.W.findIn K (.ref Za9) "size"=ξ (ξ (.ref Zah)))
 (fi_Down_size:PySem.W.findIn K (.ref Zbw) "size"=ξ (ξ (.ref Zao)))
 (fi_Turned_size:PySem.W.findIn K (.ref Zba) "size"=ξ (ξ (.ref Zaj)))
 (fi_Dyed_size:PySem.W.findIn K (.ref Zbx) "size"=ξ (ξ (.ref Zap)))
 (m8:Dm K "size" "Plain.size" a2X Zaw)
 (m7:Dm K "size" "Named.size" a2W Zax)
 (Za4:Dm K "size" "Above.size" a0H Zam)
 (Za1:Dm K "size" "Across.size" Z9 Zah)
 (Za0:Dm K "size" "Beside.size" a0a Zai)
 (Za6:Dm K "size" "Down.size" a1J Zao)
 (Za7:Dm K "size" "Dyed.size" a1K Zap)
 (Za2:Dm K "size" "Turned.size" a0d Zaj)
 (l7:Dm K "counts" "Plain.counts" a1e Zaq)
 (l6:Dm K "counts" "Named.counts" a1d Zar)
 (Zav:Dm K "counts" "Above.counts" V5 Zaf)
 (Zat:Dm K "counts" "Across.counts" R3 Zac)
 (Zas:Dm K "counts" "Beside.counts" R4 Zad)
 (Zay:Dm K "counts" "Down.counts" a0b Zak)
 (Zaz:Dm K "counts" "Dyed.counts" a0c Zal)
 (Zau:Dm K "counts" "Turned.counts" R5 Zae)
 (Zcw:PySem.W.nsIn K mainGlobals "bool"=ξ ζ)
 (Zcb:PySem.W.nsIn K mainGlobals "dict"=ξ ζ)
 (Zby:PySem.W.nsIn K mainGlobals "enumerate"=ξ ζ)
 (Zc5:PySem.W.nsIn K mainGlobals "int"=ξ ζ)
 (Zan:PySem.W.nsIn K mainGlobals "isinstance"=ξ ζ)
 (Zb0:PySem.W.nsIn K mainGlobals "len"=ξ ζ)
 (Zcn:PySem.W.nsIn K mainGlobals "list"=ξ ζ)
 (Zcr:PySem.W.nsIn K mainGlobals "max"=ξ ζ)
 (Zc9:PySem.W.nsIn K mainGlobals "min"=ξ ζ)
 (Zbg:PySem.W.nsIn K mainGlobals "range"=ξ ζ)
 (Zda:PySem.W.nsIn K mainGlobals "set"=ξ ζ)
 (Zb6:PySem.W.nsIn K mainGlobals "sorted"=ξ ζ)
 (Zcc:PySem.W.nsIn K mainGlobals "str"=ξ ζ)
 (Zc6:PySem.W.nsIn K mainGlobals "sum"=ξ ζ)
 (Zb1:PySem.W.nsIn K mainGlobals "tuple"=ξ ζ)
 (Zc3:PySem.W.nsIn K mainGlobals "LONGEST"=ξ (ξ Zb5)) (Zc4:a5s K 40 Zb5=ξ S7)
 (Zcj:PySem.W.nsIn K mainGlobals "LYING_WAYS"=ξ (ξ Zbz)) (Zck:a5s K 40 Zbz=ξ P3)
 :∃fd:FuncData,(∀(s:AC) (v:AA),BindsTo s fd ⟨[v],[]⟩ [("_law_script",v)])/\∀base:Heap,K.In base->base.Ns mainGlobals mg->S9 l.prog w K mg base CX0 29 fa fd ["_law_script"] (b4M K):=by
 have G9:FnV K mg "counts_step" Q2:=b2j (PySem.W.mg_of X G a4Z) a5c rfl a8W
 have Q0:Df0 K "counts_step" L0:=b3J a4Z a5c b0f b0p
 have C8:FnV K mg "size_above" T8:=b2j (PySem.W.mg_of X G a52) a6o rfl b0m
 have K2:Df0 K "size_above" O9:=b3J a52 a6o b14 b2r
 have C1:FnV K mg "size_beside" Q3:=b2j (PySem.W.mg_of X G a40) a5d rfl a8X
 have E9:Df0 K "size_beside" L1:=b3J a40 a5d b0g b0q
 have O3:FnV K mg "size_step" a0j:=b2j (PySem.W.mg_of X G a7B) a7M rfl b2l
 have a1y:Df0 K "size_step" S6:=b3J a7B a7M b3B b32
 have M:MoB K mg:=⟨PySem.W.mg_none_of X G Zcw,PySem.W.mg_none_of X G Zcb,PySem.W.mg_none_of X G Zby,PySem.W.mg_none_of X G Zc5,PySem.W.mg_none_of X G Zan,PySem.W.mg_none_of X G Zb0,PySem.W.mg_none_of X G Zcn,PySem.W.mg_none_of X G Zcr,PySem.W.mg_none_of X G Zc9,PySem.W.mg_none_of X G Zbg,PySem.W.mg_none_of X G Zda,PySem.W.mg_none_of X G Zb6,PySem.W.mg_none_of X G Zcc,PySem.W.mg_none_of X G Zc6,PySem.W.mg_none_of X G Zb1⟩
 have Zcv:=PySem.W.mg_of X G Zc3
 have Zca:=PySem.W.mg_of X G Zcj
 have Zbt:=a7F Zco oi_Plain ck_Plain
 have Zbu:=a7F Zcp oi_Named ck_Named
 have Zbm:=a7F Zcg oi_Beside ck_Beside
 have Zbv:=a7F Zcq oi_Above ck_Above
 have Zbd:=a7F Zch oi_Across ck_Across
 have Zbs:=a7F Zcy oi_Down ck_Down
 have Zbe:=a7F Zci oi_Turned ck_Turned
 have Zbl:=a7F Zcz oi_Dyed ck_Dyed
 obtain⟨a,ha⟩:∃a:Ad,a=⟨Zbh,Zbi,Za8,Zbj,Za9,Zbw,Zba,Zbx,Zaw,Zax,Zam,Zah,Zai,Zao,Zap,Zaj,Zaq,Zar,Zaf,Zac,Zad,Zak,Zal,Zae⟩:=⟨_,rfl⟩
 have O:Oc K mg a:=by
  rw [ha];exact⟨Zbt.kc,Zbu.kc,Zbm.kc,Zbv.kc,Zbd.kc,Zbs.kc,Zbe.kc,Zbl.kc,fi_Plain_counts,fi_Named_counts,fi_Beside_counts,fi_Above_counts,fi_Across_counts,fi_Down_counts,fi_Turned_counts,fi_Dyed_counts,fi_Plain_size,fi_Named_size,fi_Beside_size,fi_Above_size,fi_Across_size,fi_Down_size,fi_Turned_size,fi_Dyed_size,(A4 Zbd.kc (Zbd.na _ (by decide)) (A4 Zbs.kc (Zbs.na _ (by decide)) N7)),(A4 Zbu.kc (Zbu.na _ (by decide)) N7),(A4 Zbl.kc (Zbl.na _ (by decide)) N7),(A4 Zbl.kc (Zbl.na _ (by decide)) N7),(A4 Zbd.kc (Zbd.na _ (by decide)) (A4 Zbs.kc (Zbs.na _ (by decide)) (A4 Zbe.kc (Zbe.na _ (by decide)) (A4 Zbl.kc (Zbl.na _ (by decide)) N7)))),(A4 Zbm.kc (Zbm.na _ (by decide)) (A4 Zbv.kc (Zbv.na _ (by decide)) N7)),(A4 Zbt.kc (Zbt.na _ (by decide)) N7),(A4 Zbe.kc (Zbe.na _ (by decide)) N7)⟩
 refine c1r (c43.to X G) hfa (λ_ _ _ _ _ _ _=>rfl) main λbase f fd kb F=> ?_
 have i_Above:L3 l.prog w K mg base "Above" ["parts"] 1:=a0k (k:=0) Zc2 b8e rfl Zbv.kc (PySem.W.mg_of X G Zcq) Zbv.mo Zbv.na (by decide+kernel) (by decide) (λ_ _ _ _ _ _=>el2 (λ_ _=>rfl)) λcdv A outer s H E hr=>(E6 (X6 (pv 0) (pv 1) rfl) Z8)
 have i_Across:L3 l.prog w K mg base "Across" ["many","part"] 1:=a0k (k:=0) Zct b5Y rfl Zbd.kc (PySem.W.mg_of X G Zch) Zbd.mo Zbd.na (by decide+kernel) (by decide) (λ_ _ _ _ _ _=>el3 (λ_ _ _=>rfl)) λcdv A outer s H E hr=>(E6 (X6 (pv 0) (pv 1) rfl) (E6 (X6 (pv 0) (pv 2) rfl) Z8))
 have i_Beside:L3 l.prog w K mg base "Beside" ["parts"] 1:=a0k (k:=0) Zcs b5Z rfl Zbm.kc (PySem.W.mg_of X G Zcg) Zbm.mo Zbm.na (by decide+kernel) (by decide) (λ_ _ _ _ _ _=>el2 (λ_ _=>rfl)) λcdv A outer s H E hr=>(E6 (X6 (pv 0) (pv 1) rfl) Z8)
 have i_Down:L3 l.prog w K mg base "Down" ["many","part"] 1:=a0k (k:=0) Zc7 c0p rfl Zbs.kc (PySem.W.mg_of X G Zcy) Zbs.mo Zbs.na (by decide+kernel) (by decide) (λ_ _ _ _ _ _=>el3 (λ_ _ _=>rfl)) λcdv A outer s H E hr=>(E6 (X6 (pv 0) (pv 1) rfl) (E6 (X6 (pv 0) (pv 2) rfl) Z8))
 have i_Dyed:L3 l.prog w K mg base "Dyed" ["one","other","part"] 1:=a0k (k:=0) Zc8 c0q rfl Zbl.kc (PySem.W.mg_of X G Zcz) Zbl.mo Zbl.na (by decide+kernel) (by decide) (λ_ _ _ _ _ _=>el4 (λ_ _ _ _=>rfl)) λcdv A outer s H E hr=>(E6 (X6 (pv 0) (pv 1) rfl) (E6 (X6 (pv 0) (pv 2) rfl) (E6 (X6 (pv 0) (pv 3) rfl) Z8)))
 have i_Named:L3 l.prog w K mg base "Named" ["name"] 1:=a0k (k:=0) Zc1 b8f rfl Zbu.kc (PySem.W.mg_of X G Zcp) Zbu.mo Zbu.na (by decide+kernel) (by decide) (λ_ _ _ _ _ _=>el2 (λ_ _=>rfl)) λcdv A outer s H E hr=>(E6 (X6 (pv 0) (pv 1) rfl) Z8)
 have i_Plain:L3 l.prog w K mg base "Plain" ["rows"] 1:=a0k (k:=0) Zc0 b8g rfl Zbt.kc (PySem.W.mg_of X G Zco) Zbt.mo Zbt.na (by decide+kernel) (by decide) (λ_ _ _ _ _ _=>el2 (λ_ _=>rfl)) λcdv A outer s H E hr=>(E6 (X6 (pv 0) (pv 1) rfl) Z8)
 have i_Turned:L3 l.prog w K mg base "Turned" ["way","part"] 1:=a0k (k:=0) Zcu b50 rfl Zbe.kc (PySem.W.mg_of X G Zci) Zbe.mo Zbe.na (by decide+kernel) (by decide) (λ_ _ _ _ _ _=>el3 (λ_ _ _=>rfl)) λcdv A outer s H E hr=>(E6 (X6 (pv 0) (pv 1) rfl) (E6 (X6 (pv 0) (pv 2) rfl) Z8))
 have I:Io l.prog w K mg base:=⟨i_Above,i_Across,i_Beside,i_Down,i_Dyed,i_Named,i_Plain,i_Turned⟩
 have b1T:=b0L l.prog w base (a0C.to X G)
 have a7u:=b2X l.prog w base (a0h.to X G) M
 have b4Z:=b4i l.prog w base (a2C.to X G) M a7u
 have b41:=b4o l.prog w base (a5w.to X G) M
 have b4Y:=b4h l.prog w base (a0Z.to X G) M
 obtain W4:=b2N l.prog w base (D2.to X G) M b4Y 12
 obtain a2u:=b2O l.prog w base (N5.to X G) M 12
 have b3r:=b2V l.prog w base (a1x.to X G) M b4Z a7u b41 W4 a2u
 have a4X:=a9v l.prog w base (Q1.to X G) M
 have b3s:=b2W l.prog w base (a3L.to X G)
 have a6S:=a6t l.prog w base (W5.to X G) M W4
 have a94:=a9w l.prog w base (a1V.to X G) M b1T b3r a4X b3s a6S W4
 obtain a2r:=b2K l.prog w base (E8.to X G) M I 12
 have b3p:=b2T l.prog w base (a3J.to X G) a2r
 have b42:=b4q l.prog w base (a5x.to X G)
 have b7k:=b5N l.prog w base (a6X.to X G) M
 have a5V:=b0I l.prog w base a (mg:=mg) (by rw [ha];exact m8) O b7k
 have a5U:=b0H l.prog w base a (mg:=mg) (by rw [ha];exact m7) O
 have a0M:=a8c l.prog w base (u6.to X G) Zcv Zc4
 have b1U:=b0N l.prog w base (K2.to X G) a0M
 have a95:=a9x l.prog w base (E9.to X G) a0M
 obtain⟨a0A,Y1,Y2,a1s,a1t,Y5,Zbk⟩:=a9o l.prog w base a (by rw [ha];exact Za4) (by rw [ha];exact Za1) (by rw [ha];exact Za0) (by rw [ha];exact Za6) (by rw [ha];exact Za7) (by rw [ha];exact Za2) (Zbb.to X G) O C8 C1 Zca Zck b1U a0M a5V a5U a95 20
 have a7v:=b2Y l.prog w base a (a1y.to X G) O a5V a5U Y2 a0A Y1 a1s Y5 a1t
 have b1R:=b0J l.prog w base (a2A.to X G) M
 have a5W:=a5J l.prog w base (T5.to X G) b1R
 have a3r:=a8b l.prog w base a (mg:=mg) (by rw [ha];exact l7) O a5W
 have a3q:=a8a l.prog w base a (mg:=mg) (by rw [ha];exact l6) M O
 have a8r:=a8d l.prog w base (C0.to X G)
 have b3n:=b2R l.prog w base (a0g.to X G)
 obtain⟨S8,Q6,Q7,Y3,Y4,Q8,Zbf⟩:=a7h l.prog w base a (by rw [ha];exact Zav) (by rw [ha];exact Zat) (by rw [ha];exact Zas) (by rw [ha];exact Zay) (by rw [ha];exact Zaz) (by rw [ha];exact Zau) (Za3.to X G) O a8r a3r a3q b3n 20
 have a1P:=a9u l.prog w base a (Q0.to X G) O a3r a3q Q7 S8 Q6 Y3 Q8 Y4
 have a3s:=a8e l.prog w base (N4.to X G) M G9 O3 b42 a7v a1P
 have c0O:=b9Q l.prog w base (b19.to X G) O3 a3s a7v
 have b3o:=b2S l.prog w base (a3I.to X G) c0O a3s a1P
 have b7j:=b5M l.prog w base (a4F.to X G) G9 b3o a1P
 have b40:=b4k l.prog w base (a5v.to X G) a4X
 obtain a2s:=b2L l.prog w base (W6.to X G) M 12
 have b4X:=b4g l.prog w base (a0Y.to X G)
 obtain⟨a2t,Zbr⟩:=b2M l.prog w base (Za5.to X G) (Zbn.to X G) b4X 24
 have b3q:=b2U l.prog w base (a3K.to X G) M a2s a2t
 have b1S:=b0K l.prog w base (a2B.to X G) M b3q
 exact c33 l.prog w base F M a94 b3p b7j b40 b1S
end LW
namespace PySem.W.Fast
def tw14989366432571029350:=()
def tw9967669824444701491:=()
def tw10458278977416724457:=()
def tw13931029898816722211:=()
def tw10713492885816155860:=()
def tw12163384059451333048:=()
def tw6698140516234489414:=()
def tw2429224787997109720:=()
def tw14008532858984632253:=()
def tw3514155139426181905:=()
def tw16684759932298982132:=()
def tw14028227185519141496:=()
def tw6292854781918488477:=()
def tw2169385684691946152:=()
def tw13664970072552643567:=()
def tw16139586479398083532:=()
def tw16136057406488040249:=()
def tw13758148230874953414:=()
def tw2187737101636801256:=()
def tw9373696947888885809:=()
def tw656480147357372218:=()
def tw17887604208515149240:=()
def tw14873495528353182074:=()
def tw10099275935319152435:=()
def tw7656770692642551245:=()
def tw3144598320834124510:=()
def tw10171248509130025111:=()
def tw1716272326915505715:=()
def tw11744228147343682008:=()
def tw17410374529764069411:=()
def tw15596600911834520872:=()
def tw17991376304471132253:=()
def tw17492220916844783512:=()
def tw6680355249985295353:=()
def tw14032391531796642726:=()
def tw8625247938846563936:=()
def tw14280545703083761357:=()
def tw9896179605045715077:=()
def tw16739025994819574:=()
def tw1751567964361438122:=()
def tw7310307073221479771:=()
def tw2553783472939606860:=()
def tw8765539282153933803:=()
def tw1864726226303815908:=()
def tw3103741842800778584:=()
def tw1296841868754248535:=()
def tw1036553199704208699:=()
def tw1812069652800037842:=()
def tw14308076841257700595:=()
def tw5509551311160065387:=()
def tw13258471125357207307:=()
def tw3206301797512018466:=()
def tw1924768163260706474:=()
def tw4029693042656975279:=()
def tw15282958304496717510:=()
def tw17690509061758808728:=()
def tw7859325338803781679:=()
def tw6725800521580278031:=()
def tw12356391439297979474:=()
def tw1974642373959241852:=()
def tw212152817255799367:=()
def tw16291191574962766766:=()
def tw6811352565999260156:=()
def tw18143523963034073351:=()
def tw13416797520941595774:=()
def tw2184502102237472926:=()
def tw10834134478256091980:=()
def tw12384695487024067416:=()
def tw7828683355032448838:=()
def tw11646296103357256054:=()
def tw13961184540314132570:=()
def tw2457166862238582668:=()
def tw5931803503101070326:=()
def tw3849221343160162633:=()
def tw1296872714525763523:=()
def tw391643795248383841:=()
def tw6005696101200653630:=()
def tw16925180088117609727:=()
def tw2160922342204996288:=()
def tw13005730520288273544:=()
def tw1467259384771808212:=()
def tw4282453686884136015:=()
def tw3818797253695422804:=()
def tw14652892218438876571:=()
def tw15591131698941589951:=()
def tw8845498431520010396:=()
def tw9424731806555395060:=()
def tw9565767871561835317:=()
def tw9824142353007309431:=()
def tw877746212976618692:=()
def tw6255791184747915933:=()
def tw11772857736516259115:=()
def tw2458427848427765347:=()
def tw18210153808794631760:=()
def tw4458070595862699740:=()
def tw13362425795631631276:=()
def tw285147031690230606:=()
def tw17830242589717752641:=()
def tw5906293777881209011:=()
def tw4012923266975946229:=()
def tw10402564685862915468:=()
def tw14671067192145398491:=()
def tw9885252325148389939:=()
def tw2734801378068368972:=()
def tw18126038472636685794:=()
def tw6620050653603883768:=()
def tw5218185514937562908:=()
def tw15444405118932451309:=()
def tw2399648912663424948:=()
def tw12477046263424463967:=()
def tw6209343744726481355:=()
def tw17816230578697196806:=()
def tw11983875511107269243:=()
def tw4177287276251725022:=()
def tw4381057163618042957:=()
def tw14513006263692794679:=()
def tw6636816656819808735:=()
def tw12435651942825044437:=()
def tw13658961588404401842:=()
def tw10324347004060632317:=()
def tw7275162245151619028:=()
def tw2173969184001074494:=()
def tw3067820010597384250:=()
def tw14801267621269234350:=()
def tw16939848221613300748:=()
def tw3405905144968247096:=()
def tw11026028915586625322:=()
def tw15201867581223193916:=()
def tw8913059530220924806:=()
def tw1844856212079568522:=()
def tw10607206017196577764:=()
def tw12136983396416139573:=()
def tw6798279649831771969:=()
def tw11639444804417473823:=()
def tw1836002264297390732:=()
def tw16050703441752976507:=()
def tw4869470517766747208:=()
def tw18251086477958701849:=()
def tw14375193440195919442:=()
def tw7452057210117711536:=()
def tw7429638318989918139:=()
def tw1975311049516931287:=()
def tw8262306187130854605:=()
def tw899662875991704826:=()
def tw3291129546800913127:=()
def tw14995124863321538089:=()
def tw18368616467355948294:=()
def tw13431025253231221377:=()
def tw8129336213693259989:=()
def tw1814082940908372544:=()
def tw14432031356216661866:=()
def tw18401185417611214585:=()
def tw12634264021522548749:=()
def tw3047854480107608267:=()
def tw11202133329581946902:=()
def tw13536872446384070496:=()
def tw5987883632058235386:=()
def tw11551373484391897202:=()
def tw14741430621785844065:=()
def tw15483069737869380181:=()
def tw10982680754696459577:=()
def tw6811210021127397038:=()
def tw12905752750498536218:=()
def tw199499431892548173:=()
def tw16320381115526625505:=()
def tw13462445479570852059:=()
def tw6734164894496450877:=()
def tw2397283922972948039:=()
def tw11910862235390904465:=()
def tw1598345328286608092:=()
def tw15064455585150895576:=()
def tw3566832643433068165:=()
def tw13084646088286820685:=()
def tw561247536948702797:=()
def tw6752945257034036990:=()
def tw3214552237009671670:=()
def tw6308189964608327512:=()
def tw13955239725030172698:=()
def tw161847676591310446:=()
def tw14124806391880767901:=()
def tw11501864288928010074:=()
def tw799906179623270588:=()
def tw705067363029174052:=()
def tw14970412585531089106:=()
def tw13233033361792286946:=()
def tw651772145649035987:=()
def tw8099925060436236533:=()
def tw15188985520640119102:=()
def tw9495213642509451836:=()
def tw11030214201358030336:=()
def tw14562448885794196041:=()
def tw3181913550767568273:=()
def tw6291377295533968474:=()
def tw7367108009370283985:=()
def tw15079703868290037675:=()
def tw4861574853263081850:=()
def tw15770848152394479457:=()
def tw7186730317247112297:=()
def tw14148405637137590890:=()
def tw6946293102603376524:=()
def tw8726437601655402250:=()
def tw11372550319131757808:=()
def tw17470435245809907906:=()
def tw6772029770314642568:=()
def tw18302118779157545484:=()
def tw5297492271011623698:=()
def tw520486046179986943:=()
def tw6142338098077026696:=()
def tw13920744631441496536:=()
def tw16720874943450705388:=()
def tw17891234301680229830:=()
def tw16347891708601165373:=()
def tw14324934964061249638:=()
def tw3859407718066558701:=()
def tw7612200214795875725:=()
def tw5993383624652485520:=()
def tw11659582912547855976:=()
def tw14914889369791020156:=()
def tw17207431705101504913:=()
def tw3503207914784176133:=()
def tw9229242052837355098:=()
def tw12208455042963792890:=()
def tw11455175897359670862:=()
def tw4484049266529632332:=()
def tw9264197041345858724:=()
def tw4792864049255414019:=()
def tw16910692983140360268:=()
end PySem.W.Fast
open PySem PySem.W PyProof.Rows
set_option maxRecDepth 100000 in
set_option maxHeartbeats 0 in
theorem PySem.Challenge.cw_carpetkin_k26_counted_holds : PySem.Challenge.rw_carpetkin_k26_counted.Holds := by
 w_on;o_law;k_head;(case hw=>w_witness2)
 k_fill
 refine PU.c5Y (k:=29) (x:="_law_script") (l:=PySem.Challenge.rw_carpetkin_k26_counted) (by decide) rfl rfl (fun w h Y=>PySem.W.kIn_of Y) ?F
 case F=>
  intro w mg fa h KX G hmg;apply LW.c28 KX G hmg
  all_goals first|(apply PU.b3J<;>k_is)|(apply PU.c44<;>first|k_is|kernel_rfl)|k_is|kernel_rfl|skip
