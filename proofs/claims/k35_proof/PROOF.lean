import PyProof.Rows.All
import Wide.All
import OpenK.AllK
import Wide.FinOn
import Lean
import PyProof.EqAt
import PyProof.EqKinds
import PyProof.TupleCall
import PyProof.Rows.SortPure
import PyProof.Rows.SortWalk
import PyProof.AttrMissHeap
import KE.KDictOf
import KE.KIntText
import PyProof.StrBlockH
import PyProof.CallStr
import PyProof.StrLawsIn
import PyProof.StrLawsOcc
import PyProof.StationsW
import PyProof.ExcClass2
import PyProof.ExcBaseAll.ValueError
import PyProof.RulesTry
import PyProof.Rows.CatchBare
import PyProof.Rows.CatchOwn
import OpenK.KOwn
import PyProof.NsDelKeeps
import PyProof.Rows.RuleDivmod
import PyProof.ExcInit
import PyProof.InstStore
import OpenK.KMake
import PyProof.InstStoreFacts
import PyProof.ExcAttrAll.ValueError
import OpenK.KCls
import PyProof.Rows.SumAny
import PyProof.Rows.SetFrom
import PyProof.Rows.TupAdd
import PyProof.StrLawsLast
import PySem.Challenge.RW_carpetkin_k35_whole_least_weavings
set_option hygiene false in
local macro_rules
|`(tactic|simp! [$a,*])=>`(tactic|simp (disch:=omega) only [$a,*])
|`(tactic|simp! [$a,*] at $l:ident)=>`(tactic|simp (disch:=omega) only [$a,*] at $l:ident)
set_option hygiene false in
local macro_rules
|`(tactic|ext a)=>`(tactic|(refine c8 ?_ ?_))
|`(tactic|ext b)=>`(tactic|(intro pins s σ H x y v u Q I rx ry h;obtain⟨F,ra,rb,rz,s0,h1,h2,h3,k⟩:=h))
|`(tactic|ext c)=>`(tactic|(have i2:l9 (.v (E2 (.again k qs))) (.v (.int 2))=ξ (.v (.list (x8 qs))):=by rw [ep];rfl))
|`(tactic|ext d)=>`(tactic|(intro pins s σ H xs us Q I rv h;obtain⟨F,x,rx,rz,rfl,s0,h1,h2,k⟩:=h))
|`(tactic|ext e)=>`(tactic|(have i0:l9 (.v (E2 (.again k qs))) (.v (.int 0))=ξ (.v C9):=by rw [ep];rfl))
|`(tactic|ext f)=>`(tactic|(have i0:l9 (.v (E2 (.run c k))) (.v (.int 0))=ξ (.v a6M):=by rw [ep];rfl))
|`(tactic|ext g)=>`(tactic|(obtain⟨rx,e1,hm⟩:=bind_some hm;obtain⟨ry,e2,hm⟩:=bind_some hm;obtain⟨rz,e3,hm⟩:=bind_some hm;refine⟨F,ρ,rx,he,e1,λv F1 H1 o1=>⟨?_,⟨F1,ρ,ry,he.ext o1.x,e2,λu F2 H2 o2=>⟨F2,ρ,rz,(he.ext o1.x).ext o2.x,e3,λw F3 H3 o3=>⟨F3,u,w,rx,ry,rz,r,rfl,o3.x.fh,(o1.rep.ext o2.x).ext o3.x,o2.rep.ext o3.x,o3.rep,hm,λz F4 H4 o4=>k z F4 H4 (B4.trans ((o1.x.trans o2.x).trans o3.x) o4)⟩⟩⟩⟩⟩))
|`(tactic|ext h)=>`(tactic|(intro X hP hw hK hc i pins s σ H E I hf st hg;subst hP hw hK))
|`(tactic|ext i)=>`(tactic|(refine a07 PassesOwn.never ?_ ?_ ?_ (p9 2) ?_))
|`(tactic|ext j)=>`(tactic|(have i1:l9 (.v (E2 (.again k qs))) (.v (.int 1))=ξ (.v (.int (k:Nat))):=by rw [ep];rfl))
|`(tactic|ext k)=>`(tactic|(refine d0 ?_;refine r6 ?_ ?_ ?_))
|`(tactic|ext l)=>`(tactic|(have i2:l9 (.v (E2 (.run c k))) (.v (.int 2))=ξ (.v (.int (k:Nat))):=by rw [ep];rfl))
|`(tactic|ext m)=>`(tactic|(exact(o8 (i:=2) S.nd rfl (Or.inl rfl))))
|`(tactic|ext n)=>`(tactic|(refine⟨F,ρ,r,so.e,e2,λv F1 H1 o=> ?_⟩;obtain⟨F2,o2⟩:=o.toVal e3;have so2:=so.ext o2.x))
|`(tactic|ext o)=>`(tactic|(obtain⟨f0,f1,f2,f3,f4,f5⟩:=hf it (by simp)))
|`(tactic|ext p)=>`(tactic|(have hit:PyData.items? (.list (j8 ws))=ξ (j8 ws):=rfl))
|`(tactic|ext q)=>`(tactic|(obtain⟨i0,i1,i2⟩:=a7p k ps;have g1:=g.1;rw [gVx] at g1))
|`(tactic|ext r)=>`(tactic|(have i1:l9 (.v (E2 (.run c k))) (.v (.int 1))=ξ (.v (row [c])):=by rw [ep];rfl))
|`(tactic|ext s)=>`(tactic|(exact(a6l (a5A rfl rfl rfl Zbd.mg (a8I kb Za5) (a7 j9 c7) (λpins σ H s a I x h0 hn e=>a1D I x h0 hn e)))))
|`(tactic|ext t)=>`(tactic|(cases hc;cases rp;cases rq;obtain⟨tx,rfl⟩:=rx;obtain⟨ty,rfl⟩:=ry))
|`(tactic|ext u)=>`(tactic|(intro pins s σ H x y v u Q I rx ry h))
|`(tactic|ext v)=>`(tactic|(intro pins s σ H Q I h))
|`(tactic|ext w)=>`(tactic|(intro pins s σ H x v vl vu lo hi sl Q I rx hs pl pu h;obtain⟨a,xs,rfl,hx,hw,q⟩:=h;cases rx;obtain⟨its,r,ht,hz⟩:=I.tuple hx;have hlen:its.toArray.size=xs.length:=by rw [Aj];exact r.length.symm))
|`(tactic|ext x)=>`(tactic|(have hit:PyData.items? (.list (x8 ps))=ξ (x8 ps):=rfl))
|`(tactic|ext y)=>`(tactic|(have isN:∀x y:PV,a1U false (.v (.tuple [x,y])) (.v .none)=ξ (.v (.bool false)):=λ_ _=>rfl))
set_option hygiene false in
local macro_rules
|`(tactic|ext z)=>`(tactic|(obtain⟨rx,e1,hm⟩:=bind_some hm;obtain⟨ry,e2,hm⟩:=bind_some hm))
|`(tactic|ext aa)=>`(tactic|(obtain⟨r,e1,e⟩:=bind_some e;split at e))
|`(tactic|ext ab)=>`(tactic|(intro pins s σ H R I h;refine R1 (hl pins s σ H _ I h) λv s1 h0=>u8 h0 λx H1 I1 r1 q1=> ?_))
|`(tactic|ext ac)=>`(tactic|(have hk:a8 5 [ξ (.v (d9 l)),ξ (.ow (.dct K)),q2,ξ (.v (.int (w:Nat))),ξ (.v (.int (s:Nat))),ξ (.v (d9 x)),q6,q7]=ξ (.v (d9 x)):=by simp! [b5,d3]))
|`(tactic|ext ad)=>`(tactic|(obtain⟨q,e1,e⟩:=bind_some e;obtain⟨r,e2,e3⟩:=bind_some e1))
set_option hygiene false in
local macro_rules
|`(tactic|exists z0,$k,$s,$e)=>`(tactic|(refine j6 (k:=$k) D $s (λ_ _ _ _ _ _=>$e) λf cdv A outer s H E hr=> ?_;have S:=$s;have hu:=hr.units))
|`(tactic|exists z1,$k,$s,$e)=>`(tactic|(refine b75 (k:=$k) D $s (λ_ _ _ _ _ _=>$e) λf cdv A outer s H E hr hx=> ?_;have S:=$s;have hu:=hr.units))
|`(tactic|exists z2,$k,$s,$e)=>`(tactic|(refine b0n (k:=$k) D $s (λ_ _ _ _ _ _=>$e) λf cdv A outer s H E hr=> ?_;have S:=$s;have hu:=hr.units))
|`(tactic|exists y0,$y,$n,$i,$d)=>`(tactic|refine a2X (ys:=$y) (N0:=$n) (λ_ _ h=>h) ?_ ⟨by kernel_rfl,rfl,of_decide_eq_true rfl,of_decide_eq_true rfl,of_decide_eq_true rfl⟩ ?_ (λC fp pins s H=>o8 (i:=$i) $d rfl (Or.inl rfl)) (λn h=>V5 (i:=$i) (Nat.le_of_eq h)) (λC fp pins s H=>a5y) ?_)
set_option Elab.async false
set_option linter.all false
set_option maxRecDepth 100000
noncomputable section
open PySem renaming Value->AA,Addr->AB,Shared->AC,Expr->AF,World->AH,wpAny->AI,Program->AJ,starEach->AK,sizeLine->AL,Around->AM,wpAny_bind->AO,wpAny_pure->Ae
open Option renaming bind_some->AD,map_some->Ar
open PySem.W renaming Frag->AE
open List renaming map_cons->AG,map_nil->AR,set_cons_zero->AS,set_cons_succ->AT,length_cons->AU,replicate->AV,length_append->AW,replicate_zero->AX,nil_append->AY,length_map->AZ,cons_append->Aa,range->Ab,replicate_succ->Ac,length_nil->Ad,append_nil->Af,mem_map->Ah,size_toArray->Aj,mem_cons_self->Ak,mem_cons_of_mem->Al,mem_cons->An,map_append->Ao,mem_append->Aq,mem_append_right->Au,getElem?_eq_some_iff->Av,length_range->Ax,map_map->Ay,getElem?_map->Az,mem_of_getElem?->BA,getElem?_eq_getElem->BC,mem_append_left->BD,getElem?_append_left->BE,getElem?_set_self->BH
open Nat renaming le_refl->AN,reduceLeDiff->Ai,ne_of_lt->As,lt_of_lt_of_le->Aw,le_of_lt->BG
open PySem.Str renaming ofString->AQ
open PySem.Heap renaming lt_size->Ag,get?_push_of_some->Am,get?_push_size->At
open Bool renaming false_ne_true->BB,false_eq_true->BF
open Int renaming toNat_natCast->BI
open Option renaming some→ξ,none→ζ
theorem ω{α:Sort _}{a:α}:a=a:=Eq.trans rfl rfl
abbrev Δ(x:PySem.Str):Prop:=(x==("__debug__":PySem.Str))=false
abbrev Υ:=Option
open PySem.PyData renaming eqv->η
open PySem.PyData renaming eqvAll->θ
open Bool renaming and_eq_true->χ
namespace L2
open PySem PySem.Spec PyProof.Rows
abbrev Ψ(e:PySem.Expr)(es:List PySem.Expr)(v:PySem.Env):Prop:=AK (e::es) v=(false,eval e v)::AK es v
abbrev Φ₁(p:PySem.Pos)(es:List PySem.Expr)(v:PySem.Env):Prop:=(backTo p (AK es v)).any (·.1)=false
theorem δ{p:Prop}[Decidable p](h:decide p=true):p:=of_decide_eq_true h
theorem A1{α β γ:Type _}{p q r:α->β->γ->Prop}{C:Prop}(h:∃a b c,p a b c/\q a b c/\r a b c)(k:∀a b c,p a b c->q a b c->r a b c->C):C:=
 h.elim λa h=>h.elim λb h=>h.elim λc h=>k a b c h.1 h.2.1 h.2.2
theorem u8{α β:Type _}{p q r:α->β->Prop}{C:Prop}(h:∃a b,p a b/\q a b/\r a b)(k:∀a b,p a b->q a b->r a b->C):C:=
 h.elim λa h=>h.elim λb h=>k a b h.1 h.2.1 h.2.2
theorem a6k{α β:Type _}{p q r s:α->β->Prop}{C:Prop}(h:∃a b,p a b/\q a b/\r a b/\s a b)(k:∀a b,p a b->q a b->r a b->s a b->C):C:=
 h.elim λa h=>h.elim λb h=>k a b h.1 h.2.1 h.2.2.1 h.2.2.2
abbrev m7:=Sum Int Str
def b2S:m7->AA->Bool
 | .inl k,v=>Value.isInt k v
 | .inr x,v=>Value.isStrOf x v
def c7X(w:AH):m7->Int
 | .inl k=>hashInt k
 | .inr x=>hashStr w x
theorem N3:∀{k:m7} {v:AA},b2S k v=true->(∃i t,k=Sum.inl i/\v=Value.int i t)\/(∃x t,k=Sum.inr x/\v=Value.str x t)
 | .inl i,v,h=>by
   obtain⟨t,e⟩:=Value.isInt_shape (k:=i) (v:=v) h;exact .inl ⟨i,t,rfl,e⟩
 | .inr x,v,h=>by
   obtain⟨t,e⟩:=Value.isStrOf_shape (x:=x) (v:=v) h;exact .inr ⟨x,t,rfl,e⟩
theorem b9B(i:Int)(t:Tok):b2S (.inl i) (.int i t)=true:=by simp [b2S,Value.isInt]
theorem b9C(x:Str)(t:Tok):b2S (.inr x) (.str x t)=true:=by simp [b2S,Value.isStrOf]
theorem c5F(a b:Int):decide ((Sum.inl a:m7)=Sum.inl b)=(a==b):=by
 by_cases e:a=b
 ·subst e;simp
 ·have h:¬(Sum.inl a:m7)=Sum.inl b:=λq=>e (Sum.inl.inj q);rw [decide_eq_false h];exact(beq_eq_false_iff_ne.mpr e).symm
theorem c5I(a b:Str):decide ((Sum.inr a:m7)=Sum.inr b)=decide (a=b):=by
 by_cases e:a=b
 ·subst e;simp
 ·have h:¬(Sum.inr a:m7)=Sum.inr b:=λq=>e (Sum.inr.inj q);rw [decide_eq_false h,decide_eq_false e]
theorem c5G(a:Int)(b:Str):decide ((Sum.inl a:m7)=Sum.inr b)=false:=decide_eq_false (λq=>nomatch q)
theorem c5H(a:Str)(b:Int):decide ((Sum.inr a:m7)=Sum.inl b)=false:=decide_eq_false (λq=>nomatch q)
def U0(prog:AJ)(w:AH):PySem.KeyKind prog w m7 where
 is:=b2S
 hash:=c7X w
 inj:=λv a b ha hb=>by
  rcases N3 ha with⟨i,t,rfl,rfl⟩|⟨x,t,rfl,rfl⟩
  ·rcases N3 hb with⟨j,u,rfl,e⟩|⟨y,u,rfl,e⟩
   ·injection e with e1 _;rw [e1]
   ·exact nomatch e
  ·rcases N3 hb with⟨j,u,rfl,e⟩|⟨y,u,rfl,e⟩
   ·exact nomatch e
   ·injection e with e1 _;rw [e1]
 byValue:=λk v h=>by
   rcases N3 h with⟨i,t,rfl,rfl⟩|⟨x,t,rfl,rfl⟩<;>rfl
 pyHash:=λhv h=>by
  rcases N3 hv with⟨i,t,rfl,rfl⟩|⟨x,t,rfl,rfl⟩
  ·exact wpAny_pyHash_int h
  ·exact wpAny_pyHash_str h
 eqBool:=λhu hv h=>by
  rcases N3 hu with⟨i,t,rfl,rfl⟩|⟨x,t,rfl,rfl⟩
  ·rcases N3 hv with⟨j,u,rfl,rfl⟩|⟨y,u,rfl,rfl⟩
   ·rw [c5F] at h;exact wpAny_eqBool_int h
   ·rw [c5G] at h;exact SeqAt.EqAt.int_str i t y u _ _ _ _ h
  ·rcases N3 hv with⟨j,u,rfl,rfl⟩|⟨y,u,rfl,rfl⟩
   ·rw [c5H] at h;exact SeqAt.EqAt.str_int x t j u _ _ _ _ h
   ·rw [c5I] at h;exact wpAny_eqBool_str h
 «strs»:=λk x t v h=>by
  rcases N3 h with⟨i,u,rfl,e⟩|⟨y,u,rfl,e⟩
  ·exact nomatch e
  ·injection e with e1 _
   subst e1;cases v<;>rfl
theorem b5z(prog:AJ)(w:AH)(i:Int)(t:Tok):(U0 prog w).is (.inl i) (.int i t)=true:=b9B i t
theorem b5A(prog:AJ)(w:AH)(x:Str)(t:Tok):(U0 prog w).is (.inr x) (.str x t)=true:=b9C x t
inductive V where
 |non|bl (b:Bool)|int (i:Int)|str (x:Str)|byt (b:Array UInt8)|flt (b:UInt64)|ref (a:AB)|ty (n:String)
 deriving DecidableEq
def z7:V->AA->Prop
 | .non,u=>u=Value.none
 | .bl b,u=>u=Value.bool b
 | .int i,u=>∃t,u=Value.int i t
 | .str x,u=>∃t,u=Value.str x t
 | .byt b,u=>∃t,u=Value.bytes b t
 | .flt b,u=>∃t,u=Value.float b t
 | .ref a,u=>u=Value.ref a
 | .ty n,u=>u=Value.type n
abbrev v7:List V->List AA->Prop:=Paired z7
theorem v7.length{xs:List V}{us:List AA}(r:v7 xs us):xs.length=us.length:=Paired.length r
theorem v7.get:∀{xs:List V} {us:List AA} {i:Nat} {x:V},v7 xs us->xs[i]?=ξ x->∃u,us[i]?=ξ u/\z7 x u
 |_,_,_,_,.nil,e=>by simp at e
 |_,_,0,_,.cons r _,e=>by simp at e;subst e;exact⟨_,rfl,r⟩
 |_,_,i+1,x,.cons _ t,e=>by
  obtain⟨u,h1,h2⟩:=v7.get (i:=i) (x:=x) t (by simpa using e)
  exact⟨u,by simpa using h1,h2⟩
theorem v7.set{x:V}{u:AA}(r:z7 x u):∀{xs:List V} {us:List AA} (i:Nat),v7 xs us->v7 (xs.set i x) (us.set i u)
 |_,_,_,.nil=> .nil
 |_,_,0,.cons _ t=> .cons r t
 |_,_,i+1,.cons q t=> .cons q (v7.set r i t)
theorem v7.append:∀{xs ys:List V} {us ws:List AA},v7 xs us->v7 ys ws->v7 (xs++ys) (us++ws)
 |_,_,_,_,.nil,s=>s
 |_,_,_,_,.cons r t,s=> .cons r (v7.append t s)
theorem v7.take:∀{xs:List V} {us:List AA} (n:Nat),v7 xs us->v7 (xs.take n) (us.take n)
 |_,_,0,_=> .nil
 |_,_,_+1,.nil=> .nil
 |_,_,n+1,.cons r t=> .cons r (v7.take n t)
theorem v7.drop:∀{xs:List V} {us:List AA} (n:Nat),v7 xs us->v7 (xs.drop n) (us.drop n)
 |_,_,0,r=>r
 |_,_,_+1,.nil=> .nil
 |_,_,n+1,.cons _ t=>v7.drop n t
def b11:Υ V->Υ AA->Prop
 |some v,ξ u=>z7 v u
 |none,ζ=>True
 |_,_=>False
def KV{κ:Type}:List (κ×V)->List (κ×AA)->Prop:=Paired λ(p:κ×V) (q:κ×AA)=>p.1=q.1/\z7 p.2 q.2
def kV:m7->V
 | .inl i=> .int i
 | .inr x=> .str x
inductive HO where
 |lst (xs:List V)
 |tup (xs:List V)
 |dK (kvs:List (m7×V))|dT (kvs:List (List m7×V))
 |set (S:Int->Bool) (n:Nat)
 |ins (C dx:AB) (fs:List (Str×V))
 |own (x:AB)
 |xd (fs:List (Str×V))
 |met (f x:AB)
 |rng (lo hi:Int)
 |frz (o:Obj) (u:HO)
 |tbl (ps:Array AA)
 |ext (φ:Heap->Prop)
abbrev Hp:=AB->Υ HO
def upd(H:Hp)(a:AB)(o:HO):Hp:=λb=>if b=a then ξ o else H b
theorem n6{H:Hp}{a:AB}{o:HO}:upd H a o a=ξ o:=by unfold upd;rw [if_pos rfl]
theorem m4{H:Hp}{a b:AB}{o:HO}(h:b≠a):upd H a o b=H b:=by unfold upd;rw [if_neg h]
theorem b8Q{H:Hp}{a:AB}{o u:HO}:upd (upd H a o) a u=upd H a u:=by
 funext b;unfold upd;split<;>rfl
theorem a31{H:Hp}{a b:AB}{o u:HO}(h:H a=ξ o)(h':H b=ξ u)(d:o≠u):a≠b:=by
 intro e;subst e;rw [h] at h';exact d (Option.some.inj h')
theorem v6{H:Hp}{a b:AB}{o:HO}(h:H a=ξ o)(h':H b=ζ):a≠b:=by
 intro e;subst e;rw [h] at h';cases h'
section
variable (P:AJ)(w:AH)
def Q1(H:Hp)(h:Heap)(a:AB):HO->Prop
 | .lst xs=>xs.length<=AL/\∃(its:List AA) (n:Nat),v7 xs its/\h.get? a=ξ {cls:= .type "list",data:= .seq its.toArray n}
 | .tup xs=>xs.length<=AL/\∃its:List AA,v7 xs its/\IsTup h a its.toArray
 | .dK kvs=>kvs.length<=AL/\(a==sysModules)=false/\∃vs,KV kvs vs/\h.DictOf (U0 P w) a vs
 | .dT kvs=>kvs.length<=AL/\(a==sysModules)=false/\∃xs:List (List m7×AB×AA),
  Paired (λ(p:List m7×V) (q:List m7×AB×AA)=>p.1=q.1/\H q.2.1=ξ (.tup (p.1.map kV))/\z7 p.2 q.2.2) kvs xs/\
  ∃o es ep,h.get? a=ξ o/\o.ExactDict/\o.data= .dict es ep/\es.toList=xs.map (entryOfKey (tupleKind (U0 P w)))/\(xs.map (·.1)).Nodup
 | .set S n=>h.SetOf (intKind P w) a S n
 | .ins C dx fs=>H dx=ξ (.own a)/\fs.length<=1000/\dx≠a/\h.get? a=ξ (PySem.W.instObj C dx)/\
  ∃mA,h.Ns1 dx mA/\(∀f,b11 (fs.lookup f) (mA f))/\PySem.Within mA (fs.map (·.1))
 | .own _=>∃o,h.get? a=ξ o
 | .xd fs=>∃mA,h.Ns1 a mA/\∀f,b11 (fs.lookup f) (mA f)
 | .rng lo hi=>∃t u v,h.get? a=ξ {cls:= .type "range",data:= .fields #[.int lo t,.int hi u,.int 1 v]}
 | .frz o u=>h.get? a=ξ o/\Q1 H h a u
 | .tbl ps=>h.get? a=ξ {cls:= .none,data:= .fields ps}
 | .met f x=>h.get? a=ξ (PySem.W.methodObj (.ref f) (.ref x))
 | .ext φ=>φ h/\(∃o,h.get? a=ξ o)/\∀h1 h2:Heap,φ h1->(∀o,h1.get? a=ξ o->h2.get? a=ξ o)->φ h2
def HOk(H:Hp)(h:Heap):Prop:=∀a o,H a=ξ o->Q1 P w H h a o
end
section
variable {P:AJ}{w:AH}{H H':Hp}{h h':Heap}{a:AB}{o:HO}
theorem Q1.lt(x:Q1 P w H h a o):a<h.objs.size:=by
 cases o with
 |lst xs=>obtain⟨_,_,_,_,e⟩:=x;exact Ag e
 |tup xs=>obtain⟨_,_,_,p⟩:=x;exact p.lt
 |dK kvs=>obtain⟨_,_,_,_,o,_,_,e,_⟩:=x;exact Ag e
 |dT kvs=>obtain⟨_,_,_,_,o,_,_,e,_⟩:=x;exact Ag e
 |set S n=>obtain⟨o,_,_,_,e,_⟩:=x;exact Ag e
 |ins C dx fs=>obtain⟨_,_,_,e,_⟩:=x;exact Ag e
 |own y=>obtain⟨_,e⟩:=x;exact Ag e
 |xd fs=>obtain⟨_,⟨_,_,_,e,_⟩,_⟩:=x;exact Ag e
 |rng lo hi=>obtain⟨_,_,_,e⟩:=x;exact Ag e
 |frz ob u=>obtain⟨e,_⟩:=x;exact Ag e
 |tbl ps=>exact Ag (show h.get? a=ξ _ from x)
 |met f y=>exact Ag (show h.get? a=ξ _ from x)
 |ext φ=>obtain⟨_,⟨_,e⟩,_⟩:=x;exact Ag e
theorem Paired.mapP{α β:Type}{F G:α->β->Prop}:∀{l₁:List α} {l₂:List β},Paired F l₁ l₂->(∀a b,F a b->G a b)->Paired G l₁ l₂
 |_,_,.nil,_=> .nil
 |_,_,.cons r t,f=> .cons (f _ _ r) (Paired.mapP t f)
theorem Q1.stay(x:Q1 P w H h a o)(k:∀b u,(b=a\/H b=ξ (.own a))->h.get? b=ξ u->h'.get? b=ξ u)
 (ho:∀b,H b=ξ (.own a)->H' b=ξ (.own a)) (ht:∀b xs,H b=ξ (.tup xs)->H' b=ξ (.tup xs)):Q1 P w H' h' a o:=by
 induction o with
 |lst xs=>obtain⟨z,its,n,r,e⟩:=x;exact⟨z,its,n,r,k _ _ (.inl rfl) e⟩
 |tup xs=>obtain⟨z,its,r,ob,e,c⟩:=x;exact⟨z,its,r,ob,k _ _ (.inl rfl) e,c⟩
 |dK kvs=>obtain⟨z,y,vs,r,ob,es,ep,e,c⟩:=x;exact⟨z,y,vs,r,ob,es,ep,k _ _ (.inl rfl) e,c⟩
 |dT kvs=>
  obtain⟨z,y,xs,r,ob,es,ep,e,c⟩:=x
  exact⟨z,y,xs,Paired.mapP r λp q z=>⟨z.1,ht _ _ z.2.1,z.2.2⟩,ob,es,ep,k _ _ (.inl rfl) e,c⟩
 |set S n=>obtain⟨ob,es,ep,t,e,c⟩:=x;exact⟨ob,es,ep,t,k _ _ (.inl rfl) e,c⟩
 |ins C dx fs=>
  obtain⟨d,z,ne,e,mA,⟨od,es,ep,e2,c⟩,r⟩:=x
  exact⟨ho _ d,z,ne,k _ _ (.inl rfl) e,mA,⟨od,es,ep,k _ _ (.inr d) e2,c⟩,r⟩
 |own y=>obtain⟨ob,e⟩:=x;exact⟨ob,k _ _ (.inl rfl) e⟩
 |xd fs=>obtain⟨mA,⟨od,es,ep,e,c⟩,r⟩:=x;exact⟨mA,⟨od,es,ep,k _ _ (.inl rfl) e,c⟩,r⟩
 |rng lo hi=>obtain⟨t,u,v,e⟩:=x;exact⟨t,u,v,k _ _ (.inl rfl) e⟩
 |frz ob u ih=>obtain⟨e,q⟩:=x;exact⟨k _ _ (.inl rfl) e,ih q⟩
 |tbl ps=>
  have e:h.get? a=ξ {cls:= .none,data:= .fields ps}:=x
  show h'.get? a=ξ {cls:= .none,data:= .fields ps}
  exact k a _ (.inl rfl) e
 |met f y=>
  have e:h.get? a=ξ (PySem.W.methodObj (.ref f) (.ref y)):=x
  show h'.get? a=ξ (PySem.W.methodObj (.ref f) (.ref y))
  exact k a _ (.inl rfl) e
 |ext φ=>obtain⟨p,⟨o,e⟩,st⟩:=x;exact⟨st _ _ p λo q=>k _ _ (.inl rfl) q,⟨o,k _ _ (.inl rfl) e⟩,st⟩
theorem HOk.lt(x:HOk P w H h)(e:H a=ξ o):a<h.objs.size:=(x a o e).lt
theorem HOk.fresh(x:HOk P w H h)(e:h.objs.size<=a):H a=ζ:=by
 cases q:H a with
 |none=>rfl
 |some u=>exact absurd (Aw (x.lt q) e) (Nat.lt_irrefl _)
theorem HOk.kept(x:HOk P w H h)(k:∀b u,h.get? b=ξ u->h'.get? b=ξ u):HOk P w H h':=λa o e=>
 (x a o e).stay (λb u _ q=>k b u q) (λ_ q=>q) λ_ _ q=>q
theorem HOk.laid(x:HOk P w H h)(k:∀b u,h.get? b=ξ u->h'.get? b=ξ u)(hp:h.objs.size<=a)(new:Q1 P w (upd H a o) h' a o):HOk P w (upd H a o) h':=λb u e=>by
 have hn:=x.fresh hp
 by_cases hb:b=a
 ·subst hb;rw [n6] at e;cases e;exact new
 ·rw [m4 hb] at e;exact(x b u e).stay (λc v _ q=>k c v q) (λc q=>by rw [m4 (v6 q hn)];exact q) λc xs q=>by rw [m4 (v6 q hn)];exact q
end
def Rd(H:Hp)(a:AB)(u:HO):Prop:=H a=ξ u\/∃o,H a=ξ (.frz o u)
theorem Rd.ok{P:AJ}{w:AH}{H:Hp}{h:Heap}{a:AB}{u:HO}(r:Rd H a u)(x:HOk P w H h):Q1 P w H h a u:=by
 rcases r with r|⟨o,r⟩
 ·exact x a u r
 ·obtain⟨_,q⟩:=x a _ r;exact q
def Mut:Υ HO->Prop
 |some (.lst _)=>True
 |some (.dK _)=>True
 |some (.dT _)=>True
 |some (.set _ _)=>True
 |some (.ins _ _ _)=>True
 |some (.ext _)=>True
 |_=>False
section
variable {P:AJ}{w:AH}{H:Hp}{h h':Heap}{x e:AB}{o':HO}
theorem HOk.write(ok:HOk P w H h)(mu:Mut (H x))(he:e=x\/H e=ξ (.own x))(k:∀b u,b≠e->h.get? b=ξ u->h'.get? b=ξ u)(heo:∃u,h'.get? e=ξ u)
 (new:Q1 P w (upd H x o') h' x o'):HOk P w (upd H x o') h':=λb u q=>by
 have nown:∀c y,H c=ξ (.own y)->c≠x:=λc y r z=>by subst z;rw [r] at mu;exact mu
 have ntup:∀c xs,H c=ξ (.tup xs)->c≠x:=λc xs r z=>by subst z;rw [r] at mu;exact mu
 by_cases hb:b=x
 ·subst hb;rw [n6] at q;cases q;exact new
 ·rw [m4 hb] at q
  by_cases hbe:b=e
  ·have q':H b=ξ (.own x):=by
    rcases he with z|z
    ·exact absurd (hbe.trans z) hb
    ·rw [hbe];exact z
   rw [q] at q';cases q';obtain⟨v,hv⟩:=heo;exact⟨v,by rw [hbe];exact hv⟩
  ·refine(ok b u q).stay (λc v hc r=>k c v ?_ r) (λc r=>by rw [m4 (nown c b r)];exact r) λc xs r=>by rw [m4 (ntup c xs r)];exact r
   rcases hc with rfl|hc
   ·exact hbe
   ·rintro rfl
    rcases he with z|z
    ·exact nown c b hc z
    ·rw [hc] at z;cases z;exact hb rfl
end
structure Un(fs ex:List AB)(H H':Hp)(h h':Heap):Prop where
 keep:∀b o,h.get? b=ξ o->H b=ζ->b∉fs->b∉ex->h'.get? b=ξ o
 slot:∀b o,h.get? b=ξ o->H b=ζ->b∈fs->b∉ex->∃sl,h'.get? b=ξ {o with slots:=sl}
 free:∀b o,h.get? b=ξ o->H b=ζ->b∉ex->H' b=ζ
 there:∀b o,h.get? b=ξ o->b∉ex->∃o',h'.get? b=ξ o'
 tups:∀b xs,H b=ξ (.tup xs)->H' b=ξ (.tup xs)
 frzs:∀b o u,H b=ξ (.frz o u)->H' b=ξ (.frz o u)
 tbls:∀b ps,H b=ξ (.tbl ps)->∃more,H' b=ξ (.tbl (ps++more))
section
variable {fs fs' ex ex':List AB}{H H1 H2:Hp}{h h1 h2 h':Heap}{a x e:AB}{o:HO}
theorem Un.any(u:Un fs ex H H1 h h1){b:AB}{ob:Obj}(q:h.get? b=ξ ob)(n:H b=ζ)(hx:b∉ex):∃sl,h1.get? b=ξ {ob with slots:=sl}:=by
 by_cases hb:b∈fs
 ·exact u.slot b ob q n hb hx
 ·exact⟨ob.slots,u.keep b ob q n hb hx⟩
theorem Un.kept(k:∀b u,h.get? b=ξ u->h'.get? b=ξ u):Un fs ex H H h h':=
 ⟨λb ob q _ _ _=>k b ob q,λb ob q _ _ _=>⟨ob.slots,k b ob q⟩,λ_ _ _ n _=>n,λb ob q _=>⟨ob,k b ob q⟩,λ_ _ q=>q,λ_ _ _ q=>q,λ_ ps q=>⟨#[],by rw [q];simp⟩⟩
theorem Un.refl:Un fs ex H H h h:=Un.kept λ_ _ q=>q
theorem Un.laid(k:∀b u,h.get? b=ξ u->h'.get? b=ξ u)(hp:h.objs.size<=a)(hn:H a=ζ):Un fs ex H (upd H a o) h h' where
 keep:=λb u q _ _ _=>k b u q
 slot:=λb u q _ _ _=>⟨u.slots,k b u q⟩
 free:=λb u q n _=>by rw [m4 (As (Aw (Ag q) hp))];exact n
 there:=λb u q _=>⟨u,k b u q⟩
 tups:=λb xs q=>by rw [m4 (v6 q hn)];exact q
 frzs:=λb u xs q=>by rw [m4 (v6 q hn)];exact q
 tbls:=λb ps q=>⟨#[],by rw [m4 (v6 q hn),q];simp⟩
theorem Un.write(mu:Mut (H x))(he:e=x\/H e=ξ (.own x))(k:∀b u,b≠e->h.get? b=ξ u->h'.get? b=ξ u)(heo:∃u,h'.get? e=ξ u):Un fs ex H (upd H x o) h h':=by
 have hx:∀b,H b=ζ->b≠x:=λb n z=>by subst z;rw [n] at mu;exact mu
 have hb:∀b,H b=ζ->b≠e:=λb n z=>by
  subst z;rcases he with r|r
  ·exact hx b n r
  ·rw [n] at r;cases r
 have hm:∀b u,H b=ξ u->¬Mut (ξ u)->b≠x:=λb u q nm z=>by subst z;rw [q] at mu;exact nm mu
 refine⟨λb u q n _ _=>k b u (hb b n) q,λb u q n _ _=>⟨u.slots,k b u (hb b n) q⟩,λb u q n _=>by rw [m4 (hx b n)];exact n,λb u q _=> ?_,
  λb xs q=>by rw [m4 (hm b _ q λz=>z)];exact q,λb u xs q=>by rw [m4 (hm b _ q λz=>z)];exact q,λb ps q=>⟨#[],by rw [m4 (hm b _ q λz=>z),q];simp⟩⟩
 by_cases hbe:b=e
 ·subst hbe;exact heo
 ·exact⟨u,k b u hbe q⟩
end
def trk(h:Heap)(H:Hp):List AB:=(Ab h.objs.size).filter λa=>(H a).isSome
def b3M(h:Heap)(H:Hp):Heap:=PySem.W.hideAll h (trk h H)
theorem b9w(h:Heap)(H:Hp):(b3M h H).objs.size=h.objs.size:=PySem.W.hideAll_size _ _
theorem c1n{h:Heap}{H:Hp}{b:AB}{o:Obj}(e:h.get? b=ξ o)(n:H b=ζ):(b3M h H).get? b=ξ o:=
 PySem.W.hideAll_get _ e λhm=>by
  have q:(H b).isSome=true:=(List.mem_filter.mp hm).2;rw [n] at q;simp at q
theorem c34{h:Heap}{H:Hp}{b:AB}{o:Obj}(e:(b3M h H).get? b=ξ o):h.get? b=ξ o/\H b=ζ:=by
 have e':h.get? b=ξ o:=PySem.W.of_hideAll (trk h H) e;refine⟨e', ?_⟩;cases q:H b with
 |none=>rfl
 |some x=>
  have hm:b∈trk h H:=List.mem_filter.mpr ⟨List.mem_range.mpr (Ag e'),by simp [q]⟩
  have z:(b3M h H).get? b=ζ:=PySem.W.hideAll_none (trk h H) hm;rw [z] at e;cases e
structure Mod(K:AE)(mg:Str->Υ AA)(base:Heap):Prop where
 kin:K.In base
 glob:base.Ns mainGlobals mg
 blt:∃mb,base.Ns builtinsNs mb/\∀x:Str,x≠"__name__"->mb x=bootBuiltins x
 nolimit:base.NoLimit
structure Cx where
 prog:AJ
 w:AH
 K:AE
 mg:Str->Υ AA
 base:Heap
 A:AM
 N:List Str
 s₀:AC
 H₀:Hp
 env:Env
 outer:List Env
 stack:List Env
 ex:List AB
 fn:Str->Bool
 calm:Bool
 pn:List (AB×Obj)
 xe:AA->AC->Prop
def frs(l:List Env):List AB:=l.filterMap (·.frame)
abbrev Cx.fs(X:Cx):List AB:=frs X.outer
def Vis(sc:Scope)(x:Str):Prop:=sc.names.lookup x=ξ .local\/sc.names.lookup x=ξ .cell\/sc.names.lookup x=ξ .free
def Loc(sc:Scope)(x:Str):Prop:=sc.names.lookup x=ξ .local\/sc.names.lookup x=ξ .cell
def c7L(env:Env)(h:Heap)(m:Str->Υ AA)(x:Str)(u:AA):Prop:=
 (env.kindOf x=ξ .local/\m x=ξ u)\/((env.kindOf x=ξ .cell\/env.kindOf x=ξ .free)/\∃c,env.cells.lookup x=ξ c/\h.IsCell c (ξ u))
structure Cx.Ok(X:Cx):Prop where
 mod:Mod X.K X.mg X.base
 kind:X.env.scope.kind= .function
 glob:X.env.globals=mainGlobals
 blt:X.env.builtins=builtinsNs
 above:X.s₀.heap.objs.size<=X.env.locals
 inj:∀x y c,X.env.cells.lookup x=ξ c->X.env.cells.lookup y=ξ c->x=y
 has:∀x,(X.env.kindOf x=ξ .cell\/X.env.kindOf x=ξ .free)->∃c,X.env.cells.lookup x=ξ c
 cab:∀x c,X.fn x=true->X.env.cells.lookup x=ξ c->X.s₀.heap.objs.size<=c
 hd:X.calm=true->X.A.handled=ζ
 frames:X.A.frames=ξ X.stack
 stk:X.stack=X.outer\/(X.stack=X.env::X.outer/\X.env.frame=ξ X.env.locals)
 exf:∀b∈X.ex,b≠X.env.locals/\∀x c,X.env.cells.lookup x=ξ c->c≠b
 bs:∀b o,X.base.get? b=ξ o->X.s₀.heap.get? b=ξ o/\X.H₀ b=ζ
 bsz:X.base.objs.size<=X.s₀.heap.objs.size
 noex:∀b o,X.base.get? b=ξ o->b∉X.ex
 exfs:∀b∈X.ex,b∉X.fs
 funs:X.s₀.heap.FunFrames X.base X.outer
 frf:∀b∈X.fs,X.H₀ b=ζ
structure m6(X:Cx)(pins:List (AB×Obj))(σ:List (Υ V))(H:Hp)(s:AC):Prop where
 ok:X.Ok
 os:s.os=X.s₀.os
 bare:AllBare s.gens
 base:Un X.fs X.ex X.H₀ H X.s₀.heap s.heap
 loc:∃m,s.heap.Ns X.env.locals m/\∀(i:Nat) (x:Str) (v:V),X.N[i]?=ξ x->σ[i]?=ξ (ξ v)->Vis X.env.scope x->∃u,z7 v u/\c7L X.env s.heap m x u
 cell:∀x c,X.env.cells.lookup x=ξ c->∃v,s.heap.IsCell c v
 free:H X.env.locals=ζ
 freeC:∀x c,X.env.cells.lookup x=ξ c->H c=ζ
 pin:∀p∈X.pn++pins,s.heap.get? p.1=ξ p.2/\H p.1=ζ/\p.1≠X.env.locals/\p.1∉X.fs/\∀v,p.2.data≠.cell v
 hok:HOk X.prog X.w H s.heap
 len:σ.length=X.N.length
section
variable {X:Cx}{pins:List (AB×Obj)}{σ:List (Υ V)}{H H':Hp}{s:AC}{h':Heap}
theorem Cx.Ok.nofr(ok:X.Ok){b:AB}{o:Obj}(e:X.base.get? b=ξ o):b∉X.fs:=λhb=>by
 have:=(ok.funs.mem hb).1;rw [e] at this;cases this
theorem m6.bs(I:m6 X pins σ H s):∀b o,X.base.get? b=ξ o->s.heap.get? b=ξ o/\H b=ζ:=λb o e=>
 ⟨I.base.keep b o (I.ok.bs b o e).1 (I.ok.bs b o e).2 (I.ok.nofr e) (I.ok.noex b o e),I.base.free b o (I.ok.bs b o e).1 (I.ok.bs b o e).2 (I.ok.noex b o e)⟩
theorem m6.bk(I:m6 X pins σ H s):∀b o,X.base.get? b=ξ o->s.heap.get? b=ξ o:=λb o e=>(I.bs b o e).1
theorem m6.mod(I:m6 X pins σ H s):Mod X.K X.mg X.base:=I.ok.mod
theorem m6.kIn(I:m6 X pins σ H s):X.K.In s.heap:=I.ok.mod.kin.keeps I.bk
theorem m6.lt(I:m6 X pins σ H s):X.env.locals<s.heap.objs.size:=by obtain⟨_,hn,_⟩:=I.loc;exact hn.lt
theorem m6.sz(I:m6 X pins σ H s):X.s₀.heap.objs.size<=s.heap.objs.size:=Nat.le_trans I.ok.above (BG I.lt)
theorem m6.nofs(I:m6 X pins σ H s){a:AB}(h:s.heap.objs.size<=a):a∉X.fs:=λhb=>by
 obtain⟨_,o,ho,_⟩:=I.ok.funs.mem hb;exact absurd (Aw (Ag ho) (Nat.le_trans I.sz h)) (Nat.lt_irrefl _)
theorem m6.cne(I:m6 X pins σ H s):∀x c,X.env.cells.lookup x=ξ c->c≠X.env.locals:=λx c e z=>by
 obtain⟨v,o,ho,hd⟩:=I.cell x c e;obtain⟨m,⟨o',es,ep,ho',hd',_⟩,_⟩:=I.loc;rw [z,ho'] at ho;cases ho;rw [hd'] at hd;cases hd
theorem m6.funs(I:m6 X pins σ H s):s.heap.FunFrames X.base X.outer:=by
 have all:∀(l:List Env),(∀b∈frs l,b∈X.fs)->X.s₀.heap.FunFrames X.base l->s.heap.FunFrames X.base l:=by
  intro l
  induction l with
  |nil=>intro _ _;trivial
  |cons env r ih=>
   intro hs hl;obtain⟨hk,⟨L,o,hf,hn,ho,hd⟩,hr⟩:=hl;have hL:L∈X.fs:=hs L (by unfold frs;rw [List.filterMap_cons,hf];exact Ak)
   obtain⟨sl,e⟩:=I.base.slot L o ho (I.ok.frf L hL) hL λz=>I.ok.exfs L z hL;exact⟨hk,⟨L,_,hf,hn,e,hd⟩,ih (λb hb=>hs b (by unfold frs;rw [List.filterMap_cons,hf];exact Al _ hb)) hr⟩
 exact all X.outer (λ_ hb=>hb) I.ok.funs
theorem m6.stack(I:m6 X pins σ H s):s.heap.FunFrames X.base X.stack:=by
 rcases I.ok.stk with e|⟨e,hf⟩
 ·rw [e];exact I.funs
 ·rw [e];obtain⟨m,hn,_⟩:=I.loc;refine .cons (by rw [I.ok.kind];decide) hf hn ?_ I.funs
  exact Heap.get?_none_of_le (Nat.le_trans I.ok.bsz I.ok.above)
theorem m6.stkSub(I:m6 X pins σ H s):∀b∈frs X.stack,b∈X.env.locals::X.fs:=λb hb=>by
 rcases I.ok.stk with e|⟨e,hf⟩
 ·rw [e] at hb;exact Al _ hb
 ·rw [e] at hb;unfold frs at hb;rw [List.filterMap_cons,hf] at hb;exact hb
theorem m6.stkFree(I:m6 X pins σ H s):∀b∈frs X.stack,H b=ζ:=λb hb=>by
 rcases An.mp (I.stkSub b hb) with e|hb
 ·rw [e];exact I.free
 ·obtain⟨_,o,ho,_⟩:=I.ok.funs.mem hb;exact I.base.free b o ho (I.ok.frf b hb) λz=>I.ok.exfs b z hb
theorem m6.step{g':Array GenState}{t':Nat}{d':Drawn}{ch:List AB}(I:m6 X pins σ H s)
 (hch:∀b∈ch,(b∈X.ex\/X.s₀.heap.objs.size<=b)/\b≠X.env.locals/\(∀x c,X.env.cells.lookup x=ξ c->c≠b)/\∀p∈X.pn++pins,p.1≠b)
 (keep:∀b o,b≠X.env.locals->b∉X.fs->b∉ch->s.heap.get? b=ξ o->H b=ζ->h'.get? b=ξ o)
 (slot:∀b o,b≠X.env.locals->b∈X.fs->b∉ch->s.heap.get? b=ξ o->H b=ζ->∃sl,h'.get? b=ξ {o with slots:=sl}) (free:∀b o,b∉ch->s.heap.get? b=ξ o->H b=ζ->H' b=ζ)
 (there:∀b o,b∉ch->s.heap.get? b=ξ o->∃o',h'.get? b=ξ o')
 (tups:∀b xs,H b=ξ (.tup xs)->H' b=ξ (.tup xs)) (frzs:∀b o u,H b=ξ (.frz o u)->H' b=ξ (.frz o u)) (tbls:∀b ps,H b=ξ (.tbl ps)->∃more,H' b=ξ (.tbl (ps++more)))
 (ns:∀m,s.heap.Ns X.env.locals m->h'.Ns X.env.locals m) (hok:HOk X.prog X.w H' h') (hg:AllBare g'):
 m6 X pins σ H' {s with heap:=h',gens:=g',drawn:=d',toks:=t'}:=by
 have neL:∀b o,X.s₀.heap.get? b=ξ o->b≠X.env.locals:=λb o e=>As (Aw (Ag e) I.ok.above)
 have neC:∀b o,X.s₀.heap.get? b=ξ o->b∉X.ex->b∉ch:=λb o e hx hb=>by
  rcases(hch b hb).1 with z|z
  ·exact hx z
  ·exact absurd (Aw (Ag e) z) (Nat.lt_irrefl _)
 have cellK:∀x c,X.env.cells.lookup x=ξ c->∀v,s.heap.IsCell c v->h'.IsCell c v:=λx c e v ⟨o,ho,hd⟩=>by
  have nch:c∉ch:=λz=>(hch c z).2.2.1 x c e rfl
  by_cases hc:c∈X.fs
  ·obtain⟨sl,q⟩:=slot c o (I.cne x c e) hc nch ho (I.freeC x c e);exact⟨_,q,hd⟩
  ·exact⟨o,keep c o (I.cne x c e) hc nch ho (I.freeC x c e),hd⟩
 refine⟨I.ok,I.os,hg,⟨λb o e n hb hx=> ?_,λb o e n hb hx=> ?_,λb o e n hx=> ?_,λb o e hx=> ?_,λb xs e=>tups b xs (I.base.tups b xs e),λb o xs e=>frzs b o xs (I.base.frzs b o xs e),λb ps e=> ?_⟩, ?_,λx c e=> ?_, ?_,λx c e=> ?_,λp hp=> ?_,hok,I.len⟩
 ·exact keep b o (neL b o e) hb (neC b o e hx) (I.base.keep b o e n hb hx) (I.base.free b o e n hx)
 ·obtain⟨sl,e1⟩:=I.base.slot b o e n hb hx
  obtain⟨sl',e2⟩:=slot b _ (neL b o e) hb (neC b o e hx) e1 (I.base.free b o e n hx)
  exact⟨sl',e2⟩
 ·obtain⟨o',e1⟩:=I.base.there b o e hx
  exact free b o' (neC b o e hx) e1 (I.base.free b o e n hx)
 ·obtain⟨o',e1⟩:=I.base.there b o e hx
  exact there b o' (neC b o e hx) e1
 ·obtain⟨m1,e1⟩:=I.base.tbls b ps e
  obtain⟨m2,e2⟩:=tbls b _ e1
  exact⟨m1++m2,by rw [e2,Array.append_assoc]⟩
 ·obtain⟨m,hn,hl⟩:=I.loc
  refine⟨m,ns m hn,λi x v e1 e2 e3=> ?_⟩
  obtain⟨u,r,l⟩:=hl i x v e1 e2 e3
  refine⟨u,r, ?_⟩
  rcases l with l|⟨k,c,e,z⟩
  ·exact .inl l
  ·exact .inr ⟨k,c,e,cellK x c e _ z⟩
 ·obtain⟨v,z⟩:=I.cell x c e
  exact⟨v,cellK x c e v z⟩
 ·obtain⟨m,⟨o,_,_,ho,_⟩,_⟩:=I.loc
  exact free _ o (λz=>(hch _ z).2.1 rfl) ho I.free
 ·obtain⟨v,o,ho,hd⟩:=I.cell x c e
  exact free c o (λz=>(hch c z).2.2.1 x c e rfl) ho (I.freeC x c e)
 ·obtain⟨e,n,ne,nf,d⟩:=I.pin p hp
  have nch:p.1∉ch:=λz=>(hch p.1 z).2.2.2 p hp rfl
  exact⟨keep p.1 p.2 ne nf nch e n,free p.1 p.2 nch e n,ne,nf,d⟩
theorem m6.un{t':Nat}(I:m6 X pins σ H s)(u:Un X.fs [] H H' s.heap h')(hok:HOk X.prog X.w H' h'):m6 X pins σ H' {s with heap:=h',toks:=t'}:=by
 obtain⟨m,⟨o,es,ep,ho,r⟩,_⟩:=id I.loc;obtain⟨sl,hL⟩:=u.any ho I.free (by simp)
 exact I.step (g':=s.gens) (d':=s.drawn) (ch:=[]) (λ_ z=>nomatch z) (λb o _ hb _ e n=>u.keep b o e n hb (by simp)) (λb o _ hb _ e n=>u.slot b o e n hb (by simp)) (λb o _ e n=>u.free b o e n (by simp)) (λb o _ e=>u.there b o e (by simp)) u.tups u.frzs u.tbls (λm' hm=>by
  obtain⟨o',es',ep',ho',r'⟩:=hm;rw [ho] at ho';cases ho';exact⟨_,es',ep',hL,r'⟩) hok I.bare
theorem m6.call{g':Array GenState}{t':Nat}{d':Drawn}{ch:List AB}(I:m6 X pins σ H s)(u:Un (frs X.stack) ch H H' s.heap h')(hok:HOk X.prog X.w H' h')(hg:AllBare g')
 (hch:∀b∈ch,(b∈X.ex\/X.s₀.heap.objs.size<=b)/\b≠X.env.locals/\(∀x c,X.env.cells.lookup x=ξ c->c≠b)/\∀p∈X.pn++pins,p.1≠b):
 m6 X pins σ H' {s with heap:=h',gens:=g',drawn:=d',toks:=t'}:=by
 obtain⟨m,⟨o,es,ep,ho,r⟩,_⟩:=id I.loc
 obtain⟨sl,hL⟩:=u.any ho I.free λz=>(hch _ z).2.1 rfl
 exact I.step (ch:=ch) hch (λb o hL hb hc e n=>u.keep b o e n (λz=>(An.mp (I.stkSub b z)).elim hL hb) hc) (λb o _ _ hc e n=>u.any e n hc) (λb o hc e n=>u.free b o e n hc) (λb o hc e=>u.there b o e hc) u.tups u.frzs u.tbls (λm' hm=>by
  obtain⟨o',es',ep',ho',r'⟩:=hm;rw [ho] at ho';cases ho';exact⟨_,es',ep',hL,r'⟩) hok hg
theorem m6.turned{t':Nat}{it:AB}(I:m6 X pins σ H s)(k:∀b o,b≠it->s.heap.get? b=ξ o->h'.get? b=ξ o)(hn:H it=ζ)(hL:it≠X.env.locals)
 (h1:it∈X.ex\/X.s₀.heap.objs.size<=it) (h2:∀x c,X.env.cells.lookup x=ξ c->c≠it) (h3:∀p∈X.pn++pins,p.1≠it):m6 X pins σ H {s with heap:=h',toks:=t'}:=by
 have nit:∀b u,H b=ξ u->b≠it:=λb u e z=>by rw [z,hn] at e;cases e
 refine I.step (g':=s.gens) (d':=s.drawn) (ch:=[it]) (λb hb=> ?_) (λb o _ _ hc e _=>k b o (λz=>hc (by simp [z])) e) (λb o _ _ hc e _=>⟨o.slots,k b o (λz=>hc (by simp [z])) e⟩) (λ_ _ _ _ n=>n)
  (λb o hc e=>⟨o,k b o (λz=>hc (by simp [z])) e⟩) (λ_ _ e=>e) (λ_ _ _ e=>e) (λb ps e=>⟨#[],by rw [e];simp⟩) (λm hm=> ?_) (λb u e=> ?_) I.bare
 ·have e:b=it:=by simpa using hb
  subst e
  exact⟨h1,hL,h2,h3⟩
 ·obtain⟨o,es,ep,ho,r⟩:=hm
  exact⟨o,es,ep,k _ o (Ne.symm hL) ho,r⟩
 ·refine(I.hok b u e).stay (λc v hc q=>k c v ?_ q) (λ_ q=>q) λ_ _ q=>q
  rcases hc with z|z
  ·rw [z];exact nit b u e
  ·exact nit c _ z
theorem m6.tok(I:m6 X pins σ H s)(t:Nat):m6 X pins σ H {s with toks:=t}:=I.un (h':=s.heap) (t':=t) Un.refl I.hok
theorem m6.kept{t':Nat}(I:m6 X pins σ H s)(k:∀b u,s.heap.get? b=ξ u->h'.get? b=ξ u):m6 X pins σ H {s with heap:=h',toks:=t'}:=I.un (Un.kept k) (I.hok.kept k)
theorem m6.laid{a:AB}{o:HO}{t':Nat}(I:m6 X pins σ H s)(k:∀b u,s.heap.get? b=ξ u->h'.get? b=ξ u)(hp:s.heap.objs.size<=a)(new:Q1 X.prog X.w (upd H a o) h' a o):
 m6 X pins σ (upd H a o) {s with heap:=h',toks:=t'}:=I.un (Un.laid k hp (I.hok.fresh hp)) (I.hok.laid k hp new)
theorem m6.write{x e:AB}{o:HO}{t':Nat}(I:m6 X pins σ H s)(mu:Mut (H x))(he:e=x\/H e=ξ (.own x))(k:∀b u,b≠e->s.heap.get? b=ξ u->h'.get? b=ξ u)(heo:∃u,h'.get? e=ξ u)
 (new:Q1 X.prog X.w (upd H x o) h' x o):m6 X pins σ (upd H x o) {s with heap:=h',toks:=t'}:=I.un (Un.write mu he k heo) (I.hok.write mu he k heo new)
theorem m6.weak{σ':List (Υ V)}(I:m6 X pins σ H s)(hl:σ'.length=σ.length)(w:∀(i:Nat) v,σ'[i]?=ξ (ξ v)->σ[i]?=ξ (ξ v)):m6 X pins σ' H s:=
 ⟨I.ok,I.os,I.bare,I.base,let ⟨m,hn,hl'⟩:=I.loc;⟨m,hn,λi x v e1 e2 e3=>hl' i x v e1 (w i v e2) e3⟩,I.cell,I.free,I.freeC,I.pin,I.hok,hl.trans I.len⟩
theorem m6.pins_of{pins':List (AB×Obj)}(I:m6 X pins σ H s)(h:∀p∈pins',s.heap.get? p.1=ξ p.2/\H p.1=ζ/\p.1≠X.env.locals/\p.1∉X.fs/\∀v,p.2.data≠.cell v):m6 X pins' σ H s:=
 ⟨I.ok,I.os,I.bare,I.base,I.loc,I.cell,I.free,I.freeC,λp hp=>(Aq.mp hp).elim (λz=>I.pin p (BD _ z)) (h p),I.hok,I.len⟩
theorem b5F{N:List Str}(hN:N.Nodup){i j:Nat}{x:Str}(a:N[i]?=ξ x)(b:N[j]?=ξ x):i=j:=by
 obtain⟨h1,e1⟩:=Av.mp a;obtain⟨h2,e2⟩:=Av.mp b;exact(List.getElem_inj hN).mp (e1.trans e2.symm)
theorem c0e{M:Model}{A:AM}{E:AA->AC->Prop}{i:Nat}{x:Str}{v:V}{u:AA}{Q:Unit->AC->Prop}(I:m6 X pins σ H s)(hN:X.N.Nodup)(hi:X.N[i]?=ξ x)(hx:Loc X.env.scope x)(r:z7 v u)
 (h:∀s',m6 X pins (σ.set i (ξ v)) H s'->(∃a,Heap.SameBut a s.heap s'.heap/\(a=X.env.locals\/X.env.cells.lookup x=ξ a))->Q () s') (hf:X.fn x=true\/X.env.scope.names.lookup x=ξ .local:=by first|exact .inl rfl|exact .inr rfl|assumption):AI M A (storeName X.env x u) Q E s:=by
 obtain⟨m,hn,hl⟩:=id I.loc
 have hcls:(X.env.scope.kind== .class||(X.env.scope.kind== .module && X.env.locals !=X.env.globals))=false:=by rw [I.ok.kind];rfl
 have hiσ:i<σ.length:=by rw [I.len];exact(Av.mp hi).1
 have cne:=I.cne
 have tracked:∀{a:AB} {h':Heap},(∃o,s.heap.get? a=ξ o/\H a=ζ)->Heap.SameBut a s.heap h'->HOk X.prog X.w H h':=λ {a h'} ha hs b ob e=>by
  obtain⟨_,_,hfree⟩:=ha;refine(I.hok b ob e).stay (λc w' hc q=>(hs.2 c ?_).trans q) (λ_ q=>q) λ_ _ q=>q;rintro rfl;rcases hc with rfl|hc
  ·rw [hfree] at e;cases e
  ·rw [hfree] at hc;cases hc
 rcases hx with hk|hk
 ·refine wpAny_storeName_local hk hn (λh' hn' hs=> ?_) hcls
  obtain⟨oL,_,_,hoL,_⟩:=id hn
  refine h _ ⟨I.ok,I.os,I.bare,⟨λb o e n hb hx=> ?_,λb o e n hb hx=> ?_,I.base.free,λb o e hx=> ?_,I.base.tups,I.base.frzs,I.base.tbls⟩,⟨_,hn',λj y v' e1 e2 e3=> ?_⟩,λy c e=> ?_,I.free,I.freeC,λp hp=> ?_,tracked ⟨oL,hoL,I.free⟩ hs,by simpa using I.len⟩ ⟨_,hs,.inl rfl⟩
  ·exact(hs.2 b (As (Aw (Ag e) I.ok.above))).trans (I.base.keep b o e n hb hx)
  ·obtain⟨sl,e1⟩:=I.base.slot b o e n hb hx
   exact⟨sl,(hs.2 b (As (Aw (Ag e) I.ok.above))).trans e1⟩
  ·obtain⟨o',e1⟩:=I.base.there b o e hx
   exact⟨o',(hs.2 b (As (Aw (Ag e) I.ok.above))).trans e1⟩
  ·by_cases hj:j=i
   ·subst hj
    rw [hi] at e1;cases e1
    rw [BH hiσ] at e2
    cases e2
    exact⟨u,r,.inl ⟨hk,by simp⟩⟩
   ·rw [List.getElem?_set_ne (Ne.symm hj)] at e2
    obtain⟨u',r',q⟩:=hl j y v' e1 e2 e3
    refine⟨u',r', ?_⟩
    rcases q with⟨k,e⟩|⟨k,c,e,z⟩
    ·refine .inl ⟨k, ?_⟩
     have:y≠x:=λe=>hj (b5F hN e1 (e▸hi))
     simp [this,e]
    ·exact .inr ⟨k,c,e,z.sameBut hs (cne y c e)⟩
  ·obtain⟨w',z⟩:=I.cell y c e
   exact⟨w',z.sameBut hs (cne y c e)⟩
  ·obtain⟨e,n,ne,nf,d⟩:=I.pin p hp
   exact⟨(hs.2 p.1 ne).trans e,n,ne,nf,d⟩
 ·have hfn:X.fn x=true:=by
   rcases hf with z|z
   ·exact z
   ·rw [z] at hk;cases hk
  obtain⟨c,hc⟩:=I.ok.has x (.inl hk);obtain⟨w',z⟩:=I.cell x c hc;refine wpAny_storeName_cell I.ok.kind hk hc z (λh' hc' hs=> ?_);obtain⟨oc,hoc,hocd⟩:=id z;refine h {s with heap:=h'} ⟨I.ok,I.os,I.bare,⟨λb o e n hb hx=> ?_,λb o e n hb hx=> ?_,I.base.free,λb o e hx=> ?_,I.base.tups,I.base.frzs,I.base.tbls⟩,⟨m,hn.sameBut hs (Ne.symm (cne x c hc)),λj y v' e1 e2 e3=> ?_⟩,λy c' e=> ?_,I.free,I.freeC,λp hp=> ?_,tracked ⟨oc,hoc,I.freeC x c hc⟩ hs,by simpa using I.len⟩ ⟨c,hs,.inr hc⟩
  ·exact(hs.2 b (As (Aw (Ag e) (I.ok.cab x c hfn hc)))).trans (I.base.keep b o e n hb hx)
  ·obtain⟨sl,e1⟩:=I.base.slot b o e n hb hx;exact⟨sl,(hs.2 b (As (Aw (Ag e) (I.ok.cab x c hfn hc)))).trans e1⟩
  ·obtain⟨o',e1⟩:=I.base.there b o e hx;exact⟨o',(hs.2 b (As (Aw (Ag e) (I.ok.cab x c hfn hc)))).trans e1⟩
  ·by_cases hj:j=i
   ·subst hj;rw [hi] at e1;cases e1;rw [BH hiσ] at e2;cases e2;exact⟨u,r,.inr ⟨.inl hk,c,hc,hc'⟩⟩
   ·rw [List.getElem?_set_ne (Ne.symm hj)] at e2;obtain⟨u',r',q⟩:=hl j y v' e1 e2 e3;refine⟨u',r', ?_⟩;rcases q with q|⟨k,c',e,z'⟩
    ·exact .inl q
    ·refine .inr ⟨k,c',e,z'.sameBut hs ?_⟩;rintro rfl;exact hj (b5F hN e1 (I.ok.inj _ _ _ e hc▸hi))
  ·by_cases hcc:c'=c
   ·subst hcc;exact⟨_,hc'⟩
   ·obtain⟨w2,z2⟩:=I.cell y c' e;exact⟨w2,z2.sameBut hs hcc⟩
  ·obtain⟨e,n,ne,nf,d⟩:=I.pin p hp;refine⟨(hs.2 p.1 ?_).trans e,n,ne,nf,d⟩;intro q;rw [q,hoc] at e;have q':oc=p.2:=Option.some.inj e;exact d w' (by rw [<-q'];exact hocd)
theorem b1O{M:Model}{A:AM}{E:AA->AC->Prop}{i:Nat}{x:Str}{v:V}{u:AA}{Q:Unit->AC->Prop}(I:m6 X pins σ H s)(hN:X.N.Nodup)(hi:X.N[i]?=ξ x)(hx:Loc X.env.scope x)(r:z7 v u)
 (h:∀s',m6 X pins (σ.set i (ξ v)) H s'->Q () s') (hf:X.fn x=true\/X.env.scope.names.lookup x=ξ .local:=by first|exact .inl rfl|exact .inr rfl|assumption):AI M A (storeName X.env x u) Q E s:=
 c0e I hN hi hx r (λs' I' _=>h s' I') hf
theorem m6.call'{s':AC}{ch:List AB}(I:m6 X pins σ H s)(ho:s'.os=s.os)(u:Un (frs X.stack) ch H H' s.heap s'.heap)(hok:HOk X.prog X.w H' s'.heap)(hg:AllBare s'.gens)
 (hch:∀b∈ch,(b∈X.ex\/X.s₀.heap.objs.size<=b)/\b≠X.env.locals/\(∀x c,X.env.cells.lookup x=ξ c->c≠b)/\∀p∈X.pn++pins,p.1≠b):m6 X pins σ H' s':=by
 obtain⟨h',g',d',t',o'⟩:=s'
 have e:o'=s.os:=ho
 subst e
 exact I.call (g':=g') (t':=t') (d':=d') u hok hg hch
end
abbrev XK:=AA->Υ AB->Hp->Prop
abbrev St:=List (Υ V)
abbrev VK:=V->Hp->Prop
abbrev TE:=St->Hp->VK->Prop
abbrev TT:=St->Hp->(Bool->Hp->Prop)->Prop
abbrev TA:=St->Hp->(List V->Hp->Prop)->Prop
structure a2O where
 nx:St->Hp->Prop
 rt:VK
 bk:St->Hp->Prop:=λ_ _=>False
 ct:St->Hp->Prop:=λ_ _=>False
abbrev TS:=a2O->St->Hp->Prop
def EP(X:Cx)(pins:List (AB×Obj))(σ:St)(Q:VK)(u:AA)(s':AC):Prop:=∃v H',m6 X pins σ H' s'/\z7 v u/\Q v H'
def TP(X:Cx)(pins:List (AB×Obj))(σ:St)(Q:Bool->Hp->Prop)(b:Bool)(s':AC):Prop:=∃H',m6 X pins σ H' s'/\Q b H'
def AP(X:Cx)(pins:List (AB×Obj))(σ:St)(Q:List V->Hp->Prop)(us:List AA)(s':AC):Prop:=∃vs H',m6 X pins σ H' s'/\v7 vs us/\Q vs H'
def SP(X:Cx)(pins:List (AB×Obj))(D:a2O)(f:Flow)(s':AC):Prop:=
 match f with
 | .next=>∃σ' H',m6 X pins σ' H' s'/\D.nx σ' H'
 | .brk=>∃σ' H',m6 X pins σ' H' s'/\D.bk σ' H'
 | .cont=>∃σ' H',m6 X pins σ' H' s'/\D.ct σ' H'
 | .ret u=>∃v σ' H',m6 X pins σ' H' s'/\z7 v u/\D.rt v H'
def PE(X:Cx)(e:AF)(t:TE):Prop:=
 ∀pins s σ (H:Hp) (Q:VK),m6 X pins σ H s->t σ H Q->AI (model X.prog X.w) X.A (eval e X.env) (EP X pins σ Q) X.xe s
def PT(X:Cx)(e:AF)(t:TT):Prop:=
 ∀pins s σ (H:Hp) (Q:Bool->Hp->Prop),m6 X pins σ H s->t σ H Q->AI (model X.prog X.w) X.A (isTrue e X.env (eval e X.env)) (TP X pins σ Q) X.xe s
def PW(X:Cx)(e:AF)(t:TT):Prop:=
 ∀(whole:Sem AA) (pins:List (AB×Obj)) (s:AC) (σ:St) (H:Hp) (Q:Bool->Hp->Prop),m6 X pins σ H s->t σ H Q->AI (model X.prog X.w) X.A (isTrue e X.env whole) (TP X pins σ Q) X.xe s
theorem PW.pt{X:Cx}{e:AF}{t:TT}(h:PW X e t):PT X e t:=h _
def PA(X:Cx)(es:List AF)(t:TA):Prop:=
 ∀(pos:Pos) (pins:List (AB×Obj)) (s:AC) (σ:St) (H:Hp) (Q:List V->Hp->Prop),m6 X pins σ H s->t σ H Q->AI (model X.prog X.w) X.A (spliced (backTo pos (AK es X.env))) (AP X pins σ Q) X.xe s
def PS(X:Cx)(st:Stmt)(t:TS):Prop:=
 ∀pins s σ (H:Hp) (D:a2O),m6 X pins σ H s->t D σ H->AI (model X.prog X.w) X.A (exec st X.env) (SP X pins D) X.xe s
def PSs(X:Cx)(st:List Stmt)(t:TS):Prop:=
 ∀pins s σ (H:Hp) (D:a2O),m6 X pins σ H s->t D σ H->AI (model X.prog X.w) X.A (execs st X.env) (SP X pins D) X.xe s
theorem R1{α:Type}{t:Sem α}{Q Q':α->AC->Prop}{M:Model}{A:AM}{E:AA->AC->Prop}{s:AC}(h:AI M A t Q E s)(hQ:∀a s,Q a s->Q' a s):AI M A t Q' E s:=wpAny_mono h hQ λ_ _ x=>x
section
variable {X:Cx}
def a2P(i:Nat):TE:=λσ H Q=>∃v,σ[i]?=ξ (ξ v)/\Q v H
def tC(v:V):TE:=λ_ H Q=>Q v H
theorem c6h{i:Nat}{x:Str}{pos:Pos}(hN:X.N[i]?=ξ x)(hv:Vis X.env.scope x)(hd:Δ x:=by decide)(hcd:(x==("__classdict__":Str))=false:=by decide):PE X (.Name x pos) (a2P i):=by
 ext v
 obtain⟨v,e,h⟩:=h;obtain⟨m,hn,hl⟩:=I.loc;obtain⟨u,r,l⟩:=hl i x v hN e hv;have fin:EP X pins σ Q u s:=⟨v,H,I,r,h⟩;rcases l with⟨hk,hm⟩|⟨hk,c,hc,hcell⟩
 ·exact wpAny_Name (wpAny_loadName_local I.ok.kind hk hn hm fin) hd
 ·rcases hk with hk|hk
  ·exact wpAny_Name (wpAny_loadName_cell I.ok.kind hk hc hcell fin) hd
  ·exact wpAny_Name (wpAny_loadName_free I.ok.kind hk hc hcell fin hcd) hd
theorem c6b{i j pos}:PE X (.Constant (.int i) j pos) (tC (.int i)):=λ_ _ _ H _ I h=>wpAny_Constant_int ⟨.int i,H,I.tok _,⟨_,rfl⟩,h⟩
theorem c7j{b j pos}:PE X (.Constant (.bool b) j pos) (tC (.bl b)):=λ_ _ _ H _ I h=>Constant_bool ⟨.bl b,H,I,rfl,h⟩
theorem c6d{j pos}:PE X (.Constant .none j pos) (tC .non):=λ_ _ _ H _ I h=>Constant_none ⟨.non,H,I,rfl,h⟩
theorem c6g{x j pos}:PE X (.Constant (.str x) j pos) (tC (.str x)):=λ_ _ _ H _ I h=>Calls.Constant_str ⟨.str x,H,I.tok _,⟨_,rfl⟩,h⟩
def Gl(X:Cx)(x:Str):Prop:=X.env.kindOf x=ξ .globalImplicit
theorem a71{E:AA->AC->Prop}{pins:List (AB×Obj)}{s:AC}{σ:St}{H:Hp}{x:Str}{u:AA}{pos:Pos}{Q:AA->AC->Prop}(I:m6 X pins σ H s)(hg:Gl X x)(hm:X.mg x=ξ u)(h:Q u s)
 (hd:Δ x:=by decide):AI (model X.prog X.w) X.A (eval (.Name x pos) X.env) Q E s:=
 Calls.Name_function_global I.ok.kind hg (Calls.loadGlobal_global (by rw [I.ok.glob];exact I.mod.glob.keeps I.bk) hm h) hd
theorem b1c{E:AA->AC->Prop}{pins:List (AB×Obj)}{s:AC}{σ:St}{H:Hp}{x:Str}{u:AA}{pos:Pos}{Q:AA->AC->Prop}(I:m6 X pins σ H s)(hg:Gl X x)(hm:X.mg x=ζ)(hv:bootBuiltins x=ξ u)(h:Q u s)
 (hn:x≠"__name__":=by decide) (hd:Δ x:=by decide):AI (model X.prog X.w) X.A (eval (.Name x pos) X.env) Q E s:=by
 obtain⟨mb,h1,h2⟩:=I.mod.blt
 exact Calls.Name_function_global I.ok.kind hg (Calls.loadGlobal_builtin (by rw [I.ok.glob];exact I.mod.glob.keeps I.bk) hm (by rw [I.ok.blt];exact h1.keeps I.bk) ((h2 x hn).trans hv) h) hd
theorem b8w{x:Str}{v:V}{u:AA}{pos:Pos}(hg:Gl X x)(hm:X.mg x=ξ u)(r:z7 v u)(hd:Δ x:=by decide):PE X (.Name x pos) (tC v):=
 λ_ _ _ H _ I h=>a71 I hg hm ⟨v,H,I,r,h⟩ hd
theorem a10{x:Str}{v:V}{u:AA}{pos:Pos}(hg:Gl X x)(hm:X.mg x=ζ)(hv:bootBuiltins x=ξ u)(r:z7 v u)(hn:x≠"__name__":=by decide)(hd:Δ x:=by decide):PE X (.Name x pos) (tC v):=
 λ_ _ _ H _ I h=>b1c I hg hm hv ⟨v,H,I,r,h⟩ hn hd
variable {a b:AF}{ta tb:TE}{pos:Pos}
def PC(X:Cx)(op:CmpOp)(a b:AF)(t:TE):Prop:=
 ∀pins s σ (H:Hp) (Q:VK),m6 X pins σ H s->t σ H Q->
  AI (model X.prog X.w) X.A (eval a X.env) (λv s₁=>AI (model X.prog X.w) X.A (eval b X.env) (λu s₂=>AI (model X.prog X.w) X.A (compareOp op v u) (EP X pins σ Q) X.xe s₂) X.xe s₁) X.xe s
def tB(t:TE):TT:=λσ H Q=>t σ H λx H1=>∃c,x= .bl c/\Q c H1
theorem c2f{op:CmpOp}{t:TE}(h:PC X op a b t)(h1:behindInMarks op b=false:=by first|exact nobehind _ (by decide) (by decide)|rfl):PT X (.Compare a [op] [b] pos) (tB t):=by
 intro pins s σ H Q I hw;refine wpAny_isTrue_Compare1 (R1 (h pins s σ H _ I hw) λv s1 h1=>R1 h1 λu s2 h2=>R1 h2 λc s3 h0=>u8 h0 λx H1 I1 r1 q1=> ?_) h1;obtain⟨d,rfl,q⟩:=q1;cases r1;exact wpAny_truthy_bool ⟨H1,I1,q⟩
variable {tA tB':TT}{rest:List AF}
def c75(t u:TT):TT:=λσ H Q=>t σ H λc H1=>if c=true then u σ H1 Q else Q false H1
def tOr(t u:TT):TT:=λσ H Q=>t σ H λc H1=>if c=true then Q true H1 else u σ H1 Q
def c8b(t:TT):TT:=λσ H Q=>t σ H λc H1=>Q (!c) H1
theorem c4k(ha:PT X a tA):PW X (.BoolOp .And [a] pos) tA:=by
 intro wh pins s σ H Q I h;refine isTrue_and (R1 (ha pins s σ H Q I h) λc s1 e=> ?_);cases c with
 |true=>exact isTrue_and_nil e
 |false=>exact e
theorem c6s(ha:PT X a tA):PW X (.BoolOp .Or [a] pos) tA:=by
 intro wh pins s σ H Q I h;refine isTrue_or (R1 (ha pins s σ H Q I h) λc s1 e=> ?_);cases c with
 |false=>exact isTrue_or_nil e
 |true=>exact e
theorem c6r(ha:PT X a tA)(hb:PW X (.BoolOp .And (b::rest) pos) tB'):PW X (.BoolOp .And (a::b::rest) pos) (c75 tA tB'):=by
 intro wh pins s σ H Q I h;refine isTrue_and (R1 (ha pins s σ H _ I h) λc s1 ⟨H1,I1,q1⟩=> ?_);cases c with
 |true=>exact hb wh pins s1 σ H1 Q I1 q1
 |false=>exact⟨H1,I1,q1⟩
theorem c7o(ha:PT X a tA)(hb:PW X (.BoolOp .Or (b::rest) pos) tB'):PW X (.BoolOp .Or (a::b::rest) pos) (tOr tA tB'):=by
 intro wh pins s σ H Q I h;refine isTrue_or (R1 (ha pins s σ H _ I h) λc s1 ⟨H1,I1,q1⟩=> ?_);cases c with
 |true=>exact⟨H1,I1,q1⟩
 |false=>exact hb wh pins s1 σ H1 Q I1 q1
theorem c6p(ha:PT X a tA):PT X (.UnaryOp .Not a pos) (c8b tA):=by
 ext v
 exact isTrue_not (ha pins s σ H (λc H1=>Q (!c) H1) I h)
def c7u(ta tb:TE):TE:=λσ H Q=>ta σ H λx H1=>∃c,x= .bl c/\if c=true then tb σ H1 Q else Q (.bl false) H1
def c7C(ta:TE):TE:=λσ H Q=>ta σ H λx H1=>∃c,x= .bl c/\Q (.bl (!c)) H1
theorem c6f{op}{t:TE}(h:PE X a t):PE X (.BoolOp op [a] pos) t:=λpins s σ H Q I hw=>BoolOp_one (h pins s σ H Q I hw)
theorem c59(ha:PE X a ta)(hb:PE X (.BoolOp .And (b::rest) pos) tb):PE X (.BoolOp .And (a::b::rest) pos) (c7u ta tb):=by
 ext v
 refine BoolOp_and (R1 (ha pins s σ H _ I h) λv s1 h0=>u8 h0 λx H1 I1 r1 q1=> ?_);obtain⟨c,rfl,q1⟩:=q1;cases r1;refine wpAny_truthy_bool ?_;cases c with
 |true=>exact hb pins s1 σ H1 Q I1 q1
 |false=>exact⟨.bl false,H1,I1,rfl,q1⟩
theorem c6e(ha:PE X a ta):PE X (.UnaryOp .Not a pos) (c7C ta):=by
 ext v
 refine UnaryOp_ (R1 (ha pins s σ H _ I h) λv s1 h0=>u8 h0 λx H1 I1 r1 q1=> ?_);obtain⟨c,rfl,q1⟩:=q1;cases r1;exact not_of (wpAny_truthy_bool ⟨.bl (!c),H1,I1,rfl,q1⟩)
end
def SqL(K:AE)(H:Hp)(a:AB)(xs:List V):Prop:=
 Rd H a (.lst xs)\/
  ∃(o:Obj) (its:Array AA) (n:Nat),K.lookup a=ξ o/\o.cls= .type "list"/\o.dict=ζ/\o.data= .seq its n/\its.size<=AL/\v7 xs its.toList
def SqT(K:AE)(H:Hp)(a:AB)(xs:List V):Prop:=
 Rd H a (.tup xs)\/
  ∃(o:Obj) (its:Array AA) (n:Nat),K.lookup a=ξ o/\o.cls= .type "tuple"/\o.data= .seq its n/\its.size<=AL/\v7 xs its.toList
def c7O:AA->Υ V
 | .none=>ξ .non
 | .bool b=>ξ (.bl b)
 | .int i _=>ξ (.int i)
 | .str x _=>ξ (.str x)
 | .bytes b _=>ξ (.byt b)
 | .float b _=>ξ (.flt b)
 | .ref a=>ξ (.ref a)
 | .type n=>ξ (.ty n)
 |_=>ζ
theorem z7.abs{x:V}{u:AA}(r:z7 x u):c7O u=ξ x:=by
 cases x with
 |non=>cases r;rfl
 |bl _=>cases r;rfl
 |int _=>obtain⟨t,rfl⟩:=r;rfl
 |str _=>obtain⟨t,rfl⟩:=r;rfl
 |byt _=>obtain⟨t,rfl⟩:=r;rfl
 |flt _=>obtain⟨t,rfl⟩:=r;rfl
 |ref _=>cases r;rfl
 |ty _=>cases r;rfl
theorem z7.inj{x y:V}{u:AA}(r:z7 x u)(q:z7 y u):x=y:=Option.some.inj (r.abs.symm.trans q.abs)
theorem v7.inj:∀{xs ys:List V} {us:List AA},v7 xs us->v7 ys us->xs=ys
 |_,_,_,.nil,.nil=>rfl
 |_,_,_,.cons r t,.cons r' t'=>by rw [r.inj r',v7.inj t t']
section
variable {X:Cx}{pins:List (AB×Obj)}{σ:St}{H:Hp}{s:AC}{a:AB}{xs ys:List V}
theorem SqL.of{K:AE}(h:H a=ξ (.lst xs)):SqL K H a xs:= .inl (.inl h)
theorem m6.list(I:m6 X pins σ H s)(h:SqL X.K H a xs):∃its:List AA,v7 xs its/\PlainL s.heap a its.toArray/\xs.length<=AL:=by
 rcases h with h|⟨o,its,n,hk,hc,hd,hs,hz,r⟩
 ·obtain⟨z,its,n,r,e⟩:=h.ok I.hok;exact⟨its,r,⟨_,n,e,rfl,rfl,rfl⟩,z⟩
 ·refine⟨its.toList,r,⟨o,n,I.kIn a o hk,hc,hd,by simpa using hs⟩, ?_⟩
  have e:=r.length;simp only [Array.length_toList] at e
  lia
theorem m6.tuple(I:m6 X pins σ H s)(h:SqT X.K H a xs):∃its:List AA,v7 xs its/\IsTup s.heap a its.toArray/\xs.length<=AL:=by
 rcases h with h|⟨o,its,n,hk,hc,hs,hz,r⟩
 ·obtain⟨z,its,r,p⟩:=h.ok I.hok;exact⟨its,r,p,z⟩
 ·refine⟨its.toList,r,⟨o,I.kIn a o hk,hc,n,by simpa using hs⟩, ?_⟩
  have e:=r.length;simp only [Array.length_toList] at e
  lia
theorem m6.list_inj(I:m6 X pins σ H s)(h:SqL X.K H a xs)(h':SqL X.K H a ys):xs=ys:=by
 obtain⟨its,r,⟨o,n,e,_,_,d⟩,_⟩:=I.list h;obtain⟨its',r',⟨o',n',e',_,_,d'⟩,_⟩:=I.list h';rw [e] at e';cases e';rw [d] at d';injection d' with d1 _
 have:its=its':=by simpa using congrArg Array.toList d1
 subst this;exact r.inj r'
theorem m6.tuple_inj(I:m6 X pins σ H s)(h:SqT X.K H a xs)(h':SqT X.K H a ys):xs=ys:=by
 obtain⟨its,r,⟨o,e,_,n,d⟩,_⟩:=I.tuple h;obtain⟨its',r',⟨o',e',_,n',d'⟩,_⟩:=I.tuple h';rw [e] at e';cases e';rw [d] at d';injection d' with d1 _
 have:its=its':=by simpa using congrArg Array.toList d1
 subst this;exact r.inj r'
end
abbrev Cx.wish(X:Cx)(E:AA->AC->Prop):Cx:={X with xe:=E}
abbrev Cx.nox(X:Cx):Cx:=X.wish λ_ _=>False
theorem Cx.Ok.wish{X:Cx}(ok:X.Ok)(E:AA->AC->Prop):(X.wish E).Ok:=
 ⟨ok.mod,ok.kind,ok.glob,ok.blt,ok.above,ok.inj,ok.has,ok.cab,ok.hd,ok.frames,ok.stk,ok.exf,ok.bs,ok.bsz,ok.noex,ok.exfs,ok.funs,ok.frf⟩
theorem Cx.Ok.unwish{X:Cx}{E:AA->AC->Prop}(ok:(X.wish E).Ok):X.Ok:=
 ⟨ok.mod,ok.kind,ok.glob,ok.blt,ok.above,ok.inj,ok.has,ok.cab,ok.hd,ok.frames,ok.stk,ok.exf,ok.bs,ok.bsz,ok.noex,ok.exfs,ok.funs,ok.frf⟩
section
variable {X:Cx}{pins:List (AB×Obj)}{σ:St}{H:Hp}{s:AC}{E:AA->AC->Prop}
theorem m6.wish(I:m6 X pins σ H s)(E:AA->AC->Prop):m6 (X.wish E) pins σ H s:=⟨I.ok.wish E,I.os,I.bare,I.base,I.loc,I.cell,I.free,I.freeC,I.pin,I.hok,I.len⟩
theorem m6.unwish(I:m6 (X.wish E) pins σ H s):m6 X pins σ H s:=⟨I.ok.unwish,I.os,I.bare,I.base,I.loc,I.cell,I.free,I.freeC,I.pin,I.hok,I.len⟩
theorem SP.unwish{D:a2O}{f:Flow}{s':AC}(h:SP (X.wish E) pins D f s'):SP X pins D f s':=by
 cases f with
 |next=>obtain⟨σ',H',I,q⟩:=h;exact⟨σ',H',I.unwish,q⟩
 |brk=>obtain⟨σ',H',I,q⟩:=h;exact⟨σ',H',I.unwish,q⟩
 |cont=>obtain⟨σ',H',I,q⟩:=h;exact⟨σ',H',I.unwish,q⟩
 |ret u=>obtain⟨v,σ',H',I,r,q⟩:=h;exact⟨v,σ',H',I.unwish,r,q⟩
theorem PSs.nox{st:List Stmt}{t:TS}(h:PSs X.nox st t):PSs X st t:=λpins s σ H D I hw=>
 wpAny_mono (h pins s σ H D (I.wish _) hw) (λ_ _ q=>q.unwish) λ_ _ z=>False.elim z
end
section
variable {X:Cx}{st:Stmt}{rest:List Stmt}{t u:TS}{e:AF}{te:TE}{pos:Pos}
def c7B:TS:=λD σ H=>D.nx σ H
def c8d(t u:TS):TS:=λD σ H=>t {D with nx:=u D} σ H
theorem b4j:PSs X [] c7B:=λ_ _ σ H _ I h=>wpAny_execs_nil ⟨σ,H,I,h⟩
theorem a35(h1:PS X st t)(h2:PSs X rest u):PSs X (st::rest) (c8d t u):=by
 intro pins s σ H D I h;refine wpAny_execs_cons (R1 (h1 pins s σ H {D with nx:=u D} I h) λf s1 q=> ?_)
 cases f with
 |next=>
  obtain⟨σ',H',I',q⟩:=q;exact h2 pins s1 σ' H' D I' q
 |ret v=>exact q
 |brk=>exact q
 |cont=>exact q
theorem a6u(h1:PS X st t):PSs X [st] t:=by
 intro pins s σ H D I h;refine wpAny_execs_cons (R1 (h1 pins s σ H D I h) λf s1 q=> ?_);cases f with
 |next=>exact wpAny_execs_nil q
 |ret v=>exact q
 |brk=>exact q
 |cont=>exact q
theorem m6.quiet{pins:List (AB×Obj)}{σ:St}{H:Hp}{s:AC}(I:m6 X pins σ H s):interactive X.env=false:=by simp [interactive,I.ok.kind]
def c7y(te:TE):TS:=λD σ H=>te σ H λ_ H1=>D.nx σ H1
theorem a8m(he:PE X e te)(hs:swapsWith e ζ pos.line X.env=pure false:=by rfl):PS X (.Expr e pos) (c7y te):=by
 intro pins s σ H D I h;exact wpAny_Expr_any (R1 (he pins s σ H _ I h) λv s1 h0=>u8 h0 λx H1 I1 r1 q1=>⟨σ,H1,I1,q1⟩) I.quiet hs
def c8c(te:TE):TS:=λD σ H=>te σ H D.rt
theorem b7p(he:PE X e te):PS X (.Return (ξ e) pos) (c8c te):=by
 intro pins s σ H D I h;exact wpAny_Return_some (R1 (he pins s σ H _ I h) λv s1 h0=>u8 h0 λx H1 I1 r1 q1=>⟨x,σ,H1,I1,r1,q1⟩)
def c79(c:TT)(t u:TS):TS:=λD σ H=>c σ H λb H1=>if b=true then t D σ H1 else u D σ H1
theorem b8y{c:AF}{a b:List Stmt}{tc:TT}(hc:PT X c tc)(ha:PSs X a t)(hb:PSs X b u):PS X (.If c a b pos) (c79 tc t u):=by
 intro pins s σ H D I h;refine wpAny_If (R1 (hc pins s σ H _ I h) λd s1 ⟨H1,I1,q1⟩=> ?_);cases d with
 |true=>exact ha pins s1 σ H1 D I1 q1
 |false=>exact hb pins s1 σ H1 D I1 q1
end
abbrev TG:=V->St->Hp->(St->Hp->Prop)->Prop
abbrev TGs:=List V->St->Hp->(St->Hp->Prop)->Prop
def PG(X:Cx)(target:AF)(t:TG):Prop:=
 ∀pins s σ (H:Hp) (v:V) (u:AA) (Q:St->Hp->Prop),m6 X pins σ H s->z7 v u->t v σ H Q->
  AI (model X.prog X.w) X.A (assign target X.env u) (λ_ s'=>∃σ' H',m6 X pins σ' H' s'/\Q σ' H') X.xe s
def PGs(X:Cx)(ts:List AF)(t:TGs):Prop:=
 ∀pins s σ (H:Hp) (vs:List V) (us:List AA) (Q:St->Hp->Prop),m6 X pins σ H s->v7 vs us->t vs σ H Q->
  AI (model X.prog X.w) X.A (assignInOrder ((assignEach ts X.env).map (·.2)) us) (λ_ s'=>∃σ' H',m6 X pins σ' H' s'/\Q σ' H') X.xe s
abbrev c49:=V->V->V->Hp->(Hp->Prop)->Prop
def c6N(X:Cx)(t:c49):Prop:=
 ∀pins s σ (H:Hp) (o i v:V) (ov iv u:AA) (Q:Hp->Prop),m6 X pins σ H s->z7 o ov->z7 i iv->z7 v u->t o i v H Q->
  AI (model X.prog X.w) X.A (setItem ov iv u) (λ_ s'=>∃H',m6 X pins σ H' s'/\Q H') X.xe s
abbrev TIp:=V->V->Hp->VK->Prop
def PIp(X:Cx)(op:Operator)(t:TIp):Prop:=
 ∀pins s σ (H:Hp) (x y:V) (v u:AA) (Q:VK),m6 X pins σ H s->z7 x v->z7 y u->t x y H Q->
  AI (model X.prog X.w) X.A (inplaceOp op v u) (EP X pins σ Q) X.xe s
section
variable {X:Cx}{pos:Pos}
def b2O(i:Nat):TG:=λv σ H Q=>Q (σ.set i (ξ v)) H
theorem o8{i:Nat}{x:Str}(hN:X.N.Nodup)(hi:X.N[i]?=ξ x)(hx:Loc X.env.scope x)(hf:X.fn x=true\/X.env.scope.names.lookup x=ξ .local:=by first|exact .inl rfl|exact .inr rfl|assumption):PG X (.Name x pos) (b2O i):=by
 intro pins s σ H v u Q I r h;exact wpAny_assign_Name (b1O I hN hi hx r (λs' I'=>⟨_,H,I',h⟩) hf)
def c62:TGs:=λvs σ H Q=>vs=[]/\Q σ H
def c4W(t:TG)(u:TGs):TGs:=λvs σ H Q=>∃v r,vs=v::r/\t v σ H λσ' H'=>u r σ' H' Q
theorem b8x:PGs X [] c62:=by
 intro pins s σ H vs us Q I r h;obtain⟨e,h⟩:=h;subst e;cases r;exact assignInOrder_nil ⟨σ,H,I,h⟩
theorem a8k{e:AF}{es:List AF}{t:TG}{u:TGs}(h1:PG X e t)(h2:PGs X es u)
 (hs:(assignEach (e::es) X.env).map (·.2)=assign e X.env::(assignEach es X.env).map (·.2):=by rfl):PGs X (e::es) (c4W t u):=by
 intro pins s σ H vs us Q I r h
 obtain⟨v,vr,e1,h⟩:=h
 subst e1
 cases r with
 |cons r rr=>
  rw [hs]
  refine assignInOrder_cons (R1 (h1 pins s σ H _ _ _ I r h) λ_ s1 ⟨σ1,H1,I1,q1⟩=> ?_)
  exact h2 pins s1 σ1 H1 _ _ Q I1 rr q1
def c7Q(K:AE)(n:Nat)(t:TGs):TG:=λv σ H Q=>∃a xs,v= .ref a/\SqT K H a xs/\xs.length=n/\t xs σ H Q
theorem c6j{es:List AF}{k:Nat}{t:TGs}{n:Nat}(hc:X.calm=true)(h:PGs X es t)
 (hn:(assignEach es X.env).length=n:=by rfl) (hst:(assignEach es X.env).findIdx? (·.1)=ζ:=by rfl):PG X (.Tuple es k pos) (c7Q X.K n t):=by
 intro pins s σ H v u Q I r hw
 obtain⟨a,xs,e1,hq,hl,hw⟩:=hw
 subst e1
 cases r
 obtain⟨its,rv,ht,hz⟩:=I.tuple hq
 refine assign_Tuple_tuple (I.ok.hd hc) ht (by simp [hn,<-hl,rv.length]) hst λh' hx=> ?_
 have I1:m6 X pins σ H {s with heap:=h'}:=I.kept (t':=s.toks) λb o e=>hx b o (As (Ag e)) e
 exact h pins _ σ H xs _ Q I1 (by simpa using rv) hw
def c7P(to ti:TE)(t:c49):TG:=λv σ H Q=>to σ H λo H1=>ti σ H1 λi H2=>t o i v H2 λH3=>Q σ H3
theorem c6i{o i:AF}{to ti:TE}{t:c49}(ho:PE X o to)(hi:PE X i ti)(hs:c6N X t)
 (ha:∀v,assign (.Subscript o i pos) X.env v=(do
  let ov<-holding [v] (eval o X.env)
  let iv<-holding [v,ov] (eval i X.env)
  standAt pos
  holding [v,ov,iv] (setItem ov iv v)
  release [v,ov,iv] []):=by intro _;rfl):PG X (.Subscript o i pos) (c7P to ti t):=by
 intro pins s σ H v u Q I r h
 rw [ha]
 refine AO (wpAny_holding (R1 (ho pins s σ H _ I h) λov s1 h0=>u8 h0 λx H1 I1 r1 q1=> ?_))
 refine AO (wpAny_holding (R1 (hi pins s1 σ H1 _ I1 q1) λiv s2 h0=>u8 h0 λy H2 I2 r2 q2=> ?_))
 refine AO (wpAny_standAt (AO (wpAny_holding (R1 (hs pins s2 σ H2 x y v ov iv u _ I2 r1 r2 r q2) λ_ s3 ⟨H3,I3,q3⟩=> ?_))))
 exact wpAny_release ⟨σ,H3,I3,q3⟩
def c7v(te:TE)(g:TG):TS:=λD σ H=>te σ H λx H1=>g x σ H1 D.nx
theorem c19{tg e:AF}{te:TE}{g:TG}(he:PE X e te)(hg:PG X tg g)(hs:swapsWithSole [tg] e pos.line X.env=pure false:=by rfl)(hw:swappedStores [tg] e X.env=pure ζ:=by rfl)
 (h1:(assignEach [tg] X.env).map (·.2)=[assign tg X.env]:=by rfl):PS X (.Assign [tg] e pos) (c7v te g):=by
 intro pins s σ H D I h
 refine wpAny_Assign_stores (R1 (he pins s σ H _ I h) λv s1 h0=>u8 h0 λx H1 I1 r1 q1=> ?_) hs hw
 rw [h1]
 exact R1 (hg pins s1 σ H1 x v _ I1 r1 q1) λ_ s2 q=>q
theorem b4i{i:Nat}{x:Str}{e:AF}{te:TE}{pos':Pos}(hN:X.N.Nodup)(hi:X.N[i]?=ξ x)(hx:Loc X.env.scope x)(he:PE X e te)(hs:swapsWith e (ξ (.Name x pos')) pos.line X.env=pure false:=by rfl)(hf:X.fn x=true\/X.env.scope.names.lookup x=ξ .local:=by first|exact .inl rfl|exact .inr rfl|assumption):
 PS X (.Assign [.Name x pos'] e pos) (c7v te (b2O i)):=by
 intro pins s σ H D I h
 refine wpAny_Assign_Name (R1 (he pins s σ H _ I h) λv s1 h0=>u8 h0 λy H1 I1 r1 q1=> ?_) hs
 exact b1O I1 hN hi hx r1 (λs2 I2=>⟨_,H1,I2,q1⟩) hf
def c76(i:Nat)(te:TE)(ti:TIp):TS:=λD σ H=>∃x,σ[i]?=ξ (ξ x)/\te σ H λy H1=>ti x y H1 λz H2=>D.nx (σ.set i (ξ z)) H2
theorem c6m{i:Nat}{x:Str}{e:AF}{te:TE}{op:Operator}{ti:TIp}{pos':Pos}(hN:X.N.Nodup)(hi:X.N[i]?=ξ x)(hx:Loc X.env.scope x)(he:PE X e te)(ho:PIp X op ti)(hf:X.fn x=true\/X.env.scope.names.lookup x=ξ .local:=by first|exact .inl rfl|exact .inr rfl|assumption):
 PS X (.AugAssign (.Name x pos') op e pos) (c76 i te ti):=by
 intro pins s σ H D I h
 obtain⟨v,e1,h⟩:=h
 obtain⟨m,hn,hl⟩:=I.loc
 have vis:Vis X.env.scope x:=by rcases hx with k|k;exact .inl k;exact .inr (.inl k)
 obtain⟨u,r,l⟩:=hl i x v hi e1 vis
 refine wpAny_AugAssign_Name ?_
 have go:AI (model X.prog X.w) X.A (eval e X.env) (λw s₂=>AI (model X.prog X.w) X.A (inplaceOp op u w) (λr s₃=>AI (model X.prog X.w) X.A (storeName X.env x r) (λ_=>SP X pins D .next) X.xe s₃) X.xe s₂) X.xe s:=by
  refine R1 (he pins s σ H _ I h) λw s1 h0=>u8 h0 λy H1 I1 r1 q1=> ?_;refine R1 (ho pins s1 σ H1 v y u w _ I1 r r1 q1) λz s2 h0=>u8 h0 λzv H2 I2 r2 q2=> ?_;exact b1O I2 hN hi hx r2 (λs3 I3=>⟨_,H2,I3,q2⟩) hf
 rcases l with⟨hk,hm⟩|⟨hk,c,hc,hcell⟩
 ·exact wpAny_loadName_local I.ok.kind hk hn hm go
 ·rcases hk with hk|hk
  ·exact wpAny_loadName_cell I.ok.kind hk hc hcell go
  ·rcases hx with k|k
   ·have:X.env.scope.names.lookup x=ξ .free:=hk
    rw [k] at this;cases this
   ·have:X.env.scope.names.lookup x=ξ .free:=hk
    rw [k] at this;cases this
def c6H(c:TT)(tb:TS):TS:=λD σ H=>∃W:Nat->St->Hp->Prop,(∃m,W m σ H)/\∀m σ H,W m σ H->
 c σ H λb H1=>if b=true then ∃N:St->Hp->Prop,(∀σ' H',N σ' H'->∃m',m'<m/\W m' σ' H')/\tb {D with nx:=N,ct:=N,bk:=D.nx} σ H1 else D.nx σ H1
theorem c2b{c:AF}{body:List Stmt}{tc:TT}{tb:TS}(hp:PassesOwn (model X.prog X.w) X.A X.env X.xe)(hc:PT X c tc)(hb:PSs X body tb):PS X (.While c body [] pos) (c6H tc tb):=by
 intro pins s σ H D I h;obtain⟨W,⟨m0,w0⟩,turn⟩:=h;refine wpAny_While (codeAny_whileLoop (λn s'=>∃σ' H',m6 X pins σ' H' s'/\W n σ' H') ?_ m0 ⟨σ,H,I,w0⟩);rintro n s1 ⟨σ1,H1,I1,w1⟩;refine wpAny_passesOwn hp (R1 (hc pins s1 σ1 H1 _ I1 (turn n σ1 H1 w1)) λb s2 ⟨H2,I2,q2⟩=> ?_);cases b with
 |true=>
  obtain⟨N,hN,q2⟩:=q2;rw [if_pos rfl];refine wpAny_passesOwn hp (R1 (hb pins s2 σ1 H2 _ I2 q2) λf s3 q3=> ?_);cases f with
  |next=>
   obtain⟨σ3,H3,I3,n3⟩:=q3;obtain⟨m',hm,w3⟩:=hN σ3 H3 n3;exact⟨m',hm,σ3,H3,I3,w3⟩
  |cont=>
   obtain⟨σ3,H3,I3,n3⟩:=q3;obtain⟨m',hm,w3⟩:=hN σ3 H3 n3;exact⟨m',hm,σ3,H3,I3,w3⟩
  |brk=>exact q3
  |ret v=>exact q3
 |false=>
  rw [if_neg BB];exact wpAny_execs_nil ⟨σ1,H2,I2,q2⟩
end
structure It where
 go:Nat->Hp->Prop
 yld:Nat->Hp->V->Hp->Prop
 stop:Nat->Hp->Prop
def b10(X:Cx)(pins:List (AB×Obj))(H:Hp)(b:AB):Prop:=
 H b=ζ/\b≠X.env.locals/\b∉X.fs/\(b∈X.ex\/X.s₀.heap.objs.size<=b)/\(∀x c,X.env.cells.lookup x=ξ c->c≠b)/\∀p∈X.pn++pins,p.1≠b
theorem m6.fpOk{X:Cx}{pins:List (AB×Obj)}{σ:St}{H H':Hp}{s:AC}{b:AB}(I:m6 X pins σ H s)(hb:s.heap.objs.size<=b)(hn:H' b=ζ):b10 X pins H' b:=by
 refine⟨hn,Nat.ne_of_gt (Aw I.lt hb),I.nofs hb,.inr (Nat.le_trans I.sz hb),λx c e z=> ?_,λp hp z=> ?_⟩
 ·obtain⟨v,q⟩:=I.cell x c e;exact absurd (Aw q.lt (by rw [z];exact hb)) (Nat.lt_irrefl _)
 ·exact absurd (Aw (Ag (I.pin p hp).1) (by rw [z];exact hb)) (Nat.lt_irrefl _)
structure b6t(P:AJ)(w:AH)(K:AE)(tg:AF)(J:It)(fp:List AB)(it:AB)(tn:Nat->Heap->Prop):Prop where
 mem:it∈fp
 obj:∀i h,tn i h->∀b∈fp,∃o,h.get? b=ξ o/\∀v,o.data≠.cell v
 keep:∀i h h',tn i h->(∀b∈fp,∀o,h.get? b=ξ o->h'.get? b=ξ o)->tn i h'
 item:∀(X:Cx),X.prog=P->X.w=w->X.K=K->X.calm=true->∀(i:Nat) (pins:List (AB×Obj)) (s:AC) (σ:St) (H:Hp) (E:AA->AC->Prop),m6 X pins σ H s->(∀b∈fp,b10 X pins H b)->tn i s.heap->J.go i H->
  AI (model P w) X.A (pyNext (.ref it)) (λr s1=>∃u,r=ξ u/\
   AI (model P w) X.A (letOwnedTupleGo tg (.ref it) u) (λ_ s2=>∃x H',m6 X pins σ H' s2/\z7 x u/\J.yld i H x H'/\tn (i+1) s2.heap/\∀b∈fp,H' b=ζ) E s1) E s
 done:∀(X:Cx),X.prog=P->X.w=w->X.K=K->X.calm=true->∀(i:Nat) (pins:List (AB×Obj)) (s:AC) (σ:St) (H:Hp) (E:AA->AC->Prop),m6 X pins σ H s->(∀b∈fp,b10 X pins H b)->tn i s.heap->J.stop i H->
   AI (model P w) X.A (pyNext (.ref it)) (λr s1=>r=ζ/\m6 X pins σ H s1) E s
 self:∀(A:AM) (i:Nat) (s:AC) (Q:AA->AC->Prop) (E:AA->AC->Prop),tn i s.heap->Q (.ref it) s->AI (model P w) A (pyIter (.ref it)) Q E s
abbrev TI:=St->Hp->(It->Hp->Prop)->Prop
def PIE(X:Cx)(pins:List (AB×Obj))(σ:St)(tg:AF)(R:It->Hp->Prop)(itv:AA)(s2:AC):Prop:=
 ∃(it:AB) (fp:List AB) (tn:Nat->Heap->Prop) (J:It) (H':Hp),itv= .ref it/\m6 X pins σ H' s2/\b6t X.prog X.w X.K tg J fp it tn/\tn 0 s2.heap/\(∀b∈fp,b10 X pins H' b)/\R J H'
def PI(X:Cx)(tg iter:AF)(wi:TI):Prop:=
 ∀pins s σ (H:Hp) (R:It->Hp->Prop),m6 X pins σ H s->wi σ H R->
  AI (model X.prog X.w) X.A (eval iter X.env) (λv s1=>AI (model X.prog X.w) X.A (pyIter v) (PIE X pins σ tg R) X.xe s1) X.xe s
theorem b8d{M:Model}{A:AM}{E:AA->AC->Prop}{s:AC}{tg:AF}{it:AB}{u:AA}{o:Obj}{n:String}{vs:Array AA}{Q:Unit->AC->Prop}(ho:s.heap.get? it=ξ o)(hc:o.cls= .type n)(hd:o.data= .fields vs)
 (hn:["enumerate","zip","dict_itemiterator","dict_reverseitemiterator","odict_iterator","itertools.zip_longest","itertools.pairwise"].contains n=false) (hQ:Q () s):AI M A (letOwnedTupleGo tg (.ref it) u) Q E s:=by
 unfold letOwnedTupleGo
 cases tg<;>first
  |exact Ae hQ
  |(cases u<;>first
   |exact Ae hQ
   |(refine AO (wpAny_load ho ?_)
     rw [hc,hd]
     show AI M A (if(["enumerate","zip","dict_itemiterator","dict_reverseitemiterator","odict_iterator","itertools.zip_longest","itertools.pairwise"].contains n && vs[0]?==ξ (rawInt _))=true then _ else _) Q E s
     rw [if_neg (by intro h;rw [hn,Bool.false_and] at h;cases h)]
     exact Ae hQ))
def Itl(K:AE)(a:AB):It:=
 ⟨λi H=>∃xs x,SqL K H a xs/\xs[i]?=ξ x,λi H x H'=>H'=H/\∀xs,SqL K H a xs->xs[i]?=ξ x,λi H=>∃xs,SqL K H a xs/\xs.length<=i⟩
def Itt(K:AE)(a:AB):It:=
 ⟨λi H=>∃xs x,SqT K H a xs/\xs[i]?=ξ x,λi H x H'=>H'=H/\∀xs,SqT K H a xs->xs[i]?=ξ x,λi H=>∃xs,SqT K H a xs/\xs.length<=i⟩
def Itr(lo:Int)(n:Nat):It:=⟨λi _=>i<n,λi H x H'=>H'=H/\x= .int (lo+i),λi _=>n<=i⟩
theorem c0f{P:AJ}{w:AH}{K:AE}{tg:AF}(a it:AB):b6t P w K tg (Itl K a) [it] it (λi h=>h.IsListIter it a i) where
 mem:=by simp
 obj:=λi h st b hb=>by
  have e:b=it:=by simpa using hb
  subst e;obtain⟨o,e,c,d⟩:=st;exact⟨o,e,λv z=>by rw [d] at z;cases z⟩
 keep:=λi h h' st k=>st.at λo e=>k it (by simp) o e
 item:=by
  ext h
  obtain⟨xs,x,hq,hx⟩:=hg;obtain⟨its,rv,p,hz⟩:=I.list hq;obtain⟨u,hu,ru⟩:=rv.get hx
  ext o
  refine wpAny_pyNext_list_item st p.isList (x:=u) (by simpa using hu) λh' st' sb=> ?_
  have I1:m6 X pins σ H {s with heap:=h'}:=I.turned (t':=s.toks) (λb o hb e=>(sb.2 b hb).trans e) f0 f1 f3 f4 f5
  obtain⟨o,e,c,d⟩:=id st';exact⟨u,rfl,b8d (s:={s with heap:=h'}) e c d (by decide) ⟨x,H,I1,ru,⟨rfl,λys hy=>by rw [I.list_inj hy hq];exact hx⟩,st',λb hb=>(hf b hb).1⟩⟩
 done:=by
   ext h
   obtain⟨xs,hq,hx⟩:=hg;obtain⟨its,rv,p,hz⟩:=I.list hq
   ext o
   have hl:=rv.length;exact wpAny_pyNext_list_end (I.ok.hd hc) st p.isList (by simp;lia) λh' eb=>⟨rfl,I.turned (t':=s.toks) (λb o hb e=>eb b o hb e) f0 f1 f3 f4 f5⟩
 self:=λ_ _ _ _ _ st h=>wpAny_pyIter_listiter st h
theorem b1W{P:AJ}{w:AH}{K:AE}{tg:AF}(a it:AB):b6t P w K tg (Itt K a) [it] it (λi h=>h.IsTupleIter it a i) where
 mem:=by simp
 obj:=λi h st b hb=>by
  have e:b=it:=by simpa using hb
  subst e;obtain⟨o,e,c,d⟩:=st;exact⟨o,e,λv z=>by rw [d] at z;cases z⟩
 keep:=λi h h' st k=>st.at λo e=>k it (by simp) o e
 item:=by
  ext h
  obtain⟨xs,x,hq,hx⟩:=hg;obtain⟨its,rv,p,hz⟩:=I.tuple hq;obtain⟨u,hu,ru⟩:=rv.get hx
  ext o
  refine wpAny_pyNext_tuple_item st (show s.heap.IsTuple a its.toArray from p) (x:=u) (by simpa using hu) λh' st' sb=> ?_
  have I1:m6 X pins σ H {s with heap:=h'}:=I.turned (t':=s.toks) (λb o hb e=>(sb.2 b hb).trans e) f0 f1 f3 f4 f5
  obtain⟨o,e,c,d⟩:=id st';exact⟨u,rfl,b8d (s:={s with heap:=h'}) e c d (by decide) ⟨x,H,I1,ru,⟨rfl,λys hy=>by rw [I.tuple_inj hy hq];exact hx⟩,st',λb hb=>(hf b hb).1⟩⟩
 done:=by
   ext h
   obtain⟨xs,hq,hx⟩:=hg;obtain⟨its,rv,p,hz⟩:=I.tuple hq
   ext o
   have hl:=rv.length;exact wpAny_pyNext_tuple_end (I.ok.hd hc) st (show s.heap.IsTuple a its.toArray from p) (by simp;lia) λh' eb=>⟨rfl,I.turned (t':=s.toks) (λb o hb e=>eb b o hb e) f0 f1 f3 f4 f5⟩
 self:=λ_ _ _ _ _ st h=>wpAny_pyIter_tupleiter st h
theorem b7A{P:AJ}{w:AH}{K:AE}{tg:AF}(it:AB)(lo:Int)(n:Nat):b6t P w K tg (Itr lo n) [it] it (λi h=>IsRangeIter h it (lo+(i:Nat)*1) ((n:Int) - (i:Nat)) 1) where
 mem:=by simp
 obj:=λi h st b hb=>by
  have e:b=it:=by simpa using hb
  subst e;exact⟨_,st,λv z=>by
   have z':Data.fields _=Data.cell v:=z;cases z'⟩
 keep:=λi h h' st k=>k it (by simp) _ st
 item:=by
  ext h
  ext o
  have W:=Walks.range (prog:=X.prog) (w:=X.w) (I.ok.hd hc) it lo 1 n;refine W.item i s _ _ hg st λv h' tk hv st' kk=> ?_;obtain⟨t,rfl⟩:=hv;have I1:m6 X pins σ H {s with heap:=h',toks:=tk}:=I.turned (λb o hb e=>kk b o (by simpa using hb) e) f0 f1 f3 f4 f5
  refine⟨_,rfl,b8d (s:={s with heap:=h',toks:=tk}) (n:="range_iterator") st' rfl rfl (by decide) ⟨.int (lo+i),H,I1,⟨t, ?_⟩,⟨rfl,rfl⟩,st',λb hb=>(hf b hb).1⟩⟩
  rw [Int.mul_one]
 done:=by
   ext h
   ext o
   exact wpAny_pyNext_range_end (I.ok.hd hc) st (by have:n<=i:=hg;lia) λh' eb=>⟨rfl,I.turned (t':=s.toks) (λb o hb e=>eb b o hb e) f0 f1 f3 f4 f5⟩
 self:=λ_ _ _ _ _ st h=>wpAny_pyIter_rangeiter st h
section
variable {X:Cx}{tg:AF}
theorem b50{pins:List (AB×Obj)}{σ:St}{H:Hp}{s:AC}{R:It->Hp->Prop}{E:AA->AC->Prop}{lo hi:Int}{t u v:Tok}{tk:Nat}(I:m6 X pins σ H s)(h1: -(2 ^ 62)<=lo)(h2:lo<2 ^ 62)(h3: -(2 ^ 62)<=hi)(h4:hi<2 ^ 62)
 (q:R (Itr lo (hi - lo).toNat) H):AI (model X.prog X.w) X.A (pyIter (.ref s.heap.objs.size)) (PIE X pins σ tg R) E {s with heap:=s.heap.push {cls:= .type "range",data:= .fields #[.int lo t,.int hi u,.int 1 v]},toks:=tk}:=by
 refine wpAny_pyIter_range (IsRange.new ..) (small_one h1 h2 h3 h4) ?_
 have I1:m6 X pins σ H {s with heap:=s.heap.push {cls:= .type "range",data:= .fields #[.int lo t,.int hi u,.int 1 v]},toks:=tk}:=I.kept λb o e=>Am _ e
 refine⟨(s.heap.push {cls:= .type "range",data:= .fields #[.int lo t,.int hi u,.int 1 v]}).objs.size,[(s.heap.push {cls:= .type "range",data:= .fields #[.int lo t,.int hi u,.int 1 v]}).objs.size],_,_,H,rfl,
  I1.kept (t':=tk) λb o e=>Am _ e,b7A _ lo (hi - lo).toNat, ?_,λb hb=> ?_,q⟩
 ·have e1:lo+((0:Nat):Int)*1=lo:=by simp
  have e2:(((hi - lo).toNat:Nat):Int) - ((0:Nat):Int)=Builtin.Range.rangeSize lo hi 1:=by rw [rangeSize_one];split<;>lia
  show IsRangeIter _ _ (lo+((0:Nat):Int)*1) ((((hi - lo).toNat:Nat):Int) - ((0:Nat):Int)) 1
  rw [e1,e2]
  exact At _ rfl
 ·have e:b=(s.heap.push {cls:= .type "range",data:= .fields #[.int lo t,.int hi u,.int 1 v]}).objs.size:=by simpa using hb
  subst e
  exact I1.fpOk (AN _) (I1.hok.fresh (AN _))
def c65(ta:TA):TI:=λσ H R=>ta σ H λvs H1=>∃j:Int,vs=[.int j]/\ -(2 ^ 62)<=j/\j<2 ^ 62/\R (Itr 0 j.toNat) H1
def c66(ta:TA):TI:=λσ H R=>ta σ H λvs H1=>∃i j:Int,vs=[.int i,.int j]/\(-(2 ^ 62)<=i/\i<2 ^ 62/\ -(2 ^ 62)<=j/\j<2 ^ 62)/\R (Itr i (j - i).toNat) H1
theorem b3b{a:AF}{ta:TA}{p pos:Pos}(hg:Gl X "range")(hm:X.mg "range"=ζ)(ha:PA X [a] ta)(hs:AK [a] X.env=[(false,eval a X.env)]:=by rfl):PI X tg (.Call (.Name "range" p) [a] [] pos) (c65 ta):=by
 intro pins s σ H R I h;refine Call_ (b1c I hg hm boot_range (PyProof.Rows.callWith_type1 (R1 (ha pos pins s σ H _ I h) λus s1 h0=>u8 h0 λvs H1 I1 r1 q1=> ?_) hs rfl));obtain⟨j,e,q1,q2,q⟩:=q1;subst e;cases r1 with
 |cons r rr=>
  cases rr;obtain⟨t,rfl⟩:=r;exact call_range_1 (b50 I1 (by lia) (by lia) q1 q2 (by simpa using q))
theorem b90{a b:AF}{ta:TA}{p pos:Pos}(hg:Gl X "range")(hm:X.mg "range"=ζ)(ha:PA X [a,b] ta)(hs:AK [a,b] X.env=[(false,eval a X.env),(false,eval b X.env)]:=by rfl)(hs2:AK [b] X.env=[(false,eval b X.env)]:=by rfl):
 PI X tg (.Call (.Name "range" p) [a,b] [] pos) (c66 ta):=by
 intro pins s σ H R I h
 refine Call_ (b1c I hg hm boot_range (PyProof.Rows.callWith_type1 (R1 (ha pos pins s σ H _ I h) λus s1 h0=>u8 h0 λvs H1 I1 r1 q1=> ?_) (by rw [hs,hs2]) (by rw [hs2];rfl)))
 obtain⟨i,j,e,⟨q1,q2,q3,q4⟩,q⟩:=q1
 subst e
 cases r1 with
 |cons r rr=>
  cases rr with
  |cons r' rr=>
   cases rr
   obtain⟨t,rfl⟩:=r
   obtain⟨t',rfl⟩:=r'
   exact call_range_2 (b50 I1 q1 q2 q3 q4 q)
def c78(wi:TI)(g:TG)(tb:TS):TS:=λD σ H=>wi σ H λJ H1=>∃W:Nat->Nat->St->Hp->Prop,(∃m,W 0 m σ H1)/\∀i m σ H,W i m σ H->
 (J.stop i H/\D.nx σ H)\/(J.go i H/\∃N:St->Hp->Prop,(∀σ' H',N σ' H'->∃m',m'<m/\W (i+1) m' σ' H')/\∀x H',J.yld i H x H'->g x σ H' λσ2 H2=>tb {D with nx:=N,ct:=N,bk:=D.nx} σ2 H2)
def b1w(fp:List AB)(h:Heap):List (AB×Obj):=fp.filterMap λb=>(h.get? b).map λo=>(b,o)
theorem a2C{fp:List AB}{h:Heap}{b:AB}{o:Obj}(hb:b∈fp)(e:h.get? b=ξ o):(b,o)∈b1w fp h:=List.mem_filterMap.mpr ⟨b,hb,by rw [e];rfl⟩
theorem b9V{fp:List AB}{h:Heap}{p:AB×Obj}(hp:p∈b1w fp h):p.1∈fp/\h.get? p.1=ξ p.2:=by
 obtain⟨b,hb,e⟩:=List.mem_filterMap.mp hp;cases q:h.get? b with
 |none=>rw [q] at e;cases e
 |some o=>
  rw [q] at e;have e':(b,o)=p:=Option.some.inj e;subst e';exact⟨hb,q⟩
theorem m6.pinned{pins:List (AB×Obj)}{σ:St}{H:Hp}{s:AC}{fp:List AB}(I:m6 X pins σ H s)(hf:∀b∈fp,b10 X pins H b)(ho:∀b∈fp,∃o,s.heap.get? b=ξ o/\∀v,o.data≠.cell v):m6 X (pins++b1w fp s.heap) σ H s:=
 I.pins_of λp hp=>(Aq.mp hp).elim (λz=>I.pin p (Au _ z)) λz=>by
  obtain⟨hb,e⟩:=b9V z;obtain⟨f0,f1,f2,_⟩:=hf p.1 hb;obtain⟨o,e',d⟩:=ho p.1 hb;rw [e] at e';cases e';exact⟨e,f0,f1,f2,d⟩
theorem m6.unpinned{pins pl:List (AB×Obj)}{σ:St}{H:Hp}{s:AC}(I:m6 X (pins++pl) σ H s):m6 X pins σ H s:=I.pins_of λp hp=>I.pin p (Au _ (BD _ hp))
theorem b1x{iter:AF}{body:List Stmt}{wi:TI}{g:TG}{tb:TS}{pos:Pos}(hp:PassesOwn (model X.prog X.w) X.A X.env X.xe)(hc:X.calm=true)(hi:PI X tg iter wi)(hg:PG X tg g)(hb:PSs X body tb)
 (hs:∀x,foldedSetIterable iter X.env x=pure x:=by intro _;rfl):PS X (.For tg iter body [] pos) (c78 wi g tb):=by
 intro pins s σ H D I h
 refine wpAny_For (R1 (hi pins s σ H _ I h) λv s1 h1=>R1 h1 λitv s2 h2=> ?_) hs
 obtain⟨it,fp,tn,J,H2,e,I2,T,st2,f2,W,⟨m0,w0⟩,turn⟩:=h2
 subst e
 have stat:∀{H':Hp},(∀b∈fp,H' b=ζ)->∀b∈fp,b10 X pins H' b:=λhn b hb=>⟨hn b hb,(f2 b hb).2⟩
 refine codeAny_forLoop_any (λn s'=>∃i σ' H',m6 X pins σ' H' s'/\tn i s'.heap/\(∀b∈fp,H' b=ζ)/\W i n σ' H') ?_ m0 ⟨0,σ,H2,I2,st2,λb hb=>(f2 b hb).1,w0⟩
 rintro n s3 ⟨i,σ3,H3,I3,st3,fr3,w3⟩
 rcases turn i n σ3 H3 w3 with⟨stop,qn⟩|⟨go,N,hN,step⟩
 ·refine wpAny_passesOwn hp (R1 (T.done X rfl rfl rfl hc i pins s3 σ3 H3 X.xe I3 (stat fr3) st3 stop) λr s4 ⟨hr,I4⟩=> ?_)
  subst hr
  exact wpAny_execs_nil ⟨σ3,H3,I4,qn⟩
 ·refine wpAny_passesOwn hp (R1 (T.item X rfl rfl rfl hc i pins s3 σ3 H3 X.xe I3 (stat fr3) st3 go) λr s4 ⟨u,hr,h4⟩=> ?_)
  subst hr
  refine wpAny_passesOwn hp (R1 h4 λ_ s5 ⟨x,H5,I5,r5,y5,st5,fr5⟩=> ?_)
  have I5':=I5.pinned (stat fr5) (T.obj _ _ st5)
  refine wpAny_passesOwn hp (R1 (hg _ s5 σ3 H5 x u _ I5' r5 (step x H5 y5)) λ_ s6 ⟨σ6,H6,I6,q6⟩=> ?_)
  refine wpAny_passesOwn hp (R1 (hb _ s6 σ6 H6 _ I6 q6) λf s7 q7=> ?_)
  have again:∀{σ7:St} {H7:Hp},m6 X (pins++b1w fp s5.heap) σ7 H7 s7->N σ7 H7->∃m,m<n/\∃i σ' H',m6 X pins σ' H' s7/\tn i s7.heap/\(∀b∈fp,H' b=ζ)/\W i m σ' H':=λ {σ7 H7} I7 n7=>by
   obtain⟨m',hm,w7⟩:=hN σ7 H7 n7;refine⟨m',hm,i+1,σ7,H7,I7.unpinned,T.keep _ _ _ st5 λb hb o e=>(I7.pin (b,o) (Au _ (Au _ (a2C hb e)))).1,λb hb=> ?_,w7⟩;obtain⟨o,e,d⟩:=T.obj _ _ st5 b hb;exact(I7.pin (b,o) (Au _ (Au _ (a2C hb e)))).2.1
  cases f with
  |next=>obtain⟨σ7,H7,I7,n7⟩:=q7;exact again I7 n7
  |cont=>obtain⟨σ7,H7,I7,n7⟩:=q7;exact again I7 n7
  |brk=>obtain⟨σ7,H7,I7,q7⟩:=q7;exact⟨σ7,H7,I7.unpinned,q7⟩
  |ret v=>obtain⟨x7,σ7,H7,I7,r7,q7⟩:=q7;exact⟨x7,σ7,H7,I7.unpinned,r7,q7⟩
end
theorem b48{K:AE}{a:AB}{xs:List V}{g:TG}{tb:TS}{D:a2O}{σ:St}{H:Hp}(Pv:Nat->St->Hp->Prop)(h0:Pv 0 σ H)(hl:∀i σ H,i<=xs.length->Pv i σ H->SqL K H a xs)
 (hs:∀i x σ H,xs[i]?=ξ x->Pv i σ H->g x σ H λσ2 H2=>tb {D with nx:=Pv (i+1),ct:=Pv (i+1),bk:=D.nx} σ2 H2) (hd:∀σ H,Pv xs.length σ H->D.nx σ H):
 ∃W:Nat->Nat->St->Hp->Prop,(∃m,W 0 m σ H)/\∀i m σ H,W i m σ H->
  ((Itl K a).stop i H/\D.nx σ H)\/((Itl K a).go i H/\∃N:St->Hp->Prop,(∀σ' H',N σ' H'->∃m',m'<m/\W (i+1) m' σ' H')/\∀x H',(Itl K a).yld i H x H'->g x σ H' λσ2 H2=>tb {D with nx:=N,ct:=N,bk:=D.nx} σ2 H2):=by
 refine⟨λi m σ H=>m=xs.length - i/\i<=xs.length/\Pv i σ H,⟨xs.length,by simp,Nat.zero_le _,h0⟩, ?_⟩
 rintro i m σ H ⟨rfl,hi,p⟩
 have q:=hl i σ H hi p
 by_cases hlt:i<xs.length
 ·refine .inr ⟨⟨xs,xs[i],q,by simp [hlt]⟩,Pv (i+1),λσ' H' p'=>⟨xs.length - (i+1),by lia,rfl,hlt,p'⟩,λx H' y=> ?_⟩
  obtain⟨e,y⟩:=y
  subst e
  exact hs i x σ _ (y xs q) p
 ·have e:i=xs.length:=by lia
  subst e
  exact .inl ⟨⟨xs,q,AN _⟩,hd σ H p⟩
theorem c3C{K:AE}{a:AB}{xs:List V}{g:TG}{tb:TS}{D:a2O}{σ:St}{H:Hp}(Pv:Nat->St->Hp->Prop)(h0:Pv 0 σ H)(hl:∀i σ H,i<=xs.length->Pv i σ H->SqT K H a xs)
 (hs:∀i x σ H,xs[i]?=ξ x->Pv i σ H->g x σ H λσ2 H2=>tb {D with nx:=Pv (i+1),ct:=Pv (i+1),bk:=D.nx} σ2 H2) (hd:∀σ H,Pv xs.length σ H->D.nx σ H):
 ∃W:Nat->Nat->St->Hp->Prop,(∃m,W 0 m σ H)/\∀i m σ H,W i m σ H->
  ((Itt K a).stop i H/\D.nx σ H)\/((Itt K a).go i H/\∃N:St->Hp->Prop,(∀σ' H',N σ' H'->∃m',m'<m/\W (i+1) m' σ' H')/\∀x H',(Itt K a).yld i H x H'->g x σ H' λσ2 H2=>tb {D with nx:=N,ct:=N,bk:=D.nx} σ2 H2):=by
 refine⟨λi m σ H=>m=xs.length - i/\i<=xs.length/\Pv i σ H,⟨xs.length,by simp,Nat.zero_le _,h0⟩, ?_⟩
 rintro i m σ H ⟨rfl,hi,p⟩
 have q:=hl i σ H hi p
 by_cases hlt:i<xs.length
 ·refine .inr ⟨⟨xs,xs[i],q,by simp [hlt]⟩,Pv (i+1),λσ' H' p'=>⟨xs.length - (i+1),by lia,rfl,hlt,p'⟩,λx H' y=> ?_⟩
  obtain⟨e,y⟩:=y
  subst e
  exact hs i x σ _ (y xs q) p
 ·have e:i=xs.length:=by lia
  subst e
  exact .inl ⟨⟨xs,q,AN _⟩,hd σ H p⟩
theorem b2M{lo:Int}{n:Nat}{g:TG}{tb:TS}{D:a2O}{σ:St}{H:Hp}(Pv:Nat->St->Hp->Prop)(h0:Pv 0 σ H)
 (hs:∀i σ H,i<n->Pv i σ H->g (.int (lo+i)) σ H λσ2 H2=>tb {D with nx:=Pv (i+1),ct:=Pv (i+1),bk:=D.nx} σ2 H2) (hd:∀σ H,Pv n σ H->D.nx σ H):
 ∃W:Nat->Nat->St->Hp->Prop,(∃m,W 0 m σ H)/\∀i m σ H,W i m σ H->
  ((Itr lo n).stop i H/\D.nx σ H)\/((Itr lo n).go i H/\∃N:St->Hp->Prop,(∀σ' H',N σ' H'->∃m',m'<m/\W (i+1) m' σ' H')/\∀x H',(Itr lo n).yld i H x H'->g x σ H' λσ2 H2=>tb {D with nx:=N,ct:=N,bk:=D.nx} σ2 H2):=by
 refine⟨λi m σ H=>m=n - i/\i<=n/\Pv i σ H,⟨n,by simp,Nat.zero_le _,h0⟩, ?_⟩
 rintro i m σ H ⟨rfl,hi,p⟩
 by_cases hlt:i<n
 ·refine .inr ⟨hlt,Pv (i+1),λσ' H' p'=>⟨n - (i+1),by lia,rfl,hlt,p'⟩,λx H' y=> ?_⟩
  obtain⟨e,y⟩:=y
  subst e y
  exact hs i σ _ hlt p
 ·have e:i=n:=by lia
  subst e
  exact .inl ⟨AN _,hd σ H p⟩
abbrev R2:=V->V->Hp->VK->Prop
def OpR(X:Cx)(f:AA->AA->Sem AA)(r:R2):Prop:=
 ∀pins s σ (H:Hp) (x y:V) (v u:AA) (Q:VK),m6 X pins σ H s->z7 x v->z7 y u->r x y H Q->
  AI (model X.prog X.w) X.A (f v u) (EP X pins σ Q) X.xe s
def UnR(X:Cx)(f:AA->Sem AA)(r:V->Hp->VK->Prop):Prop:=
 ∀pins s σ (H:Hp) (x:V) (v:AA) (Q:VK),m6 X pins σ H s->z7 x v->r x H Q->
  AI (model X.prog X.w) X.A (f v) (EP X pins σ Q) X.xe s
def T4(X:Cx)(f:AA)(r:List V->Hp->VK->Prop):Prop:=
 ∀pins s σ (H:Hp) (xs:List V) (us:List AA) (Q:VK),m6 X pins σ H s->v7 xs us->r xs H Q->
  AI (model X.prog X.w) X.A (call f us) (EP X pins σ Q) X.xe s
def c7M(X:Cx)(r:V->Hp->(Bool->Hp->Prop)->Prop):Prop:=
 ∀pins s σ (H:Hp) (x:V) (v:AA) (Q:Bool->Hp->Prop),m6 X pins σ H s->z7 x v->r x H Q->
  AI (model X.prog X.w) X.A (truthy v) (TP X pins σ Q) X.xe s
def tOp(r:R2)(ta tb:TE):TE:=λσ H Q=>ta σ H λx H1=>tb σ H1 λy H2=>r x y H2 Q
def tUn(r:V->Hp->VK->Prop)(ta:TE):TE:=λσ H Q=>ta σ H λx H1=>r x H1 Q
def rI(C:Int->Int->Prop)(g:Int->Int->V):R2:=λx y H Q=>∃i j,x= .int i/\y= .int j/\C i j/\Q (g i j) H
def rI0(g:Int->Int->V):R2:=λx y H Q=>∃i j,x= .int i/\y= .int j/\Q (g i j) H
def rU(g:Int->V):V->Hp->VK->Prop:=λx H Q=>∃i,x= .int i/\Q (g i) H
section
variable {X:Cx}{a b c:AF}{ta tb tc:TE}{pos:Pos}
theorem c5j(ha:PE X a ta)(hb:PE X b tb){pins:List (AB×Obj)}{s:AC}{σ:St}{H:Hp}{R:V->V->Hp->Prop}(I:m6 X pins σ H s)
 (h:ta σ H λx H1=>tb σ H1 λy H2=>R x y H2) {Q:AA->AC->Prop} {f:AA->AA->Sem AA}
 (hf:∀v u s2 x y H2,m6 X pins σ H2 s2->z7 x v->z7 y u->R x y H2->AI (model X.prog X.w) X.A (f v u) Q X.xe s2):
 AI (model X.prog X.w) X.A (eval a X.env) (λv s₁=>AI (model X.prog X.w) X.A (eval b X.env) (λu s₂=>AI (model X.prog X.w) X.A (f v u) Q X.xe s₂) X.xe s₁) X.xe s:=by
 refine R1 (ha pins s σ H _ I h) λv s1 h0=>u8 h0 λx H1 I1 r1 q1=> ?_
 refine R1 (hb pins s1 σ H1 _ I1 q1) λu s2 h0=>u8 h0 λy H2 I2 r2 q2=> ?_
 exact hf v u s2 x y H2 I2 r1 r2 q2
theorem c7l{op:Operator}{r:R2}(ho:OpR X (binaryOp op) r)(ha:PE X a ta)(hb:PE X b tb):PE X (.BinOp a op b pos) (tOp r ta tb):=by
 ext v
 exact wpAny_BinOp (c5j ha hb I h λv u s2 x y H2 I2 rx ry q=>ho pins s2 σ H2 x y v u Q I2 rx ry q)
theorem c7m{op:UnaryOp}{r:V->Hp->VK->Prop}(ho:UnR X (unaryOp op) r)(ha:PE X a ta):PE X (.UnaryOp op a pos) (tUn r ta):=by
 ext v
 exact UnaryOp_ (R1 (ha pins s σ H _ I h) λv s1 h0=>u8 h0 λx H1 I1 r1 q1=>ho pins s1 σ H1 x v Q I1 r1 q1)
theorem opI{f:AA->AA->Sem AA}{C:Int->Int->Prop}{g:Int->Int->Int}
 (rule:∀(i j:Int) (t u:Tok) (s:AC) (Q:AA->AC->Prop) (E:AA->AC->Prop),C i j->Q (.int (g i j) s.toks) {s with toks:=s.toks+1}->AI (model X.prog X.w) X.A (f (.int i t) (.int j u)) Q E s):
 OpR X f (rI C λi j=> .int (g i j)):=by
 intro pins s σ H x y v u Q I rx ry h
 obtain⟨i,j,rfl,rfl,hc,q⟩:=h
 obtain⟨t,rfl⟩:=rx
 obtain⟨t',rfl⟩:=ry
 exact rule i j t t' s _ _ hc ⟨.int (g i j),H,I.tok _,⟨_,rfl⟩,q⟩
theorem c5X{f:AA->AA->Sem AA}{g:Int->Int->Int}
 (rule:∀(i j:Int) (t u:Tok) (s:AC) (Q:AA->AC->Prop) (E:AA->AC->Prop),Q (.int (g i j) s.toks) {s with toks:=s.toks+1}->AI (model X.prog X.w) X.A (f (.int i t) (.int j u)) Q E s):
 OpR X f (rI0 λi j=> .int (g i j)):=by
 intro pins s σ H x y v u Q I rx ry h
 obtain⟨i,j,rfl,rfl,q⟩:=h
 obtain⟨t,rfl⟩:=rx
 obtain⟨t',rfl⟩:=ry
 exact rule i j t t' s _ _ ⟨.int (g i j),H,I.tok _,⟨_,rfl⟩,q⟩
theorem c36{f:AA->AA->Sem AA}{g:Int->Int->Bool}
 (rule:∀(i j:Int) (t u:Tok) (s:AC) (Q:AA->AC->Prop) (E:AA->AC->Prop),Q (.bool (g i j)) s->AI (model X.prog X.w) X.A (f (.int i t) (.int j u)) Q E s):
 OpR X f (rI0 λi j=> .bl (g i j)):=by
 intro pins s σ H x y v u Q I rx ry h
 obtain⟨i,j,rfl,rfl,q⟩:=h
 obtain⟨t,rfl⟩:=rx
 obtain⟨t',rfl⟩:=ry
 exact rule i j t t' s _ _ ⟨.bl (g i j),H,I,rfl,q⟩
def a0U(i j:Int):Prop:=0<j/\j<1073741824
def b6l(i j:Int):Prop:=0<=j/\j<=1000000/\i.natAbs<2 ^ 64
def b6k(i j:Int):Prop:=(-(2 ^ 64)<i/\i<2 ^ 64)\/(-(2 ^ 64)<j/\j<2 ^ 64)
theorem b6k.ok{i j:Int}(h:b6k i j):IntMulOk i j:=by
 rcases h with⟨h1,h2⟩|⟨h1,h2⟩
 ·exact .of_left (intBits_le_64 h1 h2)
 ·exact .of_right (intBits_le_64 h1 h2)
theorem c5Y:OpR X (binaryOp .Add) (rI0 λi j=> .int (i+j)):=c5X λ_ _ _ _ _ _ _ q=>add_int q
theorem c55:OpR X (binaryOp .Sub) (rI0 λi j=> .int (i - j)):=c5X λ_ _ _ _ _ _ _ q=>sub_int q
theorem c52:OpR X (binaryOp .Mult) (rI b6k λi j=> .int (i*j)):=opI λ_ _ _ _ _ _ _ hc q=>mul_int q hc.ok
theorem c38:OpR X (binaryOp .FloorDiv) (rI a0U λi j=> .int (i / j)):=opI λi j _ _ _ _ _ hc q=>by
 have h1:(0:Int)<j:=hc.1;have h2:j<1073741824:=hc.2;exact floordiv_int (by lia) (by rw [Int.fdiv_eq_ediv_of_nonneg i (by lia)];exact q) (.inl (PyProof.noPylong_small (by lia)))
theorem c51:OpR X (binaryOp .Mod) (rI (λ_ j=>0<j) λi j=> .int (i % j)):=opI λi j _ _ _ _ _ hc q=>by
 have h1:(0:Int)<j:=hc;exact mod_int' (by lia) (by rw [Int.fmod_eq_emod_of_nonneg i (by lia)];exact q)
theorem c53:OpR X (binaryOp .Pow) (rI b6l λi j=> .int (i ^ j.toNat)):=opI λ_ _ _ _ _ _ _ hc q=>pow_int_small hc.1 hc.2.1 hc.2.2 q
theorem c3L:OpR X (inplaceOp .Add) (rI0 λi j=> .int (i+j)):=c5X λ_ _ _ _ _ _ _ q=>iadd_int q
theorem unI{f:AA->Sem AA}{g:Int->Int}
 (rule:∀(i:Int) (t:Tok) (s:AC) (Q:AA->AC->Prop) (E:AA->AC->Prop),Q (.int (g i) s.toks) {s with toks:=s.toks+1}->AI (model X.prog X.w) X.A (f (.int i t)) Q E s):
 UnR X f (rU λi=> .int (g i)):=by
 intro pins s σ H x v Q I rx h
 obtain⟨i,rfl,q⟩:=h
 obtain⟨t,rfl⟩:=rx
 exact rule i t s _ _ ⟨.int (g i),H,I.tok _,⟨_,rfl⟩,q⟩
theorem c6M:UnR X (unaryOp .USub) (rU λi=> .int (-i)):=unI λ_ _ _ _ _ q=>neg_int q
theorem c02{pins:List (AB×Obj)}{σ:St}{H:Hp}{s:AC}{Q:VK}{k k':Bool}(I:m6 X pins σ H s)(q:Q (.bl k) H)(e:k=k'):EP X pins σ Q (.bool k') s:=by
 subst e;exact⟨.bl k,H,I,rfl,q⟩
theorem c7i:OpR X (compareOp .Lt) (rI0 λi j=> .bl (decide (i<j))):=c36 λ_ _ _ _ _ _ _ q=>lt_int q
theorem c7h:OpR X (compareOp .LtE) (rI0 λi j=> .bl (decide (i<=j))):=c36 λ_ _ _ _ _ _ _ q=>le_int q
theorem c7g:OpR X (compareOp .Gt) (rI0 λi j=> .bl (decide (j<i))):=c36 λ_ _ _ _ _ _ _ q=>gt_int q
theorem c7f:OpR X (compareOp .GtE) (rI0 λi j=> .bl (decide (j<=i))):=c36 λ_ _ _ _ _ _ _ q=>ge_int q
theorem b9Z:OpR X (compareOp .Lt) (λx y H Q=>∃i j,x= .str i/\y= .str j/\Q (.bl (decide (i.cps.toList<j.cps.toList))) H):=by
 ext u
 obtain⟨i,j,rfl,rfl,q⟩:=h;obtain⟨t,rfl⟩:=rx;obtain⟨t',rfl⟩:=ry;exact lt_str (c02 I q rfl)
theorem c50:OpR X (compareOp .Is) (λx y H Q=>y= .non/\Q (.bl (decide (x= .non))) H):=by
 ext u
 obtain⟨rfl,q⟩:=h;cases ry;refine is_none_gen (c02 I q ?_);cases x<;>first
  |(cases rx;rfl)
  |(obtain⟨t,rfl⟩:=rx;rfl)
theorem c4f{op:CmpOp}{r:R2}(ho:OpR X (compareOp op) r)(ha:PE X a ta)(hb:PE X b tb)(hm:behindInMarks op b=false):PE X (.Compare a [op] [b] pos) (tOp r ta tb):=by
 ext v
 exact wpAny_Compare1 (c5j ha hb I h λv u s2 x y H2 I2 rx ry q=>ho pins s2 σ H2 x y v u Q I2 rx ry q) hm
def c43(t:TE):TT:=λσ H Q=>t σ H λx H'=>∃k,x= .bl k/\Q k H'
theorem c4j{op:CmpOp}{r:R2}(ho:OpR X (compareOp op) r)(ha:PE X a ta)(hb:PE X b tb)(hm:behindInMarks op b=false):PT X (.Compare a [op] [b] pos) (c43 (tOp r ta tb)):=by
 ext v
 refine wpAny_isTrue_Compare1 (R1 (ha pins s σ H _ I h) λv s1 h0=>u8 h0 λx H1 I1 r1 q1=>R1 (hb pins s1 σ H1 _ I1 q1) λu s2 h0=>u8 h0 λy H2 I2 r2 q2=>
  R1 (ho pins s2 σ H2 x y v u _ I2 r1 r2 q2) λc s3 ⟨z,H3,I3,r3,k,e,q3⟩=> ?_) hm
 subst e;cases r3;exact wpAny_truthy_bool ⟨H3,I3,q3⟩
def c2J(r r':R2)(ta tb tc:TE):TE:=λσ H Q=>ta σ H λx H1=>tb σ H1 λy H2=>r x y H2 λz H3=>∃k,z= .bl k/\
 (if k=true then tc σ H3 λw' H4=>r' y w' H4 Q else Q (.bl false) H3)
theorem c2e{op op':CmpOp}{r r':R2}(ho:OpR X (compareOp op) r)(ho':OpR X (compareOp op') r')(ha:PE X a ta)(hb:PE X b tb)(hc:PE X c tc)
 (hm:lastMarks [op,op'] [b,c]=false:=by with_unfolding_all rfl):PT X (.Compare a [op,op'] [b,c] pos) (c43 (c2J r r' ta tb tc)):=by
 intro pins s σ H Q I h
 refine isTrue_chain (R1 (ha pins s σ H _ I h) λv s1 h0=>u8 h0 λx H1 I1 r1 q1=>test_link (R1 (hb pins s1 σ H1 _ I1 q1) λu s2 h0=>u8 h0 λy H2 I2 r2 q2=>
  R1 (ho pins s2 σ H2 x y v u _ I2 r1 r2 q2) λd s3 ⟨z,H3,I3,r3,k,e,q3⟩=> ?_)) hm
 subst e
 cases r3
 refine wpAny_truthy_bool ?_
 cases k with
 |false=>
  obtain⟨k',e',q'⟩:=q3
  cases e'
  exact ite_ff ⟨H3,I3,q'⟩
 |true=>
  refine ite_tt (test_last (R1 (hc pins s3 σ H3 _ I3 q3) λw' s4 ⟨z',H4,I4,r4,q4⟩=>R1 (ho' pins s4 σ H4 y z' u w' _ I4 r2 r4 q4) λd' s5 ⟨z2,H5,I5,r5,k2,e2,q5⟩=> ?_))
  subst e2
  cases r5
  exact wpAny_truthy_bool ⟨H5,I5,q5⟩
def c5a(K:AE)(x:V)(H:Hp)(k:Bool):Prop:=
 match x with
 | .non=>k=false
 | .bl b=>k=b
 | .int i=>k=(i !=0)
 | .str y=>y.length<=AL/\k=((y.length:Int) !=0)
 | .byt y=>y.size<=AL/\k=((y.size:Int) !=0)
 | .ref p=>(∃xs,SqL K H p xs/\k= !xs.isEmpty)\/(∃xs,SqT K H p xs/\k= !xs.isEmpty)\/∃kvs,H p=ξ (.dK kvs)/\k= !kvs.isEmpty
 |_=>False
theorem b6W{κ:Type}{kvs:List (κ×V)}{vs:List (κ×AA)}(r:KV kvs vs):(!vs.isEmpty)= !kvs.isEmpty:=by
 cases r<;>rfl
theorem b05{xs:List V}{its:List AA}(r:v7 xs its):(!its.toArray.isEmpty)= !xs.isEmpty:=by
 cases r<;>simp
theorem a7e:(AL:Nat)<2 ^ 63:=by rw [sizeLine_eq];decide
theorem c6I:c7M X (λx H Q=>∃k,c5a X.K x H k/\Q k H):=by
 intro pins s σ H x v Q I rx h;obtain⟨k,e,q⟩:=h;have hl:=a7e;have hs:AL=16777216:=sizeLine_eq;cases x with
 |non=>
  cases rx;have e':k=false:=e;subst e';exact truthy_none ⟨H,I,q⟩
 |bl b=>
  cases rx;have e':k=b:=e;subst e';exact wpAny_truthy_bool ⟨H,I,q⟩
 |int i=>
  obtain⟨t,rfl⟩:=rx;have e':k=(i !=0):=e;subst e';exact PySem.P.truthy_int ⟨H,I,q⟩
 |str y=>
  obtain⟨t,rfl⟩:=rx;obtain⟨hy,e'⟩:y.length<=AL/\k=((y.length:Int) !=0):=e;subst e';exact PySem.P.truthy_str (by lia) ⟨H,I.tok _,q⟩
 |byt y=>
  obtain⟨t,rfl⟩:=rx;obtain⟨hy,e'⟩:y.size<=AL/\k=((y.size:Int) !=0):=e;subst e';exact PySem.W.truthy_bytes (by lia) ⟨H,I.tok _,q⟩
 |ref p=>
  cases rx;have e':(∃xs,SqL X.K H p xs/\k= !xs.isEmpty)\/(∃xs,SqT X.K H p xs/\k= !xs.isEmpty)\/∃kvs,H p=ξ (.dK kvs)/\k= !kvs.isEmpty:=e;rcases e' with⟨xs,hx,e'⟩|⟨xs,hx,e'⟩|⟨kvs,hx,e'⟩
  ·subst e';obtain⟨its,r,pl,hz⟩:=I.list hx;have hlen:=r.length;exact wpAny_truthy_list pl.isList (by simp only [Aj];lia) ⟨H,I.tok _,by rw [b05 r];exact q⟩
  ·subst e';obtain⟨its,r,pl,hz⟩:=I.tuple hx;have hlen:=r.length;exact truthy_tuple pl (by simp only [Aj];lia) ⟨H,I.tok _,by rw [b05 r];exact q⟩
  ·subst e';obtain⟨hz,hS,vs,r,m⟩:kvs.length<=AL/\(p==sysModules)=false/\∃vs,KV kvs vs/\s.heap.DictOf (U0 X.prog X.w) p vs:=I.hok p _ hx;have hlen:kvs.length=vs.length:=Paired.length r;exact wpAny_truthy_dict hS m (by lia) ⟨H,I.tok _,by rw [b6W r];exact q⟩
 |_=>exact(show False from e).elim
theorem c2g(ha:PE X a ta)(he:∀whole,isTrue a X.env whole=(do let v<-whole;standAt a.pos;holding [v] (truthy v))):
 PT X a (λσ H Q=>ta σ H λx H'=>∃k,c5a X.K x H' k/\Q k H'):=by
 intro pins s σ H Q I h
 exact isTrue_plain (R1 (ha pins s σ H _ I h) λv s1 h0=>u8 h0 λx H1 I1 r1 q1=>c6I pins s1 σ H1 x v Q I1 r1 q1) (he _)
theorem b7j:OpR X (binaryOp .Add) (λx y H Q=>∃i j,x= .str i/\y= .str j/\i.length+j.length<=AL/\Q (.str (i++j)) H):=by
 ext u
 obtain⟨i,j,rfl,rfl,hz,q⟩:=h;obtain⟨t,rfl⟩:=rx;obtain⟨t',rfl⟩:=ry;exact add_str (λt' tk=>⟨.str (i++j),H,I.tok _,⟨_,rfl⟩,q⟩) hz
theorem a5f{x:V}{us:List AA}(r:v7 [x] us):∃u,us=[u]/\z7 x u:=by
 cases r with
 |cons r1 r2=>cases r2;exact⟨_,rfl,r1⟩
theorem c7H{x y:V}{us:List AA}(r:v7 [x,y] us):∃u w',us=[u,w']/\z7 x u/\z7 y w':=by
 cases r with
 |cons r1 r2=>
  cases r2 with
  |cons r3 r4=>cases r4;exact⟨_,_,rfl,r1,r3⟩
theorem b86(hc:X.calm=true):T4 X (.builtin "min") (λxs H Q=>∃i j,xs=[.int i,.int j]/\Q (.int (if j<i then j else i)) H):=by
 intro pins s σ H xs us Q I r h;obtain⟨i,j,rfl,q⟩:=h;obtain⟨u,w',rfl,⟨t,rfl⟩,⟨t',rfl⟩⟩:=c7H r;refine min_two_ints (I.ok.hd hc) λh' tk k=>⟨_,H,I.kept k, ?_,q⟩
 by_cases hj:j<i
 ·rw [if_pos hj,if_pos hj];exact⟨_,rfl⟩
 ·rw [if_neg hj,if_neg hj];exact⟨_,rfl⟩
end
section
variable {prog:AJ}{w:AH}{A:AM}{E:AA->AC->Prop}{s:AC}{K:AE}{x dx C f:AB}{mA:Str->Υ AA}{name:Str}{v:AA}
end
theorem b11.some_of{v:V}{o:Υ AA}(r:b11 (ξ v) o):∃u,o=ξ u/\z7 v u:=by
 cases o with
 |none=>exact(show False from r).elim
 |some u=>exact⟨u,rfl,r⟩
section
variable {P:AJ}{w:AH}{H H':Hp}{h h':Heap}{a C dx:AB}{fs fs':List (Str×V)}
end
section
variable {X:Cx}{pins:List (AB×Obj)}{σ:St}{H:Hp}{s:AC}{a C dx:AB}{fs:List (Str×V)}{f:Str}{v:V}{A:AM}{E:AA->AC->Prop}
end
section
variable {X:Cx}{o e value:AF}{f:Str}{pos pos' tpos:Pos}{ta tv:TE}
end
section
variable {X:Cx}{pins:List (AB×Obj)}{σ:St}{H:Hp}{s:AC}{A:AM}{E:AA->AC->Prop}{Q:AA->AC->Prop}{c:AA}{b:Bool}
end
structure W9(k:Nat)(A:AM):Prop where
 hd:A.handled=ζ
 dp:A.depth+3*k+5<recursionLimit
 un:A.units+16*k+200<cLine
theorem W9.mono{j k:Nat}{A:AM}(r:W9 k A)(h:j<=k):W9 j A:=⟨r.hd,by have:=r.dp;lia,by have:=r.un;lia⟩
theorem W9.deeper{k:Nat}{A:AM}(r:W9 (k+1) A)(env:Env):W9 k (A.deeper env):=
 ⟨r.hd,by have:=r.dp;show A.depth+1+3*k+5<_;lia,by have:=r.un;show A.units+3+16*k+200<_;lia⟩
theorem W9.depth{k:Nat}{A:AM}(r:W9 k A):A.depth<recursionLimit:=by have:=r.dp;lia
theorem W9.units{k:Nat}{A:AM}(r:W9 k A):A.units+64<cLine:=by have:=r.un;lia
def c6G:TA:=λ_ H Q=>Q [] H
def b8M(ta:TE)(tr:TA):TA:=λσ H Q=>ta σ H λx H1=>tr σ H1 λxs H2=>Q (x::xs) H2
section
variable {X:Cx}{e:AF}{es:List AF}{te:TE}{t:TA}{pos:Pos}
theorem a0d:PA X [] c6G:=λ_ _ _ _ H Q I h=>Calls.spliced_nil ⟨[],H,I,.nil,h⟩
theorem J3(ha:PE X e te)(hr:PA X es t)(hs:Ψ e es X.env:=by rfl):PA X (e::es) (b8M te t):=by
 intro pos pins s σ H Q I h;rw [hs];show AI _ _ (spliced ((false,eval e X.env)::backTo pos (AK es X.env))) _ _ s;refine Calls.spliced_cons (R1 (ha pins s σ H _ I h) λu s1 h0=>u8 h0 λx H1 I1 r1 q1=> ?_);exact R1 (hr pos pins s1 σ H1 _ I1 q1) λus s2 h0=>u8 h0 λxs H2 I2 r2 q2=>⟨x::xs,H2,I2,.cons r1 r2,q2⟩
def c8e(t:TA):TE:=λσ H Q=>t σ H λxs H1=>xs.length<=AL/\∀p,H1 p=ζ->Q (.ref p) (upd H1 p (.tup xs))
def c8a(t:TA):TE:=λσ H Q=>t σ H λxs H1=>xs.length<=AL/\∀p,H1 p=ζ->Q (.ref p) (upd H1 p (.lst xs))
theorem b7k{x1}(h:PA X es t):PE X (.Tuple es x1 pos) (c8e t):=by
 intro pins s σ H Q I hq;refine wpAny_Tuple_spliced (R1 (h pos pins s σ H _ I hq) λus s1 h0=>a6k h0 λxs H1 I1 r z q=>⟨by rw [<-r.length];exact z, ?_⟩)
 have hf:H1 s1.heap.objs.size=ζ:=I1.hok.fresh (AN _);refine⟨.ref s1.heap.objs.size,upd H1 s1.heap.objs.size (.tup xs),I1.laid (t':=s1.toks) (λb u e=>Am _ e) (AN _) ?_,rfl,q _ hf⟩;exact⟨z,us,r,⟨_,At _ rfl,rfl,_,rfl⟩⟩
theorem c6c(h:PA X es t):PE X (.List es pos) (c8a t):=by
 intro pins s σ H Q I hq;refine wpAny_List_spliced (R1 (h pos pins s σ H _ I hq) λus s1 h0=>a6k h0 λxs H1 I1 r z q=>⟨by rw [<-r.length];exact z, ?_⟩)
 have hf:H1 s1.heap.objs.size=ζ:=I1.hok.fresh (AN _);refine⟨.ref s1.heap.objs.size,upd H1 s1.heap.objs.size (.lst xs),I1.laid (t':=s1.toks) (λb u e=>Am _ e) (AN _) ?_,rfl,q _ hf⟩;exact⟨z,us,0,r,At _ rfl⟩
end
abbrev Sp:=List V->Hp->VK->XK->Prop
abbrev CXT:=List Env->Hp->AC->XK->AA->AC->Prop
structure c26(P:AJ)(w:AH)(K:AE)(mg:Str->Υ AA)(base:Heap)(A:AM)(outer:List Env)(s:AC)(H:Hp):Prop where
 frames:A.frames=ξ outer
 mod:Mod K mg base
 bs:∀b o,base.get? b=ξ o->s.heap.get? b=ξ o/\H b=ζ
 bsz:base.objs.size<=s.heap.objs.size
 funs:s.heap.FunFrames base outer
 frf:∀b∈frs outer,H b=ζ
 hok:HOk P w H s.heap
 bare:AllBare s.gens
def CE(outer:List Env)(P:AJ)(w:AH)(H:Hp)(s:AC)(Q:VK)(u:AA)(s':AC):Prop:=
 ∃v H',s'.os=s.os/\AllBare s'.gens/\Un (frs outer) [] H H' s.heap s'.heap/\HOk P w H' s'.heap/\z7 v u/\Q v H'
def CR(CX:CXT)(outer:List Env)(P:AJ)(w:AH)(H:Hp)(s:AC)(Q:VK)(E:XK)(r:Result)(s':AC):Prop:=
 match r with
 | .ok (.ret u)=>CE outer P w H s Q u s'
 | .ok _=>False
 | .error e=>CX outer H s E e s'
structure a1v(P:AJ)(w:AH)(K:AE)(mg:Str->Υ AA)(base:Heap)(CX:CXT)(k:Nat)(f:AB)(fd:FuncData)(ps:List Str)(sp:Sp):Prop where
 len:∀vs H Q E,sp vs H Q E->vs.length=ps.length
 run:∀(A:AM) (outer:List Env) (s:AC) (H:Hp) (args:Args) (us:List AA) (vs:List V) (Q:VK) (E:XK),W9 k A->c26 P w K mg base A outer s H->BindsTo s fd args (ps.zip us)->v7 vs us->sp vs H Q E->
  codeAny (model P w) A (.call (.ref f) args) (CR CX outer P w H s Q E) s
theorem a1v.mono{P:AJ}{w:AH}{K:AE}{mg:Str->Υ AA}{base:Heap}{CX:CXT}{j k:Nat}{f:AB}{fd:FuncData}{ps:List Str}{sp:Sp}(F:a1v P w K mg base CX j f fd ps sp)(h:j<=k):
 a1v P w K mg base CX k f fd ps sp:=⟨F.len,λA outer s H args us vs Q E hr=>F.run A outer s H args us vs Q E (hr.mono h)⟩
theorem a1v.imp{P:AJ}{w:AH}{K:AE}{mg:Str->Υ AA}{base:Heap}{CX:CXT}{k:Nat}{f:AB}{fd:FuncData}{ps:List Str}{sp sp':Sp}(F:a1v P w K mg base CX k f fd ps sp)
 (h:∀vs H Q E,sp' vs H Q E->sp vs H Q E):a1v P w K mg base CX k f fd ps sp':=
 ⟨λvs H Q E q=>F.len vs H Q E (h _ _ _ _ q),λA outer s H args us vs Q E hr he hb hv hs=>F.run A outer s H args us vs Q E hr he hb hv (h _ _ _ _ hs)⟩
section
variable {X:Cx}{pins:List (AB×Obj)}{σ:St}{H:Hp}{s s':AC}
theorem m6.env0(I:m6 X pins σ H s):c26 X.prog X.w X.K X.mg X.base X.A X.stack s H:=
 ⟨I.ok.frames,I.ok.mod,I.bs,Nat.le_trans I.ok.bsz I.sz,I.stack,I.stkFree,I.hok,I.bare⟩
theorem m6.after{Q:VK}{u:AA}(I:m6 X pins σ H s)(h:CE X.stack X.prog X.w H s Q u s'):EP X pins σ Q u s':=by
 obtain⟨v,H',os,bare,un,hok,r,q⟩:=h;obtain⟨hh,g,d,t,os'⟩:=s';obtain rfl:os'=s.os:=os;exact⟨v,H',I.call (h':=hh) (g':=g) (d':=d) (t':=t) (ch:=[]) un hok bare (λb z=>absurd z (by simp)),r,q⟩
end
def c7w(sp:Sp)(dvs:List V)(E:XK)(t:TA):TE:=λσ H Q=>t σ H λvs H1=>sp (vs++dvs) H1 Q E
def a44(K:AE)(fd:FuncData)(ps:List Str)(ds:List AA):Prop:=
 ∀(s:AC) (us:List AA),K.In s.heap->(us++ds).length=ps.length->BindsTo s fd ⟨us,[]⟩ (ps.zip (us++ds))
theorem a44.all{K:AE}{fd:FuncData}{ps:List Str}(h:∀us:List AA,us.length=ps.length->bindArgs fd ⟨us,[]⟩=pure (ps.zip us)):a44 K fd ps []:=λs us _ hl=>by
 rw [Af] at hl ⊢;exact .of_eq (h us hl)
def b0D(CX:CXT)(X:Cx)(E:XK):Prop:=∀(pins:List (AB×Obj)) (σ:St) (H:Hp) (s:AC) (e:AA) (s':AC),m6 X pins σ H s->CX X.stack H s E e s'->X.xe e s'
section
variable {X:Cx}{CX:CXT}{k:Nat}{f C:AB}{fd:FuncData}{ps:List Str}{sp:Sp}{dvs:List V}{ds:List AA}{E:XK}{x m:Str}{p pos apos:Pos}{e o:AF}{es:List AF}{ta:TE}{t:TA}
theorem c2p{pins:List (AB×Obj)}{σ:St}{H:Hp}{s:AC}{Q:VK}{us:List AA}{vs:List V}(F:a1v X.prog X.w X.K X.mg X.base CX k f fd ps sp)(hr:W9 k X.A)(hb:a44 X.K fd ps ds)(hd:v7 dvs ds)(hx:b0D CX X E)
 (I:m6 X pins σ H s) (r:v7 vs us) (h:sp (vs++dvs) H Q E):AI (model X.prog X.w) X.A (call (.ref f) us) (EP X pins σ Q) X.xe s:=by
 have r2:v7 (vs++dvs) (us++ds):=r.append hd
 have hl:(us++ds).length=ps.length:=by rw [<-r2.length];exact F.len _ _ _ _ h
 refine wpAny_call (codeAny_mono (F.run X.A X.stack s H ⟨us,[]⟩ (us++ds) (vs++dvs) Q E hr I.env0 (hb s us I.kIn hl) r2 h) λr s' hq=> ?_)
 cases r with
 |error e=>exact hx pins σ H s e s' I hq
 |ok fl=>
  cases fl with
  |ret u=>exact I.after hq
  |next=>exact False.elim hq
  |brk=>exact False.elim hq
  |cont=>exact False.elim hq
theorem a8i(F:a1v X.prog X.w X.K X.mg X.base CX k f fd ps sp)(hr:W9 k X.A)(hg:Gl X x)(hm:X.mg x=ξ (.ref f))(hk:PySem.W.keepIn X.K (.ref f)=true)(hb:a44 X.K fd ps ds)(hd:v7 dvs ds)(hx:b0D CX X E)
 (ha:PA X (e::es) t) (hdb:Δ x:=by decide) (he:Ψ e es X.env:=by rfl) (hpl:Φ₁ pos es X.env:=by rfl):
 PE X (.Call (.Name x p) (e::es) [] pos) (c7w sp dvs E t):=by
 intro pins s σ H Q I h
 refine wpAny_Call_Name_kw (a71 I hg hm ?_ hdb)
 refine PySem.W.callWith_K (h₀:=X.base) I.ok.mod.kin hk (R1 (ha pos pins s σ H _ I h) λus s1 h0=>u8 h0 λvs H1 I1 r q=>⟨I1.kIn, ?_⟩) he hpl
 exact c2p F hr hb hd hx I1 r q
end
section
variable {X:Cx}{CX:CXT}{k:Nat}{f C:AB}{fd:FuncData}{ps ks:List Str}{sp:Sp}{E:XK}{x m:Str}{p pos apos kpos:Pos}{e o:AF}{es:List AF}{kws:List Keyword}{te ta:TE}{t tk:TA}{nm:Υ Str}
variable {g:List AA->List AA->List AA}{gV:List V->List V->List V}
end
structure i4(N P:List Str)(sc:Scope):Prop where
 kind:sc.kind= .function
 co:sc.isCoroutine=false
 gen:sc.isGenerator=false
 nd:N.Nodup
 pre:N.take P.length=P
 par:∀x∈P,sc.names.lookup x=ξ .local\/sc.names.lookup x=ξ .cell
 nofree:∀y∈sc.names,y.2≠.free
theorem b2B{kindOf:Str->Υ NameKind}{x:Str}:∀{binds:List (Str×AA)} {m:Str->Υ AA},(∀v,(x,v)∉binds)->bindL kindOf binds m x=m x
 |[],_,_=>rfl
 |(n,v)::r,m,h=>by
  unfold bindL;rw [b2B λw hw=>h w (Al _ hw)];split
  ·have:x≠n:=by rintro rfl;exact h v Ak
   simp [this]
  ·rfl
theorem b2z{kindOf:Str->Υ NameKind}{x:Str}:∀{binds:List (Str×AA)} {m:Str->Υ AA},(∀v,(x,v)∉binds)->bindC kindOf binds m x=m x
 |[],_,_=>rfl
 |(n,v)::r,m,h=>by
  unfold bindC;rw [b2z λw hw=>h w (Al _ hw)];split
  ·rfl
  ·have:x≠n:=by rintro rfl;exact h v Ak
   simp [this]
theorem b2A{kindOf:Str->Υ NameKind}{x:Str}{v:AA}:∀{P:List Str} {vs:List AA} {i:Nat} {m:Str->Υ AA},P.Nodup->P[i]?=ξ x->vs[i]?=ξ v->kindOf x=ξ .local->
 bindL kindOf (P.zip vs) m x=ξ v
 |[],_,_,_,_,h,_,_=>by simp at h
 |_::_,[],_,_,_,_,h,_=>by simp at h
 |p::P,w::vs,0,m,nd,h1,h2,hk=>by
  simp at h1 h2;subst h1;subst h2;show bindL kindOf ((p,w)::P.zip vs) m p=_;unfold bindL;rw [b2B λv hv=>(List.nodup_cons.mp nd).1 (List.of_mem_zip hv).1,if_pos hk];simp
 |p::P,w::vs,i+1,m,nd,h1,h2,hk=>by
  show bindL kindOf ((p,w)::P.zip vs) m x=_;unfold bindL;exact b2A (i:=i) (List.nodup_cons.mp nd).2 (by simpa using h1) (by simpa using h2) hk
theorem b2y{kindOf:Str->Υ NameKind}{x:Str}{v:AA}:∀{P:List Str} {vs:List AA} {i:Nat} {m:Str->Υ AA},P.Nodup->P[i]?=ξ x->vs[i]?=ξ v->kindOf x≠ξ .local->
 bindC kindOf (P.zip vs) m x=ξ v
 |[],_,_,_,_,h,_,_=>by simp at h
 |_::_,[],_,_,_,_,h,_=>by simp at h
 |p::P,w::vs,0,m,nd,h1,h2,hk=>by
  simp at h1 h2;subst h1;subst h2;show bindC kindOf ((p,w)::P.zip vs) m p=_;unfold bindC;rw [b2z λv hv=>(List.nodup_cons.mp nd).1 (List.of_mem_zip hv).1,if_neg hk];simp
 |p::P,w::vs,i+1,m,nd,h1,h2,hk=>by
  show bindC kindOf ((p,w)::P.zip vs) m x=_;unfold bindC;exact b2y (i:=i) (List.nodup_cons.mp nd).2 (by simpa using h1) (by simpa using h2) hk
def a3g(N:List Str)(vs:List V):St:=vs.map ξ++AV (N.length - vs.length) ζ
def a5q(CX:CXT)(P:AJ)(w:AH)(K:AE)(mg:Str->Υ AA)(base:Heap)(N:List Str)(qual:Str)(scope:Scope)(f:AB)(cd:AA)(A:AM)(outer:List Env)(s:AC)(H:Hp)(E:XK):Cx where
 prog:=P
 w:=w
 K:=K
 mg:=mg
 base:=base
 A:=A.deeper (envOfC qual scope s.heap.objs.size f cd)
 N:=N
 s₀:=s
 H₀:=H
 env:=envOfC qual scope s.heap.objs.size f cd
 outer:=outer
 stack:=envOfC qual scope s.heap.objs.size f cd::outer
 ex:=[]
 calm:=true
 fn:=λ_=>true
 pn:=[]
 xe:=λe s'=>AI (model P w) (A.deeper (envOfC qual scope s.heap.objs.size f cd)) (leaving (envOfC qual scope s.heap.objs.size f cd) e) (λ_ s''=>CX outer H s E e s'') (λe' s''=>CX outer H s E e' s'') s'
theorem b4O{sc:Scope}{n:Nat}{x:Str}(h:sc.names.lookup x=ξ .cell):∃c,(cellsFrom n sc.names []).lookup x=ξ c:=by
 have q:=PySem.W.cellsFrom_some sc.names n [] (.inl h);exact Option.isSome_iff_exists.mp q
theorem b9x{CX:CXT}{P:AJ}{w:AH}{K:AE}{mg:Str->Υ AA}{base:Heap}{N ps:List Str}{qual:Str}{scope:Scope}{f:AB}{cd:AA}{A:AM}{outer:List Env}{s s1:AC}{H:Hp}{E:XK}{us:List AA}{vs:List V}
 (S:i4 N ps scope) (hd:A.handled=ζ) (e0:c26 P w K mg base A outer s H) (hl:vs.length=ps.length) (r:v7 vs us)
 (x:InCallC s s.heap.objs.size (bindL (envOfC qual scope s.heap.objs.size f cd).kindOf (ps.zip us) λ_=>ζ) (cellsFrom (s.heap.objs.size+1) scope.names []) (bindC (envOfC qual scope s.heap.objs.size f cd).kindOf (ps.zip us) λ_=>ζ) s1):
 m6 (a5q CX P w K mg base N qual scope f cd A outer s H E) [] (a3g N vs) H s1:=by
 have hpl:ps.length<=N.length:=by have:=congrArg List.length S.pre;rw [List.length_take] at this;lia
 obtain⟨h1,tk,rfl,hk⟩:=x.done
 have noA:∀b:AB,b∉(a5q CX P w K mg base N qual scope f cd A outer s H E).ex:=λb z=>absurd (show b∈([]:List AB) from z) (by simp)
 refine⟨⟨e0.mod,S.kind,rfl,rfl,AN _,λy z c h1 h2=> ?_,λy hy=> ?_,λy c _ h=> ?_,λ_=>hd,Around.frames_deeper e0.frames,.inr ⟨rfl,rfl⟩,λb z=>absurd z (noA b),e0.bs,e0.bsz,λb _ _=>noA b,λb z=>absurd z (noA b),e0.funs,e0.frf⟩,
  rfl,e0.bare,Un.kept hk,⟨_,x.toInCall.ns,λi y v h1 h2 h3=> ?_⟩,λy c h=>⟨_,x.cell y c h⟩,e0.hok.fresh (AN _),λy c h=> ?_,λp hp=>absurd (show p∈([]:List (AB×Obj)) from hp) (by simp),e0.hok.kept hk, ?_⟩
 ·exact name_of_addr x.apart (PySem.mem_of_lookup h1) (PySem.mem_of_lookup h2)
 ·have hy:scope.names.lookup y=ξ .cell\/scope.names.lookup y=ξ .free:=hy
  rcases hy with hy|hy
  ·exact b4O hy
  ·exact absurd rfl (S.nofree _ (PySem.mem_of_lookup hy))
 ·exact BG (x.above y c (PySem.mem_of_lookup h))
 ·have hi:i<vs.length:=by
   unfold a3g at h2
   by_cases hi:i<vs.length
   ·exact hi
   ·rw [List.getElem?_append_right (by simpa using hi)] at h2
    rw [List.getElem?_replicate] at h2;split at h2<;>cases h2
  have ha:vs[i]?=ξ v:=by
   unfold a3g at h2;rw [BE (by simpa using hi),Az] at h2
   cases e:vs[i]? with
   |none=>rw [e] at h2;cases h2
   |some a=>rw [e] at h2;cases h2;rfl
  obtain⟨u,hu,rv⟩:=r.get ha;have hp:ps[i]?=ξ y:=by
   rw [<-S.pre,List.getElem?_take_of_lt (by lia)];exact h1
  have ndP:ps.Nodup:=by rw [<-S.pre];exact S.nd.sublist (List.take_sublist _ _)
  refine⟨u,rv, ?_⟩;rcases S.par y (BA hp) with k|k
  ·exact .inl ⟨k,b2A ndP hp hu k⟩
  ·obtain⟨c,e⟩:=b4O (n:=s.heap.objs.size+1) k;refine .inr ⟨.inl k,c,e, ?_⟩;have q:=x.cell y c e;rw [b2y ndP hp hu (by show scope.names.lookup y≠_;rw [k];decide)] at q
   exact q
 ·exact e0.hok.fresh (BG (x.above y c (PySem.mem_of_lookup h)))
 ·unfold a3g
  show _=N.length
  rw [AW,AZ,List.length_replicate]
  lia
theorem c4V{CX:CXT}{P:AJ}{w:AH}{K:AE}{mg:Str->Υ AA}{base:Heap}{k:Nat}{f:AB}{name qual:Str}{params:Arguments}{body:List Stmt}{scope:Scope}{dV kV doc pm cdv ct oc:AA}{an od:Υ AB}
 {osl:Array (Υ AA)} {N ps:List Str} {sp:Sp} (lk:K.lookup f=ξ ⟨oc,od,.func (PySem.W.fnOf name qual params body scope dV kV doc pm an cdv ct),osl⟩) (hcd:PySem.W.codeIn K cdv qual=true) (S:i4 N ps scope)
 (len:∀vs H Q E,sp vs H Q E->vs.length=ps.length)
 (hbody:∀(A:AM) (outer:List Env) (s:AC) (H:Hp) (vs:List V) (Q:VK) (E:XK),W9 k (A.deeper (envOfC qual scope s.heap.objs.size f cdv))->sp vs H Q E->
  ∃t,PSs (a5q CX P w K mg base N qual scope f cdv A outer s H E) body t/\t {nx:=λ_ H'=>Q .non H',rt:=Q} (a3g N vs) H):
 a1v P w K mg base CX (k+1) f (PySem.W.fnOf name qual params body scope dV kV doc pm an cdv ct) ps sp:=by
 refine⟨len,λA outer s H args us vs Q E hr e0 hb r hsp=> ?_⟩
 have hl:=len _ _ _ _ hsp
 have KX:K.In s.heap:=e0.mod.kin.keeps λb o e=>(e0.bs b o e).1
 have lim:s.heap.NoLimit:=e0.mod.nolimit.keeps λb o e=>(e0.bs b o e).1
 have hkind:∀y∈ps.zip us,scope.names.lookup y.1=ξ .local\/(scope.names.lookup y.1=ξ .cell/\((cellsFrom (s.heap.objs.size+1) scope.names []).lookup y.1).isSome=true):=λ⟨n,v⟩ hy=>by
  rcases S.par n (List.of_mem_zip hy).1 with q|q
  ·exact .inl q
  ·exact .inr ⟨q,PySem.W.cellsFrom_some _ _ _ (.inl q)⟩
 refine codeAny_call_function hr.depth (KX _ _ lk) rfl S.co S.gen rfl (PySem.W.codeRec_of KX hcd) (hb _ _ _ _ ?_)
 refine wpAny_newFunctionEnv_cells S.kind hkind λenv he s1 x=> ?_
 subst he
 refine⟨lim.keeps x.toInCall.keep,codeAny_func ?_⟩
 obtain⟨t,ht,hq⟩:=hbody A outer s H vs Q E (hr.deeper _) hsp
 have I:m6 (a5q CX P w K mg base N qual scope f cdv A outer s H E) [] (a3g N vs) H s1:=b9x S hr.hd e0 hl r x
 refine wpAny_mono (ht [] s1 (a3g N vs) H _ I hq) (λfl s' hs=> ?_) λe s' hs=>hs
 have fin:∀{σ':St} {H':Hp} {v:V} {u:AA},m6 (a5q CX P w K mg base N qual scope f cdv A outer s H E) [] σ' H' s'->z7 v u->Q v H'->CE outer P w H s Q u s':=
  λ {σ' H' v u} J rv q=>⟨v,H',J.os,J.bare,J.base,J.hok,rv,q⟩
 cases fl with
 |ret u=>
  obtain⟨v,σ',H',J,rv,q⟩:=hs
  exact fin J rv q
 |next=>
  obtain⟨σ',H',J,q⟩:=hs
  exact fin (v:=V.non) (u:=Value.none) J rfl q
 |brk=>
  obtain⟨_,_,_,q⟩:=hs
  exact False.elim q
 |cont=>
  obtain⟨_,_,_,q⟩:=hs
  exact False.elim q
section
variable {X:Cx}{x:Str}{p pos:Pos}{e:AF}{es:List AF}{t:TA}{id T:String}{r:List V->Hp->VK->Prop}
def tCB(r:List V->Hp->VK->Prop)(t:TA):TE:=λσ H Q=>t σ H λvs H1=>r vs H1 Q
theorem a8j(hc:T4 X (.builtin id) r)(hg:Gl X x)(hm:X.mg x=ζ)(hv:bootBuiltins x=ξ (.builtin id))(ha:PA X (e::es) t)(hn:x≠"__name__":=by decide)(hdb:Δ x:=by decide)
 (he:Ψ e es X.env:=by rfl) (hpl:Φ₁ pos es X.env:=by rfl):PE X (.Call (.Name x p) (e::es) [] pos) (tCB r t):=by
 intro pins s σ H Q I h
 refine wpAny_Call_Name_kw (b1c I hg hm hv ?_ hn hdb)
 exact PyProof.Rows.callWith_builtin1 (R1 (ha pos pins s σ H _ I h) λus s1 h0=>u8 h0 λvs H1 I1 r1 q1=>hc pins s1 σ H1 vs us Q I1 r1 q1) he hpl
theorem b3a(hc:T4 X (.type T) r)(hg:Gl X x)(hm:X.mg x=ζ)(hv:bootBuiltins x=ξ (.type T))(ha:PA X (e::es) t)(hn:x≠"__name__":=by decide)(hdb:Δ x:=by decide)
 (he:Ψ e es X.env:=by rfl) (hpl:Φ₁ pos es X.env:=by rfl):PE X (.Call (.Name x p) (e::es) [] pos) (tCB r t):=by
 intro pins s σ H Q I h
 refine wpAny_Call_Name_kw (b1c I hg hm hv ?_ hn hdb)
 exact PyProof.Rows.callWith_type1 (R1 (ha pos pins s σ H _ I h) λus s1 h0=>u8 h0 λvs H1 I1 r1 q1=>hc pins s1 σ H1 vs us Q I1 r1 q1) he hpl
end
end L2
namespace HT
open PySem PyProof.Rows
section
open PySem.SeqAt
open PySem.AutoSeq1 (wpAny_loadPart')
open PySem.MeetsSeq PySem.MeetsSeq2 PySem.MeetsSeq3
end
section
variable {prog:AJ}{w:AH}{A:AM}{E:AA->AC->Prop}{s:AC}
theorem cat_tup{t b:AB}{vs ws:List AA}{Q:AA->AC->Prop}(ht:IsTup s.heap t vs.toArray)(hb:IsTup s.heap b ws.toArray)(hv:vs≠[])
 (h1:ws=[]->Q (.ref t) s) (h2:ws≠[]->Q (.ref s.heap.objs.size) {s with heap:=s.heap.push {cls:= .type "tuple",data:= .seq (vs++ws).toArray}})
 (hsz:vs.length+ws.length<=AL):AI (model prog w) A (binaryOp .Add (.ref t) (.ref b)) Q E s:=by
 obtain⟨⟨cls,dd,data,sl⟩,ho,hc,n,hd⟩:=id ht
 obtain⟨⟨cls2,dd2,data2,sl2⟩,ho2,hc2,n2,hd2⟩:=id hb
 simp only at hc hd hc2 hd2
 subst hc hd hc2 hd2
 have e:vs.toArray++ws.toArray=(vs++ws).toArray:=by simp
 by_cases hw:ws=[]
 ·exact concat_meets ⟨_,ho,rfl⟩ ⟨_,ho2,rfl⟩ noFill_tuple_add seq_tuple_add PySem.F.slot_tuple_add PySem.F.entry_tuple_add (PySem.F.args_tuple_add_2 _ _)
   (tuple_addW1 t b vs.toArray ws.toArray n n2 dd dd2 sl sl2 (by simpa using hv) (by simp [hw])) ⟨ho,ho2,h1 hw⟩
 ·refine concat_meets ⟨_,ho,rfl⟩ ⟨_,ho2,rfl⟩ noFill_tuple_add seq_tuple_add PySem.F.slot_tuple_add PySem.F.entry_tuple_add (PySem.F.args_tuple_add_2 _ _)
   (tuple_addW2 t b vs.toArray ws.toArray n n2 dd dd2 sl sl2 (by simpa using hv) (by simpa using hw) (by rw [Aj,Aj];exact hsz)) ⟨ho,ho2, ?_⟩
  rw [e]
  exact h2 hw
def sIx(n d:Nat):Υ Int->Nat
 |none=>d
 |some v=>if v<0 then(v+(n:Int)).toNat else min v.toNat n
theorem sIx_none(n d:Nat):sIx n d ζ=d:=rfl
theorem sIx_nat(n d k:Nat):sIx n d (ξ (k:Int))=min k n:=by
 show(if(k:Int)<0 then((k:Int)+(n:Int)).toNat else min (k:Int).toNat n)=min k n
 rw [if_neg (by lia),BI]
theorem sIx_le(n d:Nat)(hd:d<=n)(o:Υ Int):sIx n d o<=n:=by
 cases o with
 |none=>exact hd
 |some v=>
  show(if v<0 then(v+(n:Int)).toNat else min v.toNat n)<=n
  by_cases hv:v<0
  ·rw [if_pos hv];lia
  ·rw [if_neg hv];exact Nat.min_le_right _ _
theorem b7O(v:Int)(n d:Nat):(if v<0 then max (v+(n:Int)) 0 else min v (n:Int))=((sIx n d (ξ v):Nat):Int):=by
 show(if v<0 then max (v+(n:Int)) 0 else min v (n:Int))=(((if v<0 then(v+(n:Int)).toNat else min v.toNat n):Nat):Int)
 by_cases hv:v<0
 ·simp only [if_pos hv];lia
 ·simp only [if_neg hv];lia
theorem b6u(lo hi:Υ Int)(n:Nat):Builtin.Slice.sliceAdjust lo hi 1 (n:Int)=(((sIx n 0 lo:Nat):Int),((sIx n n hi:Nat):Int)):=by
 have h1:¬((1:Int)<0):=by lia
 unfold Builtin.Slice.sliceAdjust;simp only [h1,if_false];refine Prod.ext ?_ ?_
 ·cases lo with
  |none=>rfl
  |some v=>exact b7O v n 0
 ·cases hi with
  |none=>rfl
  |some v=>exact b7O v n n
theorem b7m(i j:Nat):Builtin.Slice.slicePlaces (i:Int) (j:Int) 1=j - i:=by
 unfold Builtin.Slice.slicePlaces;have h1:(1:Int)>0:=by lia
 simp only [h1,if_true,Int.ediv_one];split<;>lia
theorem b1M{v:AA}{o:Υ Int}{Q:Υ Int->AC->Prop}(p:IsPart v o)(h:Q o s):AI (model prog w) A (Builtin.Slice.slicePartIndex v) Q E s:=by
 cases p with
 |none=>exact slicePart_none h
 |int i t=>exact slicePart_int h
theorem sliceApplied_gen{sl:AB}{vl vu:AA}{lo hi:Υ Int}{n:Nat}{Q:Int×Int×Nat->AC->Prop}(hs:s.heap.IsSliceOf sl vl vu .none)(pl:IsPart vl lo)(pu:IsPart vu hi)
 (h:Q (((sIx n 0 lo:Nat):Int),1,sIx n n hi - sIx n 0 lo) s):AI (model prog w) A (Builtin.Slice.sliceApplied (.ref sl) (pure (n:Int))) Q E s:=by
 obtain⟨os,hos,hcs,hds⟩:=id hs
 unfold Builtin.Slice.sliceApplied Builtin.Slice.sliceFields
 refine AO (AO (wpAny_field hos hds (x:=vl) rfl (AO (wpAny_field hos hds (x:=vu) rfl (AO (wpAny_field hos hds (x:= .none) rfl (Ae ?_)))))))
 refine AO (slicePart_none ?_)
 show AI _ _ (if((1:Int)==0)=true then _ else _) _ _ s
 rw [if_neg (by decide)]
 refine AO (b1M pl (AO (b1M pu (AO (Ae ?_)))))
 show AI _ _ (match Builtin.Slice.sliceAdjust lo hi 1 (n:Int) with|(lo,hi)=>pure (lo,(1:Int),Builtin.Slice.slicePlaces lo hi 1)) _ _ s
 rw [b6u lo hi n]
 show AI _ _ (pure (((sIx n 0 lo:Nat):Int),(1:Int),Builtin.Slice.slicePlaces ((sIx n 0 lo:Nat):Int) ((sIx n n hi:Nat):Int) 1)) _ _ s
 rw [b7m]
 exact Ae h
theorem c18(xs:Array AA)(i k:Nat):((Ab k).filterMap λ(m:Nat)=>xs[((i:Int)+(m:Int)*1).toNat]?).toArray=((xs.toList.drop i).take k).toArray:=by
 have e:(λ(m:Nat)=>xs[((i:Int)+(m:Int)*1).toNat]?)=λm=>xs[i+m]?:=by
  funext m
  have:((i:Int)+(m:Int)*1).toNat=i+m:=by lia
  rw [this]
 rw [e];have:=pick_run xs i k;rw [List.filterMap_map] at this;have e2:((λx=>xs[x]?)∘λx=>i+x)=λm=>xs[i+m]?:=rfl;rw [e2] at this;rw [this]
theorem getItem_tuple_cut{t sl:AB}{items:Array AA}{vl vu:AA}{lo hi:Υ Int}{Q:AA->AC->Prop}(ht:IsTup s.heap t items)(hs:s.heap.IsSliceOf sl vl vu .none)(pl:IsPart vl lo)(pu:IsPart vu hi)
 (hw:¬(sIx items.size 0 lo=0/\sIx items.size items.size hi=items.size))
 (h:Q (.ref s.heap.objs.size) {s with heap:=s.heap.push {cls:= .type "tuple",data:= .seq ((items.toList.drop (sIx items.size 0 lo)).take (sIx items.size items.size hi - sIx items.size 0 lo)).toArray}})
 (hsz:items.size<=AL):AI (model prog w) A (getItem (.ref t) (.ref sl)) Q E s:=by
 have htake:sizeOk (.seq ((items.toList.drop (sIx items.size 0 lo)).take (sIx items.size items.size hi - sIx items.size 0 lo)).toArray):=by
  show((items.toList.drop (sIx items.size 0 lo)).take (sIx items.size items.size hi - sIx items.size 0 lo)).toArray.size<=AL;rw [Aj,List.length_take,List.length_drop,Array.length_toList]
  lia
 have hj:sIx items.size items.size hi<=items.size:=sIx_le _ _ (AN _) hi
 obtain⟨os,hos,hcs,hds⟩:=id hs
 have hTs:s.TypeIs (.ref sl) "slice":=⟨os,hos,hcs⟩
 unfold getItem
 try with_reducible refine wpAny_holding ?_
 first|refine AO (Ae ?_)|skip
 refine AO (wpAny_sequenceKey ht.typeIs (by decide) ?_)
 refine AO (wpAny_callSpecial?_slot (name:=AQ "__getitem__") ht.typeIs PyProof.Rows.slot_tuple_getitem
  (wpAny_call_entry PyProof.Rows.slot_tuple_getitem ht.typeIs entry_tuple_getitem ?_ (args_tuple_getitem _ _)))
 show AI _ _ (Builtin.Tuple.tupleItemsOf (.ref t)>>=_) _ _ s
 refine AO (tupleItemsOf_ ht ?_)
 refine AO (wpAny_typeOf hTs ?_)
 rw [if_pos (by decide)]
 refine AO (sliceApplied_gen hs pl pu ?_)
 have hno:¬((((sIx items.size 0 lo:Nat):Int)==0 &&(1:Int)==1 &&(sIx items.size items.size hi - sIx items.size 0 lo)==items.size)=true):=by
  intro q;rw [χ,χ] at q;have q1:((sIx items.size 0 lo:Nat):Int)=0:=eq_of_beq q.1.1;have q2:sIx items.size items.size hi - sIx items.size 0 lo=items.size:=eq_of_beq q.2;exact hw ⟨by lia,by lia⟩
 show AI _ _ (if(((sIx items.size 0 lo:Nat):Int)==0 &&(1:Int)==1 &&(sIx items.size items.size hi - sIx items.size 0 lo)==items.size)=true then _ else _) _ _ s
 rw [if_neg hno,c18]
 first
  |exact AO (m:=Builtin.Tuple.tupleExact _) (wpAny_newObj_type (Ae ⟨_,rfl,Ae h⟩) htake)
  |exact AO (m:=Builtin.Tuple.tupleExact _) (wpAny_newObj_type (AO (Ae (Ae ⟨_,rfl,Ae h⟩))) htake)
  |exact AO (AO (m:=Builtin.Tuple.tupleExact _) (wpAny_newObj_type (Ae (Ae ⟨_,rfl,Ae h⟩)) htake))
  |exact AO (AO (m:=Builtin.Tuple.tupleExact _) (wpAny_newObj_type (Ae ⟨_,rfl,Ae h⟩) htake))
end
end HT
namespace L2
open PySem PySem.Spec PyProof.Rows
abbrev TO:=St->Hp->(Υ Int->Hp->Prop)->Prop
def PO(X:Cx)(e:Υ AF)(t:TO):Prop:=
 ∀pins s σ (H:Hp) (Q:Υ Int->Hp->Prop),m6 X pins σ H s->t σ H Q->
  AI (model X.prog X.w) X.A (evalPart e X.env) (λu s'=>∃o H',m6 X pins σ H' s'/\IsPart u o/\Q o H') X.xe s
def c4D:TO:=λ_ H Q=>Q ζ H
def c7D(t:TE):TO:=λσ H Q=>t σ H λx H1=>∃i,x= .int i/\Q (ξ i) H1
section
variable {X:Cx}{e:AF}{te:TE}{lo hi:Υ AF}{tl th:TO}{pos p2:Pos}
theorem c4h:PO X ζ c4D:=by
 ext v
 rw [evalPart_none];exact Ae ⟨ζ,H,I,.none,h⟩
theorem c4i(h:PE X e te):PO X (ξ e) (c7D te):=by
 intro pins s σ H Q I hw;rw [evalPart_some];refine R1 (h pins s σ H _ I hw) λu s1 h0=>u8 h0 λx H1 I1 r1 q1=> ?_;obtain⟨i,rfl,q⟩:=q1;obtain⟨t,rfl⟩:=r1;exact⟨ξ i,H1,I1,.int i t,q⟩
def SlR(X:Cx)(r:V->Υ Int->Υ Int->Hp->VK->Prop):Prop:=
 ∀pins s σ (H:Hp) (x:V) (v vl vu:AA) (lo hi:Υ Int) (sl:AB) (Q:VK),m6 X pins σ H s->z7 x v->s.heap.IsSliceOf sl vl vu .none->IsPart vl lo->IsPart vu hi->r x lo hi H Q->
  ∃T id,typeLookup (.type T) "__getitem__"=pure (ξ (.builtin id))/\s.TypeIs v T/\AI (model X.prog X.w) X.A (getItem v (.ref sl)) (EP X pins σ Q) X.xe s
def tSl(r:V->Υ Int->Υ Int->Hp->VK->Prop)(te:TE)(tl th:TO):TE:=λσ H Q=>te σ H λx H1=>tl σ H1 λl H2=>th σ H2 λu H3=>r x l u H3 Q
theorem c17{r:V->Υ Int->Υ Int->Hp->VK->Prop}(hr:SlR X r)(he:PE X e te)(hl:PO X lo tl)(hu:PO X hi th):PE X (.Subscript e (.Slice lo hi ζ p2) pos) (tSl r te tl th):=by
 ext v
 refine Subscript_ (R1 (he pins s σ H _ I h) λv s1 h0=>u8 h0 λx H1 I1 r1 q1=> ?_);refine wpAny_Slice (R1 (hl pins s1 σ H1 _ I1 q1) λvl s2 h0=>u8 h0 λl H2 I2 pl q2=>R1 (hu pins s2 σ H2 _ I2 q2) λvu s3 h0=>u8 h0 λu H3 I3 pu q3=> ?_);rw [evalPart_none];refine Ae ?_;have I4:m6 X pins σ H3 {s3 with heap:=s3.heap.push {cls:= .type "slice",data:= .fields #[vl,vu,.none]}}:=I3.kept (t':=s3.toks) λb ob q=>Am _ q
 obtain⟨T,id,hT,ht,hg⟩:=hr pins {s3 with heap:=s3.heap.push {cls:= .type "slice",data:= .fields #[vl,vu,.none]}} σ H3 x v vl vu l u s3.heap.objs.size Q I4 r1 (Heap.IsSliceOf.new ..) pl pu q3
 show AI (model X.prog X.w) X.A (subscriptTail e (.Slice lo hi ζ p2) v (.ref s3.heap.objs.size)) (EP X pins σ Q) X.xe {s3 with heap:=s3.heap.push {cls:= .type "slice",data:= .fields #[vl,vu,.none]}}
 exact tail_any (ops:=[.ref s3.heap.objs.size,v]) ht hT hg (by with_unfolding_all rfl)
def c3h(xs:List V)(lo hi:Υ Int):List V:=(xs.drop (HT.sIx xs.length 0 lo)).take (HT.sIx xs.length xs.length hi - HT.sIx xs.length 0 lo)
theorem b4T(xs:List V)(lo hi:Υ Int):(c3h xs lo hi).length<=xs.length:=by
 unfold c3h;rw [List.length_take,List.length_drop]
 lia
def c73(K:AE):V->Υ Int->Υ Int->Hp->VK->Prop:=λx lo hi H Q=>∃a xs,x= .ref a/\SqT K H a xs/\
 ¬(HT.sIx xs.length 0 lo=0/\HT.sIx xs.length xs.length hi=xs.length)/\∀p,H p=ζ->Q (.ref p) (upd H p (.tup (c3h xs lo hi)))
theorem c6B:SlR X (c73 X.K):=by
 ext w
 refine⟨"tuple",_,PyProof.Rows.slot_tuple_getitem.lookup,ht.typeIs, ?_⟩;refine HT.getItem_tuple_cut ht hs pl pu (by rw [hlen];exact hw) ?_ (by rw [hlen];exact hz)
 rw [hlen];refine⟨.ref s.heap.objs.size,_,I.laid (t':=s.toks) (o:= .tup (c3h xs lo hi)) (λb ob q=>Am _ q) (AN _) ?_,rfl,q _ (I.hok.fresh (AN _))⟩;exact⟨Nat.le_trans (b4T xs lo hi) hz,_,(r.drop (HT.sIx xs.length 0 lo)).take (HT.sIx xs.length xs.length hi - HT.sIx xs.length 0 lo),IsTup.new _ _⟩
def c7p(K:AE):R2:=λx y H Q=>∃a b xs ys,x= .ref a/\y= .ref b/\SqT K H a xs/\SqT K H b ys/\xs≠[]/\xs.length+ys.length<=AL/\
 (ys=[]->Q (.ref a) H)/\(ys≠[]->∀p,H p=ζ->Q (.ref p) (upd H p (.tup (xs++ys))))
theorem v7.nil_iff{xs:List V}{us:List AA}(r:v7 xs us):us=[]↔xs=[]:=by
 cases r with
 |nil=>simp
 |cons _ _=>simp
theorem c37:OpR X (binaryOp .Add) (c7p X.K):=by
 ext u
 obtain⟨a,b,xs,ys,rfl,rfl,ha,hb,hx,hz,q1,q2⟩:=h;cases rx;cases ry;obtain⟨its,r1,p1,_⟩:=I.tuple ha;obtain⟨its2,r2,p2,_⟩:=I.tuple hb;refine HT.cat_tup p1 p2 (λz=>hx (r1.nil_iff.mp z)) (λz=>⟨.ref a,H,I,rfl,q1 (r2.nil_iff.mp z)⟩) (λz=> ?_) (by rw [<-r1.length,<-r2.length];exact hz)
 refine⟨.ref s.heap.objs.size,_,I.laid (t':=s.toks) (o:= .tup (xs++ys)) (λb ob q=>Am _ q) (AN _) ?_,rfl,q2 (λw=>z (r2.nil_iff.mpr w)) _ (I.hok.fresh (AN _))⟩;exact⟨by rw [AW];exact hz,_,r1.append r2,IsTup.new _ _⟩
end
def ixN(n:Nat)(i:Int):Υ Nat:=if 0<=i then(if i<n then ξ i.toNat else ζ) else if -(n:Int)<=i then ξ (i+n).toNat else ζ
def atI{α:Type}(xs:List α)(i:Int):Υ α:=(ixN xs.length i).bind λj=>xs[j]?
theorem b8f{n:Nat}{i:Int}{j:Nat}(h:ixN n i=ξ j):seqIndex? i n=ξ j/\j<n/\ -(n:Int)<=i/\i<n:=by
 unfold ixN at h
 by_cases h0:0<=i
 ·rw [if_pos h0] at h
  by_cases h1:i<n
  ·rw [if_pos h1] at h;have e:i.toNat=j:=Option.some.inj h;exact⟨by rw [seqIndex_of h0 h1,e],by lia,by lia,h1⟩
  ·rw [if_neg h1] at h;cases h
 ·rw [if_neg h0] at h
  by_cases h1: -(n:Int)<=i
  ·rw [if_pos h1] at h;have e:(i+n).toNat=j:=Option.some.inj h;exact⟨by rw [seqIndex_neg (by lia) h1,e],by lia,h1,by lia⟩
  ·rw [if_neg h1] at h;cases h
theorem b3t{α:Type}{xs:List α}{i:Int}{v:α}(h:atI xs i=ξ v):∃j,seqIndex? i xs.length=ξ j/\xs[j]?=ξ v/\j<xs.length/\ -(xs.length:Int)<=i/\i<xs.length:=by
 unfold atI at h;cases e:ixN xs.length i with
 |none=>rw [e] at h;cases h
 |some j=>
  rw [e] at h;obtain⟨h1,h2,h3,h4⟩:=b8f e;exact⟨j,h1,h,h2,h3,h4⟩
def b7H(b:AF):Prop:=∀o i,subscripted b false o i=operate [o,i] (getItem o i)
def IxR(X:Cx)(r:R2):Prop:=
 ∀(value slice:AF) (pins:List (AB×Obj)) (s:AC) (σ:St) (H:Hp) (x y:V) (v u:AA) (Q:VK),m6 X pins σ H s->z7 x v->z7 y u->r x y H Q->
  subscripted slice false v u=operate [v,u] (getItem v u)->AI (model X.prog X.w) X.A (subscriptTail value slice v u) (EP X pins σ Q) X.xe s
def MtR(X:Cx)(id:String)(r:V->List V->Hp->VK->Prop):Prop:=
 ∀pins s σ (H:Hp) (x:V) (xs:List V) (v:AA) (us:List AA) (Q:VK),m6 X pins σ H s->z7 x v->v7 xs us->r x xs H Q->
  AI (model X.prog X.w) X.A (call (.builtin id) (v::us)) (EP X pins σ Q) X.xe s
section
variable {X:Cx}{a b:AF}{ta tb:TE}{pos:Pos}
theorem c7k{r:R2}(hr:IxR X r)(ha:PE X a ta)(hb:PE X b tb)(hs:b7H b):PE X (.Subscript a b pos) (tOp r ta tb):=by
 ext v
 exact Subscript_ (c5j ha hb I h λv u s2 x y H2 I2 rx ry q=>hr a b pins s2 σ H2 x y v u Q I2 rx ry q (hs _ _))
def c7Z(K:AE):R2:=λx y H Q=>∃p xs i v,x= .ref p/\y= .int i/\SqL K H p xs/\atI xs i=ξ v/\Q v H
def c71(K:AE):R2:=λx y H Q=>∃p xs i v,x= .ref p/\y= .int i/\SqT K H p xs/\atI xs i=ξ v/\Q v H
def c70:R2:=λx y H Q=>∃z i c,x= .str z/\y= .int i/\z.length<=AL/\atI z.cps.toList i=ξ c/\Q (.str ⟨#[c]⟩) H
theorem c3N:IxR X (c7Z X.K):=by
 intro value slice pins s σ H x y v u Q I rx ry h hs;obtain⟨p,xs,i,z,rfl,rfl,hq,he,q⟩:=h;cases rx;obtain⟨t,rfl⟩:=ry;obtain⟨its,r,pl,hz⟩:=I.list hq;obtain⟨j,h1,h2,h3,h4,h5⟩:=b3t he;obtain⟨w,ew,rw'⟩:=r.get h2;have hl:=r.length;have hn:=a7e;have fin:EP X pins σ Q w s:=⟨z,H,I,rw',q⟩
 by_cases h0:0<=i
 ·have hj:i.toNat=j:=by
   rw [seqIndex_of h0 h5] at h1;exact Option.some.inj h1
  exact item_listR pl.isList h0 (by lia) (by rw [hj];simpa using ew) fin hs
 ·have hj:(i+(its.toArray.size:Int)).toNat=j:=by
   rw [seqIndex_neg (by lia) h4] at h1
   rw [Aj,<-hl];exact Option.some.inj h1
  exact subscriptTail_builtinR (x:=w) pl.isList.typeIs slot_list_getitem.lookup
   (wpAny_getItem_list_neg (Q:=λr s'=>r=w/\EP X pins σ Q r s') pl.isList (by lia) (by rw [Aj]<;>lia) (by lia) (by rw [hj];simpa using ew) ⟨rfl,fin⟩) hs
theorem c5D:IxR X (c71 X.K):=by
 intro value slice pins s σ H x y v u Q I rx ry h hs;obtain⟨p,xs,i,z,rfl,rfl,hq,he,q⟩:=h;cases rx;obtain⟨t,rfl⟩:=ry;obtain⟨its,r,pl,hz⟩:=I.tuple hq;obtain⟨j,h1,h2,h3,h4,h5⟩:=b3t he;obtain⟨w,ew,rw'⟩:=r.get h2;have hl:=r.length;have hn:=a7e;have fin:EP X pins σ Q w s:=⟨z,H,I,rw',q⟩;exact subscriptTail_builtinR (x:=w) pl.typeIs slot_tuple_getitem.lookup
  (getItem_tuple (j:=j) (Q:=λr s'=>r=w/\EP X pins σ Q r s') pl (by lia) (by lia) (by rw [Aj,<-hl];exact h1) (by simpa using ew) ⟨rfl,fin⟩) hs
theorem c5C:IxR X c70:=by
 intro value slice pins s σ H x y v u Q I rx ry h hs;obtain⟨z,i,c,rfl,rfl,hz,he,q⟩:=h;obtain⟨t,rfl⟩:=rx;obtain⟨t',rfl⟩:=ry;obtain⟨j,h1,h2,h3,h4,h5⟩:=b3t he;have hl:z.cps.toList.length=z.length:=by simp [Str.length]
 rw [hl] at h1 h4 h5;have hn:=a7e;exact tail_any (typeIs_str s z t) slot_str_getitem.lookup (getItem_str (c:=c) (by
  have e1:decide (i< -(2 ^ 63:Int))=false:=decide_eq_false (by lia)
  have e2:decide (i>=2 ^ 63)=false:=decide_eq_false (by lia)
  rw [e1,e2,Bool.or_false]) (by rw [h1];simpa using h2) ⟨.str ⟨#[c]⟩,H,I.tok _,⟨_,rfl⟩,q⟩) hs
theorem b65(its:List AA)(n j:Nat)(u:AA):Obj.mapSeq (·.setIfInBounds j u) {cls:= .type "list",data:= .seq its.toArray n}={cls:= .type "list",data:= .seq (its.set j u).toArray n}:=by
 simp [Obj.mapSeq]
theorem m6.lst{pins:List (AB×Obj)}{σ:St}{H:Hp}{s:AC}{p:AB}{xs:List V}(I:m6 X pins σ H s)(h:H p=ξ (.lst xs)):
 ∃(its:List AA) (n:Nat),v7 xs its/\s.heap.get? p=ξ {cls:= .type "list",data:= .seq its.toArray n}/\xs.length<=AL:=by
 obtain⟨z,its,n,r,e⟩:=I.hok p _ h
 exact⟨its,n,r,e,z⟩
theorem m6.lstUpd{pins:List (AB×Obj)}{σ:St}{H:Hp}{s:AC}{p:AB}{xs ys:List V}{its its':List AA}{n n':Nat}{f:Obj->Obj}(I:m6 X pins σ H s)(h:H p=ξ (.lst xs))
 (ho:s.heap.get? p=ξ {cls:= .type "list",data:= .seq its.toArray n}) (hf:f {cls:= .type "list",data:= .seq its.toArray n}={cls:= .type "list",data:= .seq its'.toArray n'}) (r:v7 ys its') (hz:ys.length<=AL) (t:Nat):
 m6 X pins σ (upd H p (.lst ys)) {s with heap:=s.heap.update p f,toks:=t}:=by
 have e:(s.heap.update p f).get? p=ξ {cls:= .type "list",data:= .seq its'.toArray n'}:=by
  rw [Heap.get?_update_self f ho (by rw [hf]<;>rfl),hf]
 refine I.write (x:=p) (e:=p) (by rw [h];trivial) (.inl rfl) (λb u hb q=>(Heap.get?_update_other _ _ (Ne.symm hb)).trans q) ⟨_,e⟩ ?_
 exact⟨hz,its',n',r,e⟩
def c7s:V->V->V->Hp->(Hp->Prop)->Prop:=λo i v H Q=>∃p xs k j,o= .ref p/\i= .int k/\H p=ξ (.lst xs)/\ixN xs.length k=ξ j/\Q (upd H p (.lst (xs.set j v)))
theorem c2w:c6N X c7s:=by
 intro pins s σ H o i v ov iv u Q I ro ri rv h;obtain⟨p,xs,k,j,rfl,rfl,hp,hj,q⟩:=h;cases ro;obtain⟨t,rfl⟩:=ri;obtain⟨its,n,r,ho,hz⟩:=I.lst hp;obtain⟨h1,h2,h3,h4⟩:=b8f hj;have hl:=r.length;have hn:=a7e;have I':m6 X pins σ (upd H p (.lst (xs.set j v))) {s with heap:=s.heap.update p (Obj.mapSeq (·.setIfInBounds j u))}:=
  I.lstUpd hp ho (b65 its n j u) (r.set rv j) (by rw [List.length_set];exact hz) s.toks
 by_cases h0:0<=k
 ·have hk:k.toNat=j:=by
   rw [seqIndex_of h0 h4] at h1;exact Option.some.inj h1
  exact PySem.W.ki_setAt ho h0 (by lia) (by rw [Aj,<-hl];exact h4) (by rw [hk];exact⟨_,I',q⟩)
 ·have hk:(k+(its.toArray.size:Int)).toNat=j:=by
   rw [seqIndex_neg (by lia) h3] at h1
   rw [Aj,<-hl];exact Option.some.inj h1
  exact PySem.W.ki_setBack ho (by lia) (by rw [Aj,<-hl];exact h3) (by lia) (by rw [hk];exact⟨_,I',q⟩)
theorem b3v:T4 X (.builtin "len") (λxs H Q=>∃p ys,xs=[.ref p]/\(SqL X.K H p ys\/SqT X.K H p ys)/\Q (.int ys.length) H):=by
 intro pins s σ H xs us Q I r h;obtain⟨p,ys,rfl,hq,q⟩:=h;obtain⟨u,rfl,rx⟩:=a5f r;cases rx;have hn:=a7e;rcases hq with hq|hq
 ·obtain⟨its,r',pl,hz⟩:=I.list hq;have hlen:=r'.length;exact Calls.call_len_list pl.isList (by simp only [Aj]<;>lia) ⟨.int ys.length,H,I.tok _,⟨s.toks+1,by rw [Aj,hlen]⟩,q⟩
 ·obtain⟨its,r',pl,hz⟩:=I.tuple hq;have hlen:=r'.length;exact len_tuple pl (by simp only [Aj]<;>lia) ⟨.int ys.length,H,I.tok _,⟨s.toks+1,by rw [Aj,hlen]⟩,q⟩
theorem b3w:T4 X (.builtin "len") (λxs H Q=>∃z,xs=[.str z]/\z.length<=AL/\Q (.int z.length) H):=by
 intro pins s σ H xs us Q I r h;obtain⟨z,rfl,hz,q⟩:=h;obtain⟨u,rfl,t,rfl⟩:=a5f r;have hn:=a7e;exact len_str (by lia) ⟨.int z.length,H,I.tok _,⟨_,rfl⟩,q⟩
theorem b3x:T4 X (.type "list") (λxs H Q=>∃p ys,xs=[.ref p]/\(SqL X.K H p ys\/SqT X.K H p ys)/\∀l,H l=ζ->Q (.ref l) (upd H l (.lst ys))):=by
 intro pins s σ H xs us Q I r h;obtain⟨p,ys,rfl,hq,q⟩:=h;obtain⟨u,rfl,rx⟩:=a5f r;cases rx;have fin:∀(its:List AA),v7 ys its->ys.length<=AL->∀(h':Heap) (c':Nat),(∀b o',s.heap.get? b=ξ o'->h'.get? b=ξ o')->
  h'.get? s.heap.objs.size=ξ {cls:= .type "list",dict:=ζ,data:= .seq its.toArray c',slots:= #[]}->EP X pins σ Q (.ref s.heap.objs.size) {s with heap:=h'}:=λits r' hz h' c' kp e=>
  ⟨.ref s.heap.objs.size,_,I.laid (t':=s.toks) kp (AN _) (show Q1 X.prog X.w _ h' _ (.lst ys) from⟨hz,its,c',r',e⟩),rfl,q _ (I.hok.fresh (AN _))⟩
 rcases hq with hq|hq
 ·obtain⟨its,r',pl,hz⟩:=I.list hq;have hlen:=r'.length;obtain⟨o,ho,hc,n,hd⟩:=pl.isList;exact call_list_seq p (.inl rfl) ho hc hd (λh' c' kp e=>fin its r' hz h' c' kp e) (by simp only [Aj]<;>lia)
 ·obtain⟨its,r',pl,hz⟩:=I.tuple hq;have hlen:=r'.length;obtain⟨o,ho,hc,n,hd⟩:=pl;exact call_list_seq p (.inr rfl) ho hc hd (λh' c' kp e=>fin its r' hz h' c' kp e) (by simp only [Aj]<;>lia)
theorem b15:T4 X (.type "tuple") (λxs H Q=>∃p ys,xs=[.ref p]/\((SqL X.K H p ys/\∀l,H l=ζ->Q (.ref l) (upd H l (.tup ys)))\/(SqT X.K H p ys/\Q (.ref p) H))):=by
 intro pins s σ H xs us Q I r h;obtain⟨p,ys,rfl,h⟩:=h;obtain⟨u,rfl,rx⟩:=a5f r;cases rx;rcases h with⟨hq,q⟩|⟨hq,q⟩
 ·obtain⟨its,r',pl,hz⟩:=I.list hq;have hlen:=r'.length;refine call_tuple_list pl.isList (λh' kp=> ?_) (by simp only [Aj]<;>lia)
  have I1:m6 X pins σ H {s with heap:=h'}:=I.kept (t':=s.toks) kp
  have I2:m6 X pins σ (upd H h'.objs.size (.tup ys)) {s with heap:=h'.push {cls:= .type "tuple",data:= .seq its.toArray}}:=
   I1.laid (t':=s.toks) (λb o e=>Am _ e) (AN _) (show Q1 X.prog X.w _ _ _ (.tup ys) from⟨hz,its,r',IsTup.new _ _⟩)
  exact⟨.ref h'.objs.size,_,I2,rfl,q _ (I1.hok.fresh (AN _))⟩
 ·obtain⟨its,r',pl,hz⟩:=I.tuple hq;exact call_tuple_same pl ⟨.ref p,H,I,rfl,q⟩
def tyV(K:AE)(T:String)(x:V)(H:Hp):Prop:=match x with
 | .str _=>T="str"
 | .int _=>T="int"
 | .ref p=>(T="list"/\∃xs,SqL K H p xs)\/(T="tuple"/\∃o,K.lookup p=ξ o/\o.cls= .type "tuple"/\o.dict=ζ)\/
  (T="dict"/\((∃kvs,H p=ξ (.dK kvs))\/∃kvs,H p=ξ (.dT kvs)))\/(T="set"/\∃S n,H p=ξ (.set S n))
 |_=>False
theorem c2Q{pins:List (AB×Obj)}{σ:St}{H:Hp}{s:AC}{T:String}{x:V}{v:AA}(I:m6 X pins σ H s)(r:z7 x v)(ty:tyV X.K T x H):
 s.TypeIs v T/\∀a,v= .ref a->∃ob,s.heap.get? a=ξ ob/\ob.dict=ζ:=by
 cases x with
 |str z=>
  obtain⟨t,rfl⟩:=r
  cases(show T="str" from ty)
  exact⟨typeIs_str s z t,λ_ e=>nomatch e⟩
 |int i=>
  obtain⟨t,rfl⟩:=r
  cases(show T="int" from ty)
  exact⟨typeIs_int s i t,λ_ e=>nomatch e⟩
 |ref p=>
  cases r
  rcases ty with⟨rfl,xs,hq⟩|⟨rfl,o,hk,hc,hd⟩|⟨rfl,hk⟩|⟨rfl,S,n,hk⟩
  ·obtain⟨its,_,pl,_⟩:=I.list hq
   refine⟨pl.isList.typeIs,λa e=> ?_⟩
   cases e
   obtain⟨o,n,e,c,hd,_⟩:=pl
   exact⟨o,e,hd⟩
  ·refine⟨⟨o,I.kIn p o hk,hc⟩,λa e=> ?_⟩
   cases e
   exact⟨o,I.kIn _ o hk,hd⟩
  ·have z:∃o,s.heap.get? p=ξ o/\o.ExactDict:=by
    rcases hk with⟨kvs,hk⟩|⟨kvs,hk⟩
    ·obtain⟨_,_,_,_,o,_,_,e,ex,_⟩:=I.hok p _ hk;exact⟨o,e,ex⟩
    ·obtain⟨_,_,_,_,o,_,_,e,ex,_⟩:=I.hok p _ hk;exact⟨o,e,ex⟩
   obtain⟨o,e,ex⟩:=z;refine⟨⟨o,e,ex.1⟩,λa e2=> ?_⟩;cases e2;exact⟨o,e,ex.2.1⟩
  ·obtain⟨o,_,_,_,e,ex,_⟩:=I.hok p _ hk
   refine⟨⟨o,e,ex.1⟩,λa e2=> ?_⟩
   cases e2
   exact⟨o,e,ex.2.1⟩
 |_=>exact False.elim ty
def c77(K:AE)(T:String)(r:V->List V->Hp->VK->Prop)(to:TE):TE:=λσ H Q=>to σ H λx H1=>tyV K T x H1/\r x [] H1 Q
def tBM(K:AE)(T:String)(r:V->List V->Hp->VK->Prop)(to:TE)(t:TA):TE:=λσ H Q=>to σ H λx H1=>tyV K T x H1/\t σ H1 λxs H2=>r x xs H2 Q
variable {o e:AF}{es:List AF}{to:TE}{t:TA}{name:Str}{apos cpos:Pos}{T id:String}{r:V->List V->Hp->VK->Prop}
theorem c6a(pa:PlainAttrs T)(slot:Slot T name id)(hty:typeOf (.builtin id)=pure (.type "method_descriptor"))(hm:MtR X id r)(ho:PE X o to)
 (hbase:attributeBase o name X.env (eval o X.env)=eval o X.env:=by rfl) (hline:(apos.endLine==cpos.line)=true:=by rfl):PE X (.Call (.Attribute o name apos) [] [] cpos) (c77 X.K T r to):=by
 intro pins s σ H Q I h
 refine wpAny_Call_method0_late hbase hline (R1 (ho pins s σ H _ I h) λv s1 h0=>a6k h0 λx H1 I1 r1 ty q1=> ?_)
 obtain⟨h1,h2⟩:=c2Q I1 r1 ty
 exact⟨T,id,pa,slot,hty,h1,h2,Calls.callWith_builtin rfl (PySem.evalArgs_none (hm pins s1 σ H1 x [] v [] Q I1 r1 .nil q1))⟩
theorem b5W(pa:PlainAttrs T)(slot:Slot T name id)(hty:typeOf (.builtin id)=pure (.type "method_descriptor"))(hm:MtR X id r)(ho:PE X o to)(ha:PA X (e::es) t)
 (hbase:attributeBase o name X.env (eval o X.env)=eval o X.env:=by rfl)
 (hfew:((backTo cpos (AK (e::es) X.env)).all (λx=> !x.1)&&(backToKw cpos (keywordEach [] X.env)).all (λx=>x.1.isSome)
  && decide ((e::es).length+([]:List Keyword).length+(if([]:List Keyword).isEmpty then 0 else 1)<30))=true:=by rfl)
 (hline:(apos.endLine==cpos.line)=true:=by rfl) (hs:Ψ e es X.env:=by rfl) (hplain:Φ₁ cpos es X.env:=by rfl):
 PE X (.Call (.Attribute o name apos) (e::es) [] cpos) (tBM X.K T r to t):=by
 intro pins s σ H Q I h
 refine wpAny_Call_method_late hbase hfew hline rfl (R1 (ho pins s σ H _ I h) λv s1 h0=>a6k h0 λx H1 I1 r1 ty q1=> ?_)
 obtain⟨h1,h2⟩:=c2Q I1 r1 ty
 refine⟨T,id,pa,slot,hty,h1,h2, ?_⟩
 have hA:=ha cpos pins s1 σ H1 _ I1 q1
 rw [hs] at hA ⊢
 refine Calls.callWith_builtin (by show(false||(backTo cpos (AK es X.env)).any (·.1))=false;rw [hplain]<;>rfl) (Calls.evalArgs_plain ?_)
 exact R1 hA λus s2 h0=>u8 h0 λvs H2 I2 r2 q2=>hm pins s2 σ H2 x vs v us Q I2 r1 r2 q2
end
def MtM(X:Cx)(id:String)(r:V->List V->Hp->VK->Prop):Prop:=
 ∀pins s σ (H:Hp) (x:V) (xs:List V) (v:AA) (us:List AA) (Q:VK),m6 X pins σ H s->z7 x v->v7 xs us->r x xs H Q->
  AI (model X.prog X.w) X.A (call (.builtin id) (v::us)) (EP X pins σ Q) X.xe s
theorem v7.one:∀{x:V} {us:List AA},v7 [x] us->∃u,us=[u]/\z7 x u
 |_,_,.cons r .nil=>⟨_,rfl,r⟩
theorem v7.zero:∀{us:List AA},v7 [] us->us=[]
 |_,.nil=>rfl
theorem v7.rep{xs:List V}{us:List AA}(h:v7 xs us):∀k:Nat,v7 (AV k xs).flatten (AV k us).flatten
 |0=> .nil
 |k+1=>by
  rw [Ac,Ac,List.flatten_cons,List.flatten_cons];exact v7.append h (v7.rep h k)
theorem a81(its:List AA):∀(k:Nat) (acc:List AA),
 List.foldl (λx1 x2=>x1++x2) acc.toArray (AV k its.toArray)=(acc++(AV k its).flatten).toArray
 |0,acc=>by simp
 |k+1,acc=>by
  have e:acc.toArray++its.toArray=(acc++its).toArray:=by simp
  have e2:(acc++its)++(AV k its).flatten=acc++(AV (k+1) its).flatten:=by
   rw [Ac,List.flatten_cons,List.append_assoc]
  rw [<-e2,<-a81 its k (acc++its),<-e,Ac,List.foldl_cons]
section
variable {X:Cx}{pins:List (AB×Obj)}{σ:St}{H:Hp}{s:AC}{l b:AB}{xs ys zs:List V}
theorem m6.lset{its its':List AA}{n:Nat}{f:Array AA->Array AA}{t':Nat}(I:m6 X pins σ H s)(hH:H l=ξ (.lst xs))
 (e:s.heap.get? l=ξ {cls:= .type "list",data:= .seq its.toArray n}) (hf:f its.toArray=its'.toArray) (hv:v7 ys its') (hz:ys.length<=AL):
 m6 X pins σ (upd H l (.lst ys)) {s with heap:=s.heap.update l (Obj.mapSeq f),toks:=t'}:=by
 have q:=PySem.IsL.update e f
 rw [hf] at q
 refine I.write (x:=l) (e:=l) (by rw [hH];exact trivial) (.inl rfl) (λb' u hb hu=>(Heap.get?_update_other s.heap (Obj.mapSeq f) (Ne.symm hb)).trans hu) ⟨_,q⟩ ?_
 exact⟨hz,its',_,hv,q⟩
theorem m6.lnew{its:List AA}{t':Nat}(I:m6 X pins σ H s)(hv:v7 ys its)(hz:ys.length<=AL):
 m6 X pins σ (upd H s.heap.objs.size (.lst ys)) {s with heap:=s.heap.push {cls:= .type "list",data:= .seq its.toArray},toks:=t'}:=
 I.laid (λ_ _ q=>Am _ q) (AN _) ⟨hz,its,0,hv,At _ rfl⟩
theorem m6.fresh(I:m6 X pins σ H s):H s.heap.objs.size=ζ:=I.hok.fresh (AN _)
theorem m6.lstM(I:m6 X pins σ H s)(hH:H l=ξ (.lst xs)):xs.length<=AL/\∃(its:List AA) (n:Nat),v7 xs its/\xs.length=its.length/\s.heap.get? l=ξ {cls:= .type "list",data:= .seq its.toArray n}:=by
 obtain⟨z,its,n,r,e⟩:=I.hok l _ hH;exact⟨z,its,n,r,r.length,e⟩
theorem b5G{n:Nat}(h:n<=AL):Builtin.List.listTooLong n=false:=by
 unfold Builtin.List.listTooLong;exact decide_eq_false (by lia)
end
section
variable {X:Cx}
def c4l:V->List V->Hp->VK->Prop:=λx vs H Q=>∃l xs y,x= .ref l/\vs=[y]/\H l=ξ (.lst xs)/\xs.length<AL/\Q .non (upd H l (.lst (xs++[y])))
theorem b21:MtM X "list.append" c4l:=by
 intro pins s σ H x vs v us Q I rx rv h;obtain⟨l,xs,y,rfl,rfl,hH,hz,q⟩:=h;cases rx;obtain⟨u,rfl,ru⟩:=rv.one;obtain⟨z,its,n,r,hl,e⟩:=I.lstM hH;refine call_meets F.slot_list_append ⟨_,e,rfl⟩ F.entry_list_append (F.args_list_append_2 _ _) (PySem.list_append l its.toArray n u (by rw [Aj];lia)) ⟨e, ?_⟩
 refine⟨.non,_,I.lset (its':=its++[u]) hH e (by simp) (r.append (.cons ru .nil)) ?_,rfl,q⟩
 rw [AW,List.length_singleton]
 lia
def c4m:V->List V->Hp->VK->Prop:=λx vs H Q=>∃l b xs zs,x= .ref l/\vs=[.ref b]/\H l=ξ (.lst xs)/\H b=ξ (.lst zs)/\xs.length+zs.length<=AL/\Q .non (upd H l (.lst (xs++zs)))
theorem b9O:MtM X "list.extend" c4m:=by
 intro pins s σ H x vs v us Q I rx rv h;obtain⟨l,b,xs,zs,rfl,rfl,hH,hB,hz,q⟩:=h;cases rx;obtain⟨u,rfl,ru⟩:=rv.one;cases ru;obtain⟨z,its,n,r,hl,e⟩:=I.lstM hH;obtain⟨z2,its2,n2,r2,hl2,e2⟩:=I.lstM hB;have hsz:its.toArray.size+its2.toArray.size<=AL:=by rw [Aj,Aj];lia
 have hlong:¬(!its.toArray.isEmpty && Builtin.List.listTooLong (its.toArray.size+its2.toArray.size))=true:=by
  rw [b5G hsz,Bool.and_false];exact BB
 refine call_meets F.slot_list_extend ⟨_,e,rfl⟩ F.entry_list_extend (F.args_list_extend_2 _ _)
  (AutoSeq1.list_extend_list_list_0 l its.toArray n b its2.toArray n2 hlong (by rw [Aj];lia) (by lia)) ⟨e,e2, ?_⟩
 refine⟨.non,_,I.lset (its':=its++its2) hH e (by simp) (r.append r2) ?_,rfl,q⟩
 rw [AW]
 lia
def c6t:V->List V->Hp->VK->Prop:=λx vs H Q=>∃l xs,x= .ref l/\vs=[]/\H l=ξ (.lst xs)/\Q .non (upd H l (.lst []))
theorem c1Q:MtM X "list.clear" c6t:=by
 intro pins s σ H x vs v us Q I rx rv h;obtain⟨l,xs,rfl,rfl,hH,q⟩:=h;cases rx;have hus:=rv.zero;subst hus;obtain⟨z,its,n,r,hl,e⟩:=I.lstM hH;refine call_meets F.slot_list_clear ⟨_,e,rfl⟩ F.entry_list_clear (F.args_list_clear_1 _) (AutoSeq1.list_clear_list_0 l its.toArray n (by rw [Aj];lia)) ⟨e, ?_⟩
 exact⟨.non,_,I.lset (its':=[]) (ys:=[]) hH e rfl .nil (Nat.zero_le _),rfl,q⟩
def c7Y:R2:=λx y H Q=>∃l b xs zs,x= .ref l/\y= .ref b/\H l=ξ (.lst xs)/\H b=ξ (.lst zs)/\xs.length+zs.length<=AL/\∀p,H p=ζ->Q (.ref p) (upd H p (.lst (xs++zs)))
theorem c5Z:OpR X (binaryOp .Add) c7Y:=by
 ext u
 obtain⟨l,b,xs,zs,rfl,rfl,hH,hB,hz,q⟩:=h;cases rx;cases ry;obtain⟨z,its,n,r,hl,e⟩:=I.lstM hH;obtain⟨z2,its2,n2,r2,hl2,e2⟩:=I.lstM hB;refine PySem.P.add_list e e2 ?_ (by rw [Aj,Aj];lia)
 have ea:its.toArray++its2.toArray=(its++its2).toArray:=by simp
 rw [ea];exact⟨.ref _,_,I.lnew (t':=s.toks) (r.append r2) (by rw [AW];lia),rfl,q _ I.fresh⟩
def c72:R2:=λx y H Q=>∃l k xs,x= .ref l/\y= .int k/\H l=ξ (.lst xs)/\ -(2 ^ 63)<=k/\k<2 ^ 63/\xs.length*k.toNat<=AL/\
 ∀p,H p=ζ->Q (.ref p) (upd H p (.lst (AV k.toNat xs).flatten))
theorem b3S{α:Type}(xs:List α)(k:Nat):(AV k xs).flatten.length=k*xs.length:=by
 induction k with
 |zero=>simp
 |succ k ih=>rw [Ac,List.flatten_cons,AW,ih,Nat.succ_mul,Nat.add_comm]
theorem c54:OpR X (binaryOp .Mult) c72:=by
 ext u
 obtain⟨l,k,xs,rfl,rfl,hH,h1,h2,hz,q⟩:=h;cases rx;obtain⟨t,rfl⟩:=ry;obtain⟨z,its,n,r,hl,e⟩:=I.lstM hH;have hlen:its.toArray.size*k.toNat<=AL:=by rw [Aj,<-hl];exact hz
 have hcap:¬its.toArray.size*k.toNat>(2 ^ 63 - 1)/ 8:=by
  have:(AL:Nat)<=(2 ^ 63 - 1)/ 8:=by decide
  lia
 have hfit:¬(!Builtin.List.listFitsIndex k)=true:=by
  rw [fitsIndex_both h1 h2];exact BB
 have hlong:¬Builtin.List.listTooLong (its.toArray.size*k.toNat)=true:=by
  rw [b5G hlen];exact BB
 have hnew:List.foldl (λx1 x2=>x1++x2) #[] (AV (if its.toArray.isEmpty=true then 0 else k.toNat) its.toArray)=(AV k.toNat its).flatten.toArray:=by
  have f0:∀m:Nat,List.foldl (λx1 x2=>x1++x2) #[] (AV m its.toArray)=(AV m its).flatten.toArray:=λm=>by
   have:=a81 its m [];rw [AY] at this;exact this
  rw [f0];cases its with
  |nil=>simp
  |cons a r'=>rw [if_neg (by simp)]
 refine wpAny_binaryOp_repeat_ref (T:="list") (U:="int") (by decide) ⟨_,e,rfl⟩ (λs'=>typeIs_int s' k t) noFill_list_mul F.fills_int_mul F.slot_int_rmul repeat_list F.slot_int_index.lookup
  (call_meets F.slot_int_rmul (typeIs_int s k t) F.entry_int_rmul (F.args_int_rmul_2 _ _) (int___rmul___int_list k t l its.toArray n)
   ⟨e,rfl,⟨_,e,rfl⟩,call_meets F.slot_list_mul ⟨_,e,rfl⟩ F.entry_list_mul (F.args_list_mul_2 _ _) (AutoListH.list___mul___list_int_3 l its.toArray n k t hfit hcap hlong) ⟨e, ?_⟩⟩)
 rw [hnew];exact⟨.ref _,_,I.lnew (t':=s.toks) (r.rep k.toNat) (by rw [b3S,Nat.mul_comm];exact hz),rfl,q _ I.fresh⟩
end
section
variable {prog:AJ}{w:AH}{A:AM}{E:AA->AC->Prop}{s:AC}
end
section
variable {X:Cx}
end
end L2
namespace Att
open PySem PySem.W PySem.Calls PyProof.Rows
theorem a94{P:Params}{h:Heap}:∀(ns:List Int) (vs:List AA),WellAll P h vs (ns.map WData.int)->IntsAre vs ns:=by
 intro ns
 induction ns with
 |nil=>
  intro vs w;rw [AR] at w;cases w;exact .nil
 |cons n ns ih=>
  intro vs w;rw [AG] at w;cases w with
  |cons a b=>
   cases a;exact .cons _ _ (ih _ b)
theorem c0b{l:OpenLaw}{n:Nat}(hn:l.most=ξ n){P:Params}{h:Heap}{args:List WData}{vals:List AA}
 (hpre:l.row.toRowW.claim.pre args=true) (hwl:WellAll P h vals args):
 ∃a vs ns,vals=[Value.ref a]/\args=[WData.list (ns.map WData.int)]/\h.get? a=ξ {cls:= .type "list",data:= .seq vs.toArray}/\IntsAre vs ns/\ns.length<=n:=by
 have hsh:WShape.hasAll [] args [.list .int]=true:=(pre_splitW hpre).1
 have hc:l.pre.holds [] {args:=args}=true:=(pre_splitW hpre).2
 obtain⟨d,r,rfl,h1,h2⟩:=hasAllW_cons hsh
 obtain rfl:=hasAllW_nil h2
 obtain⟨xs,rfl,h3⟩:=hasW_list h1
 obtain⟨ns,rfl⟩:=items_int h3
 have hlen:ns.length<=n:=by
  unfold OpenLaw.pre at hc;have h4:(WTm.not (.lt (.lit (.int (n:Int))) (.len (.arg 0)))).holds [] {args:=[.list (ns.map .int)]}=true:=by
   have h4:=(holds_andW hc).1;rw [hn] at h4;exact h4
  have h5:=condW_of h4 (w_not (w_lt w_lit (w_len_list (w_arg rfl))));rw [AZ] at h5;refine Nat.le_of_not_lt λq=> ?_;have q':(n:Int)<((ns.length:Nat):Int):=by lia
  first
   |(rw [decide_eq_true q'] at h5;exact absurd h5 (by decide))
   |(simp at h5;lia)
 cases hwl with
 |cons w1 w2=>
  cases w2
  cases w1 with
  |list ho hall=>exact⟨_,_,ns,rfl,rfl,ho,a94 ns _ hall,hlen⟩
theorem b92(l:OpenLaw)(args:List WData):l.row.toRowW.claim.post args (.bool true) args=true:=
 postW_of (r:=l.row.toRowW) (X:=(true==true))
  (show WShape.has [] (.bool true) .bool=true by first|rfl|decide|simp [WShape.has,WShape.arms,WShape.armsAll])
  (show(WTm.eq .res (.lit (.bool true))).value [] {args:=args,res:=ξ (.bool true),after:=args}=ξ (.bool (true==true)) from w_eq_bool (w_res rfl) w_lit) rfl
theorem attach_call{l:OpenLaw}{n:Nat}{q:AJ}{loose:List Str}{XP:(Str->Υ AA)->Heap->Prop}{YP:AH->Heap->Prop}{d:DefRec}
 (hn:l.most=ξ n) (hdf:d.params.defaults=[])
 (call:∀(w:AH) (s₀ s₁:AC) (mg mb:Str->Υ AA) (fa:AB) (o:Obj) (pm cd doc:AA) (a:AB) (vs:List AA) (ns:List Int),
  Ground q loose [] XP w s₀ mg mb s₁.heap->YP w s₁.heap->
  s₁.heap.get? fa=ξ o->o.data= .func (docDef d.name d.params d.body d.scope pm cd doc)->s₁.heap.CodeRec cd d.name->mg d.name=ξ (.ref fa)->
  s₁.heap.get? a=ξ {cls:= .type "list",data:= .seq vs.toArray}->IntsAre vs ns->ns.length<=n->s₁.gens= #[]->
  codeAny (model l.prog w) callerA (.call (.ref fa) ⟨[.ref a],[]⟩) (λr s'=>r= .ok (.ret (.bool true))/\OldK s₁.heap s'.heap/\s'.os=s₁.os/\AllBare s'.gens) s₁):
 WalkO q loose XP YP l.row.toRowW d [] (λf vs=>PySem.call f vs):=by
 intro w s₀ s₁ mg mb G Y fa o pm cd doc dV kV ho hd hcd hD hmg hg args vals as hpre hlay hrd hwl hlo
 obtain rfl:dV= .none:=Dflts.none hD hdf
 obtain rfl:kV= .none:=Dflts.noKw hD
 obtain⟨a,vs,ns,rfl,rfl,hobj,hints,hlen⟩:=c0b hn hpre hwl
 refine enter_call (codeAny_mono (call w s₀ s₁ mg mb fa o pm cd doc a vs ns G Y ho (fd_plain hd) hcd hmg hobj hints hlen hg) λr s' hq=> ?_)
 obtain⟨rfl,h2,h3,h4⟩:=hq
 exact⟨.inl ⟨.bool true,.bool true,[],rfl,λ_=>rfl,.bool true,b92 l _,λ_=>⟨List.Pairwise.nil,λ_ hm=>(nomatch hm)⟩⟩,h2,h3,h4⟩
section
variable {prog:AJ}{w:AH}{A:AM}{E:AA->AC->Prop}{s:AC}{K:Frag}
end
end Att
namespace L2
open PySem PySem.Spec PyProof.Rows
theorem b3p:∀{vs:List AA} {ns:List Int},IntsAre vs ns->v7 (ns.map V.int) vs
 |_,_,.nil=> .nil
 |_,_,.cons n t h=> .cons ⟨t,rfl⟩ (b3p h)
def c48(H:Hp):Prop:=∀b,H b=ζ\/∃o xs,H b=ξ (.frz o (.lst xs))
theorem c1D{P:AJ}{w:AH}{K:AE}{mg mb:Str->Υ AA}{CX:CXT}{k:Nat}{fa a:AB}{fd:FuncData}{x:Str}{sp:Sp}{s₁:AC}{vs:List AA}{ns:List Int}
 (KX:K.In s₁.heap) (hns:s₁.heap.Ns mainGlobals mg) (hb:s₁.heap.Ns builtinsNs mb) (hbb:∀x:Str,x≠"__name__"->mb x=bootBuiltins x) (hlim:s₁.heap.NoLimit) (hg:s₁.gens= #[])
 (ha:s₁.heap.get? a=ξ {cls:= .type "list",data:= .seq vs.toArray}) (hi:IntsAre vs ns) (hl:ns.length<=AL) (hr:W9 k callerA)
 (F:∀base:Heap,K.In base->base.Ns mainGlobals mg->a1v P w K mg base CX k fa fd [x] sp) (hbind:∀(s:AC) (u:AA),BindsTo s fd ⟨[u],[]⟩ [(x,u)])
 (hsp:∀H:Hp,c48 H->SqL K H a (ns.map V.int)->sp [.ref a] H (λv _=>v= .bl true) λ_ _ _=>False)
 (hCX:∀H e s',CX [] H s₁ (λ_ _ _=>False) e s'->False):
 codeAny (model P w) callerA (.call (.ref fa) ⟨[.ref a],[]⟩) (λr s'=>r= .ok (.ret (.bool true))/\OldK s₁.heap s'.heap/\s'.os=s₁.os/\AllBare s'.gens) s₁:=by
 have rv:=b3p hi
 have lenV:=hi.length
 have core:∀H:Hp,c48 H->SqL K H a (ns.map V.int)->HOk P w H s₁.heap->(∀b,H b≠ζ->b=a)->(H a≠ζ->K.lookup a=ζ)->
  codeAny (model P w) callerA (.call (.ref fa) ⟨[.ref a],[]⟩) (λr s'=>r= .ok (.ret (.bool true))/\OldK s₁.heap s'.heap/\s'.os=s₁.os/\AllBare s'.gens) s₁:=by
  intro H hO hS hok hA hK
  have base_of:∀{b:AB} {o:Obj},s₁.heap.get? b=ξ o->H b=ζ->(b3M s₁.heap H).get? b=ξ o:=λe n=>c1n e n
  have noA:∀{b:AB} {o:Obj} {es:Array DictEntry} {ep:Nat},s₁.heap.get? b=ξ o->o.data= .dict es ep->H b=ζ:=λ {b o es ep} e d=>by
   cases q:H b with
   |none=>rfl
   |some u=>
    have e':b=a:=hA b (by rw [q];simp)
    subst e';rw [ha] at e;cases e;have d':Data.seq vs.toArray _=Data.dict es ep:=d;cases d'
  have nsK:∀{b:AB} {m:Str->Υ AA},s₁.heap.Ns b m->(b3M s₁.heap H).Ns b m:=λ {b m} ⟨o,es,ep,e,d,r⟩=>⟨o,es,ep,base_of e (noA e d),d,r⟩
  have hKb:K.In (b3M s₁.heap H):=λb o e=>base_of (KX b o e) (by
   cases q:H b with
   |none=>rfl
   |some u=>
    have e':b=a:=hA b (by rw [q];simp)
    subst e';rw [hK (by rw [q];simp)] at e;cases e)
  have hM:Mod K mg (b3M s₁.heap H):=⟨hKb,nsK hns,⟨mb,nsK hb,hbb⟩,let ⟨mc,h1,h2⟩:=hlim;⟨mc,nsK h1,h2⟩⟩
  have e0:c26 P w K mg (b3M s₁.heap H) callerA [] s₁ H:=⟨rfl,hM,λb o e=>c34 e,Nat.le_of_eq (b9w _ _),trivial,λb hb=>absurd (show b∈([]:List AB) from hb) (by simp),hok,.of_eq hg⟩
  refine codeAny_mono ((F _ hKb (nsK hns)).run callerA [] s₁ H ⟨[.ref a],[]⟩ [.ref a] [.ref a] _ _ hr e0 (hbind s₁ (.ref a)) (.cons rfl .nil) (hsp H hO hS)) λr s' h=> ?_
  cases r with
  |error e=>exact(hCX H e s' h).elim
  |ok fl=>
   cases fl with
   |next=>exact False.elim h
   |brk=>exact False.elim h
   |cont=>exact False.elim h
   |ret u=>
    obtain⟨v,H',os,bare,un,hok',r',q⟩:=h
    have q':v= .bl true:=q
    subst q'
    obtain rfl:u=Value.bool true:=r'
    refine⟨rfl,OldK.of_keep λb o e=> ?_,os,bare⟩
    cases q:H b with
    |none=>exact un.keep b o e q (by intro z;exact absurd (show b∈([]:List AB) from z) (by simp)) (by simp)
    |some u=>
     rcases hO b with z|⟨ob,xs,z⟩
     ·rw [q] at z;cases z
     ·have z2:=un.frzs b ob _ z
      obtain⟨e1,_⟩:=hok b _ z
      obtain⟨e2,_⟩:=hok' b _ z2
      rw [e] at e1;cases e1
      exact e2
 cases hk:K.lookup a with
 |some o=>
  have e:=KX a o hk
  rw [ha] at e
  cases e
  refine core (λ_=>ζ) (λ_=> .inl rfl) (.inr ⟨_,vs.toArray,_,hk,rfl,rfl,rfl,by rw [Aj,lenV];exact hl,by simpa using rv⟩) (λb u z=>by have z':(ζ:Υ HO)=ξ u:=z;cases z') (λb z=>absurd rfl z) λz=>absurd rfl z
 |none=>
  refine core (λb=>if b=a then ξ (.frz {cls:= .type "list",data:= .seq vs.toArray} (.lst (ns.map V.int))) else ζ) (λb=> ?_) (.inl (.inr ⟨{cls:= .type "list",data:= .seq vs.toArray},if_pos rfl⟩)) (λb u z=> ?_) (λb z=> ?_) λ_=>hk
  ·by_cases hb:b=a
   ·exact .inr ⟨_,_,if_pos hb⟩
   ·exact .inl (if_neg hb)
  ·by_cases hb:b=a
   ·have z':=(if_pos hb).symm.trans z
    cases z'
    subst hb
    exact⟨ha,by rw [AZ];exact hl,vs,_,rv,ha⟩
   ·have z':=(if_neg hb).symm.trans z
    cases z'
  ·by_cases hb:b=a
   ·exact hb
   ·exact absurd (if_neg hb) z
theorem c4R{l:PySem.W.OpenLaw}{n k:Nat}{q:AJ}{loose:List Str}{XP:(Str->Υ AA)->Heap->Prop}{YP:AH->Heap->Prop}{d:DefRec}{K:Params->AE}{CX:AH->CXT}{sp:AH->Sp}{x:Str}
 (hn:l.most=ξ n) (hn2:n<=AL) (hdf:d.params.defaults=[]) (hr:W9 k callerA)
 (hY:∀(w:AH) (h:Heap),YP w h->(K w.params).In h)
 (F:∀(w:AH) (mg:Str->Υ AA) (fa:AB) (h:Heap),(K w.params).In h->h.Ns mainGlobals mg->mg d.name=ξ (.ref fa)->
  ∃fd:FuncData,(∀(s:AC) (u:AA),BindsTo s fd ⟨[u],[]⟩ [(x,u)])/\
   ∀base:Heap,(K w.params).In base->base.Ns mainGlobals mg->a1v l.prog w (K w.params) mg base (CX w) k fa fd [x] (sp w))
 (hsp:∀(w:AH) (H:Hp) (a:AB) (ns:List Int),ns.length<=n->c48 H->SqL (K w.params) H a (ns.map V.int)->sp w [.ref a] H (λv _=>v= .bl true) λ_ _ _=>False)
 (hCX:∀(w:AH) (H:Hp) (s:AC) (e:AA) (s':AC),CX w [] H s (λ_ _ _=>False) e s'->False):
 PySem.W.WalkO q loose XP YP l.row.toRowW d [] (λf vs=>PySem.call f vs):=by
 refine Att.attach_call hn hdf λw s₀ s₁ mg mb fa o pm cd doc a vs ns G Y ho hd hcd hmg hobj hints hlen hg=> ?_
 have KX:=hY w _ Y
 obtain⟨fd,hb,hF⟩:=F w mg fa _ KX G.T.g hmg
 exact c1D KX G.T.g G.T.b G.T.builtins G.T.nolimit hg hobj hints (Nat.le_trans hlen hn2) hr hF hb (λH hO hS=>hsp w H a ns hlen hO hS) λH e s'=>hCX w H s₁ e s'
def O3(s:Stmt):Arguments:=match s with
 | .FunctionDef _ a _ _ _ _ _ _ _ _=>a
 |_=>{posonlyargs:=[],args:=[],vararg:=ζ,kwonlyargs:=[],kw_defaults:=[],kwarg:=ζ,defaults:=[]}
def C3(s:Stmt):List Stmt:=match s with
 | .FunctionDef _ _ b _ _ _ _ _ _ _=>b
 |_=>[]
def d6(s:Stmt):Scope:=match s with
 | .FunctionDef _ _ _ _ _ _ sc _ _ _=>sc
 |_=>{kind:= .function,names:=[],isGenerator:=false,isCoroutine:=false}
abbrev CX0:CXT:=λ_ _ _ _ _ _=>False
abbrev E0:XK:=λ_ _ _=>False
theorem b5V{X:Cx}:b0D CX0 X E0:=λ_ _ _ _ _ _ _ h=>h.elim
structure Fun(K:AE)(x qual:Str)(st:Stmt)(f:AB)(fd:FuncData):Prop where
 ex:∃(oc:AA) (od:Υ AB) (kV doc pm:AA) (an:Υ AB) (cdv ct:AA) (osl:Array (Υ AA)),
  fd=PySem.W.fnOf x qual (O3 st) (C3 st) (d6 st) .none kV doc pm an cdv ct/\K.lookup f=ξ ⟨oc,od,.func fd,osl⟩/\PySem.W.codeIn K cdv qual=true
 kp:PySem.W.keepIn K (.ref f)=true
section
variable {P:AJ}{w:AH}{K:AE}{mg:Str->Υ AA}{base:Heap}
theorem Fun.ok{x qual:Str}{st:Stmt}{f:AB}{fd:FuncData}{N ps:List Str}{k:Nat}{sp:Sp}(F:Fun K x qual st f fd)(S:i4 N ps (d6 st))(len:∀vs H Q E,sp vs H Q E->vs.length=ps.length)
 (hbody:∀(cdv:AA) (A:AM) (outer:List Env) (s:AC) (H:Hp) (vs:List V) (Q:VK) (E:XK),W9 k (A.deeper (envOfC qual (d6 st) s.heap.objs.size f cdv))->sp vs H Q E->
  ∃t,PSs (a5q CX0 P w K mg base N qual (d6 st) f cdv A outer s H E).nox (C3 st) t/\t {nx:=λ_ H'=>Q .non H',rt:=Q} (a3g N vs) H):a1v P w K mg base CX0 (k+1) f fd ps sp:=by
 obtain⟨oc,od,kV,doc,pm,an,cdv,ct,osl,rfl,lk,hcd⟩:=F.ex
 refine c4V lk hcd S len λA outer s H vs Q E hr hsp=> ?_
 obtain⟨t,h,q⟩:=hbody cdv A outer s H vs Q E hr hsp
 exact⟨t,h.nox,q⟩
theorem Fun.binds{x qual:Str}{st:Stmt}{f:AB}{fd:FuncData}{ps:List Str}(F:Fun K x qual st f fd)
 (h:∀(kV doc pm:AA) (an:Υ AB) (cdv ct:AA) (us:List AA),us.length=ps.length->bindArgs (PySem.W.fnOf x qual (O3 st) (C3 st) (d6 st) .none kV doc pm an cdv ct) ⟨us,[]⟩=pure (ps.zip us)):a44 K fd ps []:=by
 obtain⟨oc,od,kV,doc,pm,an,cdv,ct,osl,rfl,lk,hcd⟩:=F.ex
 exact .all (h kV doc pm an cdv ct)
theorem c1b{x qual:Str}{st:Stmt}{f:AB}{oc:AA}{od an:Υ AB}{osl:Array (Υ AA)}{kV doc pm cdv ct:AA}(l:K.lookup f=ξ ⟨oc,od,.func (PySem.W.fnOf x qual (O3 st) (C3 st) (d6 st) .none kV doc pm an cdv ct),osl⟩)
 (c:PySem.W.codeIn K cdv qual=true) (k:PySem.W.keepIn K (.ref f)=true):Fun K x qual st f (PySem.W.fnOf x qual (O3 st) (C3 st) (d6 st) .none kV doc pm an cdv ct):=⟨⟨oc,od,kV,doc,pm,an,cdv,ct,osl,rfl,l,c⟩,k⟩
end
theorem c0d{n:Nat}(h:n<=1000):n<AL:=Nat.lt_of_le_of_lt h (by decide)
section
variable {X:Cx}
theorem pv(i:Nat){x:Str}{pos:Pos}(hN:X.N[i]?=ξ x:=by rfl)(hv:Vis X.env.scope x:=by first|exact Or.inl rfl|exact Or.inr (Or.inl rfl)|exact Or.inr (Or.inr rfl))(hd:Δ x:=by decide)
 (hcd:(x==("__classdict__":Str))=false:=by decide):PE X (.Name x pos) (a2P i):=c6h hN hv hd hcd
end
theorem b18{A B:Prop}(h:B):if false=true then A else B:=by
 rw [if_neg BB];exact h
theorem b19{A B:Prop}(h:A):if true=true then A else B:=by
 rw [if_pos rfl];exact h
def m5(H H':Hp):Prop:=∀b o,H b=ξ o->H' b=ξ o
theorem m5.trans{H H1 H2:Hp}(a:m5 H H1)(b:m5 H1 H2):m5 H H2:=λc o h=>b c o (a c o h)
theorem m5.free{H H':Hp}(e:m5 H H'){l:AB}(h:H' l=Option.none):H l=Option.none:=by
 cases q:H l with
 |none=>rfl
 |some o=>
  rw [e l o q] at h;cases h
section
variable (P:AJ)(w:AH)
end
section
variable {P:AJ}{w:AH}{H H':Hp}{h h':Heap}{a:AB}{o:HO}
end
section
variable {P:AJ}{w:AH}{H:Hp}{h h':Heap}{x e:AB}{o':HO}
end
section
variable {fs fs' ex ex':List AB}{H H1 H2:Hp}{h h1 h2 h':Heap}{a x e:AB}{o:HO}
end
section
variable {X:Cx}{pins:List (AB×Obj)}{σ:List (Υ V)}{H H':Hp}{s:AC}{h':Heap}
end
section
variable {X:Cx}
variable {a b:AF}{ta tb:TE}{pos:Pos}
variable {tA tB':TT}{rest:List AF}
end
section
variable {X:Cx}{pins:List (AB×Obj)}{σ:St}{H:Hp}{s:AC}{a:AB}{xs ys:List V}
end
section
variable {X:Cx}{pins:List (AB×Obj)}{σ:St}{H:Hp}{s:AC}{E:AA->AC->Prop}
end
section
variable {X:Cx}{st:Stmt}{rest:List Stmt}{t u:TS}{e:AF}{te:TE}{pos:Pos}
end
section
variable {X:Cx}{pos:Pos}
end
section
variable {X:Cx}{tg:AF}
end
section
variable {X:Cx}{a b c:AF}{ta tb tc:TE}{pos:Pos}
end
section
variable {prog:AJ}{w:AH}{A:AM}{E:AA->AC->Prop}{s:AC}{K:AE}{x dx C f:AB}{mA:Str->Υ AA}{name:Str}{v:AA}
end
section
variable {P:AJ}{w:AH}{H H':Hp}{h h':Heap}{a C dx:AB}{fs fs':List (Str×V)}
end
section
variable {X:Cx}{pins:List (AB×Obj)}{σ:St}{H:Hp}{s:AC}{a C dx:AB}{fs:List (Str×V)}{f:Str}{v:V}{A:AM}{E:AA->AC->Prop}
end
section
variable {X:Cx}{o e value:AF}{f:Str}{pos pos' tpos:Pos}{ta tv:TE}
end
section
variable {X:Cx}{pins:List (AB×Obj)}{σ:St}{H:Hp}{s:AC}{A:AM}{E:AA->AC->Prop}{Q:AA->AC->Prop}{c:AA}{b:Bool}
end
section
variable {X:Cx}{e:AF}{es:List AF}{te:TE}{t:TA}{pos:Pos}
end
section
variable {X:Cx}{pins:List (AB×Obj)}{σ:St}{H:Hp}{s s':AC}
end
section
variable {X:Cx}{CX:CXT}{k:Nat}{f C:AB}{fd:FuncData}{ps:List Str}{sp:Sp}{dvs:List V}{ds:List AA}{E:XK}{x m:Str}{p pos apos:Pos}{e o:AF}{es:List AF}{ta:TE}{t:TA}
end
section
variable {X:Cx}{CX:CXT}{k:Nat}{f C:AB}{fd:FuncData}{ps ks:List Str}{sp:Sp}{E:XK}{x m:Str}{p pos apos kpos:Pos}{e o:AF}{es:List AF}{kws:List Keyword}{te ta:TE}{t tk:TA}{nm:Υ Str}
variable {g:List AA->List AA->List AA}{gV:List V->List V->List V}
end
section
variable {X:Cx}{x:Str}{p pos:Pos}{e:AF}{es:List AF}{t:TA}{id T:String}{r:List V->Hp->VK->Prop}
end
section
variable {κ:Type}[DecidableEq κ]
def a2Q(kvs:List (κ×V))(k:κ):Υ V:=(kvs.find? λkv=>decide (kv.1=k)).map (·.2)
def a1d(kvs:List (κ×V))(k:κ)(v:V):List (κ×V):=
 if(kvs.any λkv=>decide (kv.1=k))=true then kvs.map (λkv=>if kv.1=k then(kv.1,v) else kv) else kvs++[(k,v)]
theorem a4e{p:κ×V}{r:List (κ×V)}{k:κ}(e:p.1=k):a2Q (p::r) k=ξ p.2:=by simp [a2Q,List.find?_cons,e]
theorem a4d{p:κ×V}{r:List (κ×V)}{k:κ}(e:¬p.1=k):a2Q (p::r) k=a2Q r k:=by simp [a2Q,List.find?_cons,e]
theorem b6h(k:κ):∀kvs:List (κ×V),(kvs.any λkv=>decide (kv.1=k))=(a2Q kvs k).isSome
 |[]=>rfl
 |p::r=>by
  rw [List.any_cons]
  by_cases e:p.1=k
  ·simp only [a4e e,decide_eq_true e,Bool.true_or,Option.isSome_some]
  ·rw [a4d e,decide_eq_false e,Bool.false_or];exact b6h k r
theorem a26(kvs:List (κ×V))(k:κ)(v:V):(a1d kvs k v).length<=kvs.length+1:=by
 unfold a1d;split
 ·rw [AZ];lia
 ·rw [AW,AU,Ad];lia
theorem b11.isSome_eq{o:Υ V}{u:Υ AA}(r:b11 o u):o.isSome=u.isSome:=by
 cases o with
 |none=>cases u with
  |none=>rfl
  |some _=>exact(show False from r).elim
 |some _=>cases u with
  |none=>exact(show False from r).elim
  |some _=>rfl
theorem KV.val{kvs:List (κ×V)}{vs:List (κ×AA)}(r:KV kvs vs)(k:κ):b11 (a2Q kvs k) (valueAt vs k):=by
 unfold KV at r
 induction r with
 |nil=>exact True.intro
 | @cons p q ps qs h t ih=>
   obtain⟨h1,h2⟩:=h
   by_cases e:p.1=k
   ·have e':q.1=k:=h1.symm.trans e;have b:valueAt (q::qs) k=ξ q.2:=by simp [valueAt,List.find?_cons,e']
    rw [a4e e,b];exact h2
   ·have e':¬q.1=k:=λz=>e (h1.trans z);have b:valueAt (q::qs) k=valueAt qs k:=by simp [valueAt,List.find?_cons,e']
    rw [a4d e,b];exact ih
theorem KV.any{kvs:List (κ×V)}{vs:List (κ×AA)}(r:KV kvs vs)(k:κ):(kvs.any λkv=>decide (kv.1=k))=vs.any λkv=>decide (kv.1=k):=by
 unfold KV at r
 induction r with
 |nil=>rfl
 |cons h t ih=>rw [List.any_cons,List.any_cons,ih,h.1]
theorem KV.repl{kvs:List (κ×V)}{vs:List (κ×AA)}(r:KV kvs vs)(k:κ){y:V}{u:AA}(ry:z7 y u):
 KV (kvs.map λkv=>if kv.1=k then(kv.1,y) else kv) (vs.map λkv=>if kv.1=k then(kv.1,u) else kv):=by
 unfold KV at r ⊢
 induction r with
 |nil=>exact .nil
 | @cons p q ps qs h t ih=>
   rw [AG,AG]
   refine .cons ?_ ih
   obtain⟨h1,h2⟩:=h
   by_cases e:p.1=k
   ·rw [if_pos e,if_pos (h1.symm.trans e)];exact⟨h1,ry⟩
   ·rw [if_neg e,if_neg (λz=>e (h1.trans z))];exact⟨h1,h2⟩
theorem KV.put{kvs:List (κ×V)}{vs:List (κ×AA)}(r:KV kvs vs)(k:κ){y:V}{u:AA}(ry:z7 y u):KV (a1d kvs k y) (stored vs k u):=by
 unfold a1d stored;rw [r.any k]
 by_cases e:(vs.any λkv=>decide (kv.1=k))=true
 ·rw [if_pos e,if_pos e];exact r.repl k ry
 ·rw [if_neg e,if_neg e];exact Paired.snoc r ⟨rfl,ry⟩
theorem KV.length{kvs:List (κ×V)}{vs:List (κ×AA)}(r:KV kvs vs):kvs.length=vs.length:=Paired.length r
end
theorem b5i{P:AJ}{w:AH}{k:m7}{u:AA}(r:z7 (kV k) u):(U0 P w).is k u=true:=by
 cases k with
 |inl i=>obtain⟨t,e⟩:=(show ∃t,u=Value.int i t from r);subst e;exact b5z P w i t
 |inr x=>obtain⟨t,e⟩:=(show ∃t,u=Value.str x t from r);subst e;exact b5A P w x t
theorem b2R{P:AJ}{w:AH}:∀{ks:List m7} {us:List AA},v7 (ks.map kV) us->ItemsAre (U0 P w) ks us
 |[],_,r=>by rw [AR] at r;cases r;exact .nil
 |k::ks,_,r=>by
  rw [AG] at r;cases r with
  |cons h t=>exact .cons (b5i h) (b2R t)
abbrev KT(H:Hp):List (List m7×V)->List (List m7×AB×AA)->Prop:=Paired λp q=>p.1=q.1/\H q.2.1=ξ (.tup (p.1.map kV))/\z7 p.2 q.2.2
theorem KT.val{H:Hp}{kvs:List (List m7×V)}{xs:List (List m7×AB×AA)}(r:KT H kvs xs)(k:List m7):b11 (a2Q kvs k) ((atKey xs k).map (·.2)):=by
 induction r with
 |nil=>exact True.intro
 | @cons p q ps qs h t ih=>
   obtain⟨h1,_,h2⟩:=h
   by_cases e:p.1=k
   ·have e':q.1=k:=h1.symm.trans e;have b:atKey (q::qs) k=ξ q.2:=by simp [atKey,List.find?_cons,e']
    rw [a4e e,b];exact h2
   ·have e':¬q.1=k:=λz=>e (h1.trans z);have b:atKey (q::qs) k=atKey qs k:=by simp [atKey,List.find?_cons,e']
    rw [a4d e,b];exact ih
theorem KT.repl{H:Hp}{kvs:List (List m7×V)}{xs:List (List m7×AB×AA)}(r:KT H kvs xs)(k:List m7){y:V}{u:AA}(ry:z7 y u):
 KT H (kvs.map λkv=>if kv.1=k then(kv.1,y) else kv) (xs.map (putAt k u)):=by
 induction r with
 |nil=>exact .nil
 | @cons p q ps qs h t ih=>
   rw [AG,AG]
   refine .cons ?_ ih
   obtain⟨h1,h2,h3⟩:=h
   unfold putAt
   by_cases e:p.1=k
   ·rw [if_pos e,if_pos (h1.symm.trans e)];exact⟨h1,h2,ry⟩
   ·rw [if_neg e,if_neg (λz=>e (h1.trans z))];exact⟨h1,h2,h3⟩
theorem KT.put{H:Hp}{kvs:List (List m7×V)}{xs:List (List m7×AB×AA)}(r:KT H kvs xs)(k:List m7){b:AB}{y:V}{u:AA}(hb:H b=ξ (.tup (k.map kV)))(ry:z7 y u):
 KT H (a1d kvs k y) (storedH xs k b u):=by
 have e:(kvs.any λkv=>decide (kv.1=k))=(atKey xs k).isSome:=by
  rw [b6h,(r.val k).isSome_eq,Option.isSome_map]
 unfold a1d storedH
 rw [e]
 by_cases q:(atKey xs k).isSome=true
 ·rw [if_pos q,if_pos q];exact r.repl k ry
 ·rw [if_neg q,if_neg q];exact Paired.snoc r ⟨rfl,hb,ry⟩
theorem KT.keeps{H H':Hp}{kvs:List (List m7×V)}{xs:List (List m7×AB×AA)}(r:KT H kvs xs)(ht:∀b ys,H b=ξ (.tup ys)->H' b=ξ (.tup ys)):KT H' kvs xs:=
 Paired.mapP r λ_ _ z=>⟨z.1,ht _ _ z.2.1,z.2.2⟩
section
variable {P:AJ}{w:AH}{H:Hp}{h:Heap}{a:AB}
theorem c40{u:HO}(ok:HOk P w H h)(e:Rd H a u):Q1 P w H h a u:=e.ok ok
theorem b7V{kvs:List (m7×V)}(ok:HOk P w H h)(e:Rd H a (.dK kvs)):kvs.length<=AL/\(a==sysModules)=false/\∃vs,KV kvs vs/\h.DictOf (U0 P w) a vs:=
 show Q1 P w H h a (.dK kvs) from c40 ok e
theorem c4U{kvs:List (m7×V)}(ok:HOk P w H h)(e:H a=ξ (.dK kvs)):kvs.length<=AL/\(a==sysModules)=false/\∃vs,KV kvs vs/\h.DictOf (U0 P w) a vs:=b7V ok (.inl e)
theorem b3Q{ks:List m7}(ok:HOk P w H h)(e:H a=ξ (.tup (ks.map kV))):(tupleKind (U0 P w)).is h ks a:=by
 obtain⟨_,its,r,o,h1,h2,n,h3⟩:=(show Q1 P w H h a (.tup (ks.map kV)) from ok a _ e);exact⟨o,its.toArray,n,h1,h2,h3,by simpa using b2R r⟩
theorem b7Y{kvs:List (List m7×V)}(ok:HOk P w H h)(e:Rd H a (.dT kvs)):kvs.length<=AL/\(a==sysModules)=false/\
 ∃xs,KT H kvs xs/\h.DictOfH (tupleKind (U0 P w)) a xs:=by
 obtain⟨z,y,xs,r,o,es,ep,h1,h2,h3,h4,h5⟩:=(show Q1 P w H h a (.dT kvs) from c40 ok e)
 refine⟨z,y,xs,r,o,es,ep,h1,h2,h3,h4,λx hx=> ?_,h5⟩
 have all:∀{l:List (List m7×V)} {m:List (List m7×AB×AA)},KT H l m->∀x∈m,(tupleKind (U0 P w)).is h x.1 x.2.1:=by
  intro l m q
  induction q with
  |nil=>intro x hx;exact nomatch hx
  | @cons p q ps qs hq t ih=>
    intro x hx;rcases An.mp hx with e|hx
    ·subst e;exact b3Q ok (by rw [<-hq.1];exact hq.2.1)
    ·exact ih x hx
 exact all r x hx
theorem c6X{kvs:List (List m7×V)}(ok:HOk P w H h)(e:H a=ξ (.dT kvs)):kvs.length<=AL/\(a==sysModules)=false/\
 ∃xs,KT H kvs xs/\h.DictOfH (tupleKind (U0 P w)) a xs:=b7Y ok (.inl e)
end
def a5g(H:Hp)(a:AB)(y:V)(r:Υ V):Prop:=
 (∃kvs k,Rd H a (.dK kvs)/\y=kV k/\r=a2Q kvs k)\/∃kvs k b,Rd H a (.dT kvs)/\y= .ref b/\H b=ξ (.tup (k.map kV))/\r=a2Q kvs k
def b3r(H:Hp)(a:AB)(y v:V)(H':Hp):Prop:=
 (∃kvs k,H a=ξ (.dK kvs)/\y=kV k/\kvs.length<AL/\H'=upd H a (.dK (a1d kvs k v)))\/
 ∃kvs k b,H a=ξ (.dT kvs)/\y= .ref b/\H b=ξ (.tup (k.map kV))/\kvs.length<AL/\H'=upd H a (.dT (a1d kvs k v))
theorem a5g.k{H:Hp}{a:AB}{kvs:List (m7×V)}{k:m7}(e:H a=ξ (.dK kvs)):a5g H a (kV k) (a2Q kvs k):= .inl ⟨kvs,k,.inl e,rfl,rfl⟩
theorem a5g.t{H:Hp}{a b:AB}{kvs:List (List m7×V)}{k:List m7}(e:H a=ξ (.dT kvs))(eb:H b=ξ (.tup (k.map kV))):a5g H a (.ref b) (a2Q kvs k):= .inr ⟨kvs,k,b,.inl e,rfl,eb,rfl⟩
theorem b3r.k{H:Hp}{a:AB}{kvs:List (m7×V)}{k:m7}{v:V}(e:H a=ξ (.dK kvs))(hl:kvs.length<AL):b3r H a (kV k) v (upd H a (.dK (a1d kvs k v))):= .inl ⟨kvs,k,e,rfl,hl,rfl⟩
theorem b3r.t{H:Hp}{a b:AB}{kvs:List (List m7×V)}{k:List m7}{v:V}(e:H a=ξ (.dT kvs))(eb:H b=ξ (.tup (k.map kV)))(hl:kvs.length<AL):
 b3r H a (.ref b) v (upd H a (.dT (a1d kvs k v))):= .inr ⟨kvs,k,b,e,rfl,eb,hl,rfl⟩
section
variable {X:Cx}{pins:List (AB×Obj)}{σ:St}{H:Hp}{s:AC}{a:AB}{y v:V}{u r:AA}{o:Υ V}{A:AM}{E:AA->AC->Prop}
theorem m6.big(I:m6 X pins σ H s):sysModules<s.heap.objs.size:=by
 have h:mainGlobals<s.heap.objs.size:=(I.mod.glob.keeps I.bk).lt;exact Nat.lt_trans (by decide) h
theorem b9e{Q:AA->AC->Prop}(hu:A.units+1<cLine)(I:m6 X pins σ H s)(g:a5g H a y (ξ v))(ry:z7 y u)(h:∀w' s',m6 X pins σ H s'->z7 v w'->Q w' s'):
 AI (model X.prog X.w) A (getItem (.ref a) u) Q E s:=by
 rcases g with⟨kvs,k,e,ey,l⟩|⟨kvs,k,b,e,ey,eb,l⟩
 ·subst ey
  obtain⟨z,hd,vs,rel,dd⟩:=b7V I.hok e
  obtain⟨w',hw,rw'⟩:=b11.some_of (v:=v) (o:=valueAt vs k) (by rw [l];exact rel.val k)
  exact wpAny_getItem_of (b5i ry) dd.mapOf hw (h w' _ (I.tok _) rw')
 ·subst ey
  cases(show u=Value.ref b from ry)
  obtain⟨z,hd,xs,rel,dd⟩:=b7Y I.hok e
  obtain⟨w',hw,rw'⟩:=b11.some_of (v:=v) (o:=(atKey xs k).map (·.2)) (by rw [l];exact rel.val k)
  obtain⟨p,hp,hp2⟩:=Option.map_eq_some_iff.mp hw
  refine wpAny_getItem_heap (tupleKind_room_in1 hu) (b3Q I.hok eb) dd hp ?_
  rw [hp2]
  exact h w' _ (I.tok _) rw'
theorem c3l{Q:AA->AC->Prop}(hu:A.units+1<cLine)(I:m6 X pins σ H s)(g:a5g H a y o)(ry:z7 y u)(h:∀s',m6 X pins σ H s'->Q (.bool (!o.isSome)) s'):
 AI (model X.prog X.w) A (compareOp .NotIn u (.ref a)) Q E s:=by
 rcases g with⟨kvs,k,e,ey,l⟩|⟨kvs,k,b,e,ey,eb,l⟩
 ·subst ey
  obtain⟨z,hd,vs,rel,dd⟩:=b7V I.hok e
  refine wpAny_notIn_of (b5i ry) hd dd.mapOf ?_
  rw [<-(rel.val k).isSome_eq,<-l]
  exact h _ (I.tok _)
 ·subst ey
  cases(show u=Value.ref b from ry)
  obtain⟨z,hd,xs,rel,dd⟩:=b7Y I.hok e
  refine wpAny_notIn_heap (tupleKind_room_in1 hu) (b3Q I.hok eb) hd dd ?_
  have q:=(rel.val k).isSome_eq
  rw [Option.isSome_map] at q
  rw [<-q,<-l]
  exact h _ (I.tok _)
theorem b3B{h':Heap}{t':Nat}{ob:HO}(I:m6 X pins σ H s)(mu:Mut (H a))(hs:Heap.SameBut a s.heap h')(he:∃q,h'.get? a=ξ q)(new:Q1 X.prog X.w (upd H a ob) h' a ob):
 m6 X pins σ (upd H a ob) {s with heap:=h',toks:=t'}:=
 I.write (x:=a) (e:=a) mu (.inl rfl) (λb q hb z=>(hs.2 b hb).trans z) he new
theorem c0L{P:AJ}{w:AH}{H':Hp}{h':Heap}{kvs:List (m7×V)}{vs:List (m7×AA)}(z:kvs.length<=AL)(hd:(a==sysModules)=false)(rel:KV kvs vs)(dd:h'.DictOf (U0 P w) a vs):
 Q1 P w H' h' a (.dK kvs):=⟨z,hd,vs,rel,dd⟩
theorem b9f{H':Hp}{Q:Unit->AC->Prop}(hu:A.units+1<cLine)(I:m6 X pins σ H s)(g:b3r H a y v H')(ry:z7 y u)(rv:z7 v r)(h:∀s',m6 X pins σ H' s'->Q () s'):
 AI (model X.prog X.w) A (setItem (.ref a) u r) Q E s:=by
 rcases g with⟨kvs,k,e,ey,l,eH⟩|⟨kvs,k,b,e,ey,eb,l,eH⟩
 ·subst ey eH
  obtain⟨z,hd,vs,rel,dd⟩:=c4U I.hok e
  have hz:vs.length<=AL:=by rw [<-rel.length];exact z
  have hl:(a1d kvs k v).length<=AL:=by have:=a26 kvs k v;lia
  refine wpAny_setItem_pairs (hsz:=hz) (b5i ry) dd λh' dd' hs=>h _ ?_
  have he:∃q,h'.get? a=ξ q:=by obtain⟨q,_,_,hq,_⟩:=dd';exact⟨q,hq⟩
  exact b3B I (by rw [e];exact True.intro) hs he (c0L hl hd (rel.put k rv) dd')
 ·subst ey eH
  cases(show u=Value.ref b from ry)
  obtain⟨z,hd,xs,rel,dd⟩:=c6X I.hok e
  have hz:xs.length<=AL:=by rw [<-Paired.length rel];exact z
  have hl:(a1d kvs k v).length<=AL:=by have:=a26 kvs k v;lia
  refine wpAny_setItem_heap (hsz:=hz) (tupleKind_room_in1 hu) (b3Q I.hok eb) dd λh' dd' hs=>h _ ?_
  obtain⟨q,es,ep,hq,h2,h3,h4,_,h5⟩:=dd'
  refine b3B I (by rw [e];exact True.intro) hs ⟨q,hq⟩ ⟨hl,hd,_,(rel.put k eb rv).keeps λc ys ec=> ?_,q,es,ep,hq,h2,h3,h4,h5⟩
  rw [m4 (a31 ec e (λz=>nomatch z))]
  exact ec
end
section
variable {X:Cx}{pins:List (AB×Obj)}{σ:St}{H:Hp}{s:AC}{a:AB}{kvs:List (m7×V)}{k:m7}{u:AA}{A:AM}{E:AA->AC->Prop}
end
def b8Y(i:AF):Prop:=∀ov iv,subscripted i false ov iv=operate [ov,iv] (getItem ov iv)
theorem c4B{prog:AJ}{w:AH}{A:AM}{E:AA->AC->Prop}{s:AC}{env:Env}{value slice:AF}{pos:Pos}{T id:String}{Q:AA->AC->Prop}
 (hl:typeLookup (.type T) "__getitem__"=pure (ξ (.builtin id))) (hs:b8Y slice)
 (h:AI (model prog w) A (eval value env) (λo s₁=>AI (model prog w) A (eval slice env) (λi s₂=>s₂.TypeIs o T/\AI (model prog w) A (getItem o i) Q E s₂) E s₁) E s):
 AI (model prog w) A (eval (.Subscript value slice pos) env) Q E s:=by
 refine Subscript_ (wpAny_mono h (λo s₁ h₁=>wpAny_mono h₁ (λi s₂ h₂=> ?_) λ_ _ x=>x) λ_ _ x=>x)
 obtain⟨hT,h₂⟩:=h₂
 unfold subscriptTail
 refine AO ?_
 rw [getitemInPython_of_ne hT.not_modules]
 refine AO (wpAny_specialOf hT hl ?_)
 have fin:AI (model prog w) A (subscripted slice false o i) (λr s₃=>AI (model prog w) A (letTemporaryGo value o r>>=λ_=>pure r) Q E s₃) E s₂:=by
  rw [hs o i];exact wpAny_operating (wpAny_mono h₂ (λr s₃ h₃=>AO (wpAny_letTemporaryGo (Ae h₃))) λ_ _ x=>x)
 first
  |exact Ae (AO fin)
  |exact AO (Ae (AO fin))
  |exact AO fin
theorem b4X{X:Cx}{pins:List (AB×Obj)}{σ:St}{H:Hp}{s:AC}{a:AB}{y:V}{o:Υ V}(I:m6 X pins σ H s)(g:a5g H a y o):s.TypeIs (.ref a) "dict":=by
 rcases g with⟨kvs,k,e,_,_⟩|⟨kvs,k,b,e,_,_,_⟩
 ·obtain⟨_,_,vs,_,dd⟩:=b7V I.hok e;exact dd.typeIs
 ·obtain⟨_,_,xs,_,dd⟩:=b7Y I.hok e;exact dd.typeIs
def c7x(td ty:TE):TE:=λσ H Q=>td σ H λx H1=>ty σ H1 λy H2=>∃a v,x= .ref a/\a5g H2 a y (ξ v)/\Q v H2
def c4C(ty td:TE):TE:=λσ H Q=>ty σ H λy H1=>td σ H1 λx H2=>∃a o,x= .ref a/\a5g H2 a y o/\Q (.bl (!o.isSome)) H2
def c7t(td ty tv:TE):TS:=λD σ H=>tv σ H λv H1=>td σ H1 λx H2=>ty σ H2 λy H3=>∃a H4,x= .ref a/\b3r H3 a y v H4/\D.nx σ H4
section
variable {X:Cx}{o i e value:AF}{pos pos' tpos:Pos}{td ty tv:TE}
theorem b0u(hu:X.A.units+1<cLine)(ho:PE X o td)(hi:PE X i ty)(hs:b8Y i):PE X (.Subscript o i pos) (c7x td ty):=by
 ext v
 refine c4B PySem.F.slot_dict_getitem.lookup hs (R1 (ho pins s σ H _ I h) λu s1 h0=>u8 h0 λx H1 I1 rx q1=>R1 (hi pins s1 σ H1 _ I1 q1) λiv s2 ⟨y,H2,I2,ry,a,v,ex,g,q2⟩=> ?_);subst ex;obtain rfl:u=Value.ref a:=rx;exact⟨b4X I2 g,b9e hu I2 g ry λw' s3 I3 rw'=>⟨v,H2,I3,rw',q2⟩⟩
theorem b29(hu:X.A.units+1<cLine)(hi:PE X i ty)(ho:PE X o td):PC X .NotIn i o (c4C ty td):=by
 ext v
 refine R1 (hi pins s σ H _ I h) λiv s1 h0=>u8 h0 λy H1 I1 ry q1=>R1 (ho pins s1 σ H1 _ I1 q1) λu s2 ⟨x,H2,I2,rx,a,ov,ex,g,q2⟩=> ?_;subst ex;obtain rfl:u=Value.ref a:=rx;exact c3l hu I2 g ry λs3 I3=>⟨.bl (!ov.isSome),H2,I3,rfl,q2⟩
theorem b4h(hu:X.A.units+1<cLine)(ho:PE X o td)(hi:PE X i ty)(hv:PE X value tv)(hs:swapsWith value (ξ (.Subscript o i pos')) pos.line X.env=pure false):
 PS X (.Assign [.Subscript o i pos'] value pos) (c7t td ty tv):=by
 intro pins s σ H D I h
 refine wpAny_Assign_Subscript (R1 (hv pins s σ H _ I h) λr s1 h0=>u8 h0 λv H1 I1 rv q1=>R1 (ho pins s1 σ H1 _ I1 q1) λu s2 h0=>u8 h0 λx H2 I2 rx q2=>R1 (hi pins s2 σ H2 _ I2 q2) λiv s3 ⟨y,H3,I3,ry,a,H4,ex,g,q3⟩=> ?_) hs
 subst ex
 obtain rfl:u=Value.ref a:=rx
 exact b9f hu I3 g ry rv λs4 I4=>⟨σ,H4,I4,q3⟩
end
theorem b4Y{P:AJ}{w:AH}{H:Hp}(h:Heap)(hb:sysModules<h.objs.size):Q1 P w H (h.push {cls:= .type "dict",data:= .dict #[]}) h.objs.size (.dK []):=
 ⟨Nat.zero_le _,beq_eq_false_iff_ne.mpr (Ne.symm (As hb)),[],.nil,Heap.DictOf.new h⟩
theorem c0O{P:AJ}{w:AH}{H:Hp}(h:Heap)(hb:sysModules<h.objs.size):Q1 P w H (h.push {cls:= .type "dict",data:= .dict #[]}) h.objs.size (.dT []):=
 ⟨Nat.zero_le _,beq_eq_false_iff_ne.mpr (Ne.symm (As hb)),[],.nil,_, #[],0,At _ rfl,⟨rfl,rfl,rfl⟩,rfl,rfl,List.nodup_nil⟩
def c6E:TE:=λ_ H Q=>∀p,H p=ζ->Q (.ref p) (upd H p (.dK []))
def c6F:TE:=λ_ H Q=>∀p,H p=ζ->Q (.ref p) (upd H p (.dT []))
section
variable {X:Cx}{pos:Pos}
theorem c15:PE X (.Dict [] [] pos) c6E:=λpins s σ H Q I h=>
 wpAny_Dict_empty ⟨.ref s.heap.objs.size,_,I.laid (a:=s.heap.objs.size) (o:= .dK []) (t':=s.toks) (λ_ _ q=>Am _ q) (AN _) (b4Y s.heap I.big),rfl,h _ (I.hok.fresh (AN _))⟩
theorem c16:PE X (.Dict [] [] pos) c6F:=λpins s σ H Q I h=>
 wpAny_Dict_empty ⟨.ref s.heap.objs.size,_,I.laid (a:=s.heap.objs.size) (o:= .dT []) (t':=s.toks) (λ_ _ q=>Am _ q) (AN _) (c0O s.heap I.big),rfl,h _ (I.hok.fresh (AN _))⟩
end
section
variable {X:Cx}{pins:List (AB×Obj)}{σ:St}{H:Hp}{s:AC}{a:AB}{y d:V}{u r:AA}{o:Υ V}{A:AM}{E:AA->AC->Prop}
end
section
variable {X:Cx}{o e f:AF}{apos cpos:Pos}{td ty tx:TE}
end
section
variable {X:Cx}{pins:List (AB×Obj)}{σ:St}{H:Hp}{s:AC}{a:AB}{kvs:List (m7×V)}{A:AM}{E:AA->AC->Prop}
end
section
variable {X:Cx}{pins:List (AB×Obj)}{σ:St}{H:Hp}{s:AC}{a:AB}{y:V}{u:AA}{A:AM}{E:AA->AC->Prop}
end
end L2
namespace Att
open PySem PySem.W PySem.Calls PyProof.Rows
section
variable {prog:AJ}{w:AH}{A:AM}{E:AA->AC->Prop}{s:AC}{K:Frag}
end
end Att
namespace L2
open PySem PySem.Spec PyProof.Rows
section
variable {P:AJ}{w:AH}{K:AE}{mg:Str->Υ AA}{base:Heap}
end
section
variable {X:Cx}
end
section
variable {κ:Type}[DecidableEq κ]
end
end L2
set_option maxHeartbeats 4000000
namespace PU
open PySem PySem.Spec PyProof.Rows L2
abbrev PV:=PyData
def TqT(K:AE)(H:Hp)(a:AB)(xs:List V):Prop:=
 H a=ξ (.tup xs)\/∃(o:Obj) (its:Array AA) (n:Nat),K.lookup a=ξ o/\o.cls= .type "tuple"/\o.data= .seq its n/\its.size<=AL/\v7 xs its.toList
theorem TqT.of{K:AE}{H:Hp}{a:AB}{xs:List V}(h:H a=ξ (.tup xs)):TqT K H a xs:= .inl h
theorem TqT.sq{K:AE}{H:Hp}{a:AB}{xs:List V}(h:TqT K H a xs):SqT K H a xs:=h.elim (λh=> .inl (.inl h)) .inr
theorem c4u{K:AE}{H H':Hp}{a:AB}{xs:List V}(s:m5 H H')(h:TqT K H a xs):TqT K H' a xs:=h.elim (λh=> .inl (s _ _ h)) .inr
def b7F(K:AE)(x:Str)(v:V):Prop:=∃(a:AB) (oc:AA) (od:Υ AB) (fd:FuncData) (osl:Array (Υ AA)),v= .ref a/\K.lookup a=ξ ⟨oc,od,.func fd,osl⟩/\fd.name=x
def a9n(K:AE)(x:Str)(C:AB):Prop:=PySem.W.nsIn K mainGlobals x=ξ (ξ (.ref C))/\∃(oc:AA) (od:Υ AB) (cd:ClassData) (osl:Array (Υ AA)),K.lookup C=ξ ⟨oc,od,.cls cd,osl⟩/\cd.name=x
theorem a9n.inj{K:AE}{x y:Str}{C:AB}(h:a9n K x C)(h':a9n K y C):x=y:=by
 obtain⟨_,_,_,_,_,k,n⟩:=h;obtain⟨_,_,_,_,_,k',n'⟩:=h';rw [k] at k';cases k';rw [<-n,n']
def c7N(K:AE)(H:Hp)(x:Str)(v:V):Prop:=∃(a C:AB) (φ:Heap->Prop),v= .ref a/\H a=ξ (.ext φ)/\
 (∀h:Heap,φ h->∃oe vs,h.get? a=ξ oe/\oe.cls= .ref C/\oe.data= .fields vs/\oe.dict=ζ)/\a9n K x C
def b8X(K:AE)(H:Hp)(x:Str)(t:PV)(v:V):Prop:=(t= .none/\b7F K x v)\/(t= .bool true/\c7N K H x v)
theorem b8X.ref{K:AE}{H:Hp}{x:Str}{t:PV}{v:V}(h:b8X K H x t v):∃a,v= .ref a:=by
 rcases h with⟨_,a,_,_,_,_,e,_⟩|⟨_,a,_,_,e,_⟩<;>exact⟨a,e⟩
theorem b8X.mono{K:AE}{H H':Hp}{x:Str}{t:PV}{v:V}(s:m5 H H')(h:b8X K H x t v):b8X K H' x t v:=by
 rcases h with h|⟨z,a,C,φ,e,q,r⟩
 ·exact .inl h
 ·exact .inr ⟨z,a,C,φ,e,s _ _ q,r⟩
def b6o(K:AE)(H:Hp)(x:Str)(m:V)(fs:List (Str×V))(v:V):Prop:=
 (m= .bl false/\∃a C dx,v= .ref a/\H a=ξ (.ins C dx fs)/\a9n K x C)\/
 (m= .int 0/\∃(a C dx:AB) (φ:Heap->Prop),v= .ref a/\H a=ξ (.ext φ)/\(∀h:Heap,φ h->∃oe vs,h.get? a=ξ oe/\oe.cls= .ref C/\oe.data= .fields vs/\oe.dict=ξ dx)/\H dx=ξ (.xd fs)/\a9n K x C)
theorem b6o.ref{K:AE}{H:Hp}{x:Str}{m:V}{fs:List (Str×V)}{v:V}(h:b6o K H x m fs v):∃a,v= .ref a:=by
 rcases h with⟨_,a,_,_,e,_⟩|⟨_,a,_,_,_,e,_⟩<;>exact⟨a,e⟩
theorem b6o.mono{K:AE}{H H':Hp}{x:Str}{m:V}{fs:List (Str×V)}{v:V}(s:m5 H H')(h:b6o K H x m fs v):b6o K H' x m fs v:=by
 rcases h with⟨z,a,C,dx,e,q,n⟩|⟨z,a,C,dx,φ,e,q,r,d,n⟩
 ·exact .inl ⟨z,a,C,dx,e,s _ _ q,n⟩
 ·exact .inr ⟨z,a,C,dx,φ,e,s _ _ q,r,s _ _ d,n⟩
def kP:m7->PV
 | .inl i=> .int i
 | .inr x=> .str x
def s1{α:Type}(kv:m7×α):List m7×α:=([kv.1],kv.2)
mutual
def J7(K:AE)(H:Hp):PV->V->Prop
 | .none,v=>v= .non
 | .bool b,v=>v= .bl b
 | .int i,v=>v= .int i
 | .str x,v=>v= .str x
 | .tuple ps,v=>∃a xs,v= .ref a/\TqT K H a xs/\o0 K H ps xs
 | .list ps,v=>∃a xs,v= .ref a/\SqL K H a xs/\o0 K H ps xs
 | .dict kvs,v=>(∃a ys,v= .ref a/\H a=ξ (.dK ys)/\a5j K H kvs (ys.map s1))\/(∃a xs,v= .ref a/\H a=ξ (.dT xs)/\a5j K H kvs (([],.non)::xs))\/(∃x t,kvs=[(.str x,t)]/\b8X K H x t v)\/(∃x m fs,b6o K H x m fs v/\b12 K H kvs ((x,m)::fs))
def o0(K:AE)(H:Hp):List PV->List V->Prop
 |[],vs=>vs=[]
 |p::ps,vs=>∃v r,vs=v::r/\J7 K H p v/\o0 K H ps r
def a5j(K:AE)(H:Hp):List (PV×PV)->List (List m7×V)->Prop
 |[],ys=>ys=[]
 |(k,p)::r,ys=>∃kk v t,ys=(kk,v)::t/\k= .tuple (kk.map kP)/\J7 K H p v/\a5j K H r t
def b12(K:AE)(H:Hp):List (PV×PV)->List (Str×V)->Prop
 |[],ys=>ys=[]
 |(k,p)::r,ys=>∃f v t,ys=(f,v)::t/\k= .str f/\J7 K H p v/\b12 K H r t
end
theorem A7{K:AE}{H H':Hp}{a:AB}{xs:List V}(s:m5 H H')(h:SqT K H a xs):SqT K H' a xs:=by
 rcases h with(h|⟨o,h⟩)|h
 ·exact .inl (.inl (s _ _ h))
 ·exact .inl (.inr ⟨o,s _ _ h⟩)
 ·exact .inr h
theorem Y1{K:AE}{H H':Hp}{a:AB}{xs:List V}(s:m5 H H')(h:SqL K H a xs):SqL K H' a xs:=by
 rcases h with(h|⟨o,h⟩)|h
 ·exact .inl (.inl (s _ _ h))
 ·exact .inl (.inr ⟨o,s _ _ h⟩)
 ·exact .inr h
mutual
theorem J7.mono{K:AE}{H H':Hp}(s:m5 H H'):∀(p:PV) {v:V},J7 K H p v->J7 K H' p v
 | .none,_,h=>h
 | .bool _,_,h=>h
 | .int _,_,h=>h
 | .str _,_,h=>h
 | .dict kvs,_,.inl ⟨a,ys,q,h,r⟩=> .inl ⟨a,ys,q,s _ _ h,a5j.mono s kvs r⟩
 | .dict kvs,_,.inr (.inl ⟨a,xs,q,h,r⟩)=> .inr (.inl ⟨a,xs,q,s _ _ h,a5j.mono s kvs r⟩)
 | .dict _,_,.inr (.inr (.inl ⟨x,t,e,h⟩))=> .inr (.inr (.inl ⟨x,t,e,h.mono s⟩))
 | .dict kvs,_,.inr (.inr (.inr ⟨x,m,fs,h,r⟩))=> .inr (.inr (.inr ⟨x,m,fs,h.mono s,b12.mono s kvs r⟩))
 | .tuple ps,_,⟨a,xs,e,q,r⟩=>⟨a,xs,e,c4u s q,o0.mono s ps r⟩
 | .list ps,_,⟨a,xs,e,q,r⟩=>⟨a,xs,e,Y1 s q,o0.mono s ps r⟩
theorem o0.mono{K:AE}{H H':Hp}(s:m5 H H'):∀(ps:List PV) {vs:List V},o0 K H ps vs->o0 K H' ps vs
 |[],_,h=>h
 |p::ps,_,⟨v,r,e,q,t⟩=>⟨v,r,e,J7.mono s p q,o0.mono s ps t⟩
theorem a5j.mono{K:AE}{H H':Hp}(s:m5 H H'):∀(es:List (PV×PV)) {ys:List (List m7×V)},a5j K H es ys->a5j K H' es ys
 |[],_,h=>h
 |(k,p)::es,_,⟨kk,v,r,e,z,q,t⟩=>⟨kk,v,r,e,z,J7.mono s p q,a5j.mono s es t⟩
theorem b12.mono{K:AE}{H H':Hp}(s:m5 H H'):∀(es:List (PV×PV)) {ys:List (Str×V)},b12 K H es ys->b12 K H' es ys
 |[],_,h=>h
 |(k,p)::es,_,⟨kk,v,r,e,z,q,t⟩=>⟨kk,v,r,e,z,J7.mono s p q,b12.mono s es t⟩
end
theorem o0.length{K:AE}{H:Hp}:∀{ps:List PV} {vs:List V},o0 K H ps vs->vs.length=ps.length
 |[],_,h=>by cases h;rfl
 |_::ps,_,⟨v,r,e,_,t⟩=>by subst e;rw [AU,AU,o0.length t]
theorem o0.get{K:AE}{H:Hp}:∀{ps:List PV} {vs:List V} {i:Nat} {p:PV},o0 K H ps vs->ps[i]?=ξ p->∃v,vs[i]?=ξ v/\J7 K H p v
 |[],_,_,_,_,h=>by simp at h
 |q::ps,_,0,p,⟨v,r,e,a,t⟩,h=>by subst e;simp at h;subst h;exact⟨v,rfl,a⟩
 |q::ps,_,i+1,p,⟨v,r,e,a,t⟩,h=>by subst e;exact o0.get (i:=i) t (by simpa using h)
theorem o0.getV{K:AE}{H:Hp}:∀{ps:List PV} {vs:List V} {i:Nat} {v:V},o0 K H ps vs->vs[i]?=ξ v->∃p,ps[i]?=ξ p/\J7 K H p v
 |[],_,_,_,h,e=>by cases h;simp at e
 |q::ps,_,0,v,⟨w,r,e,a,t⟩,h=>by subst e;simp at h;subst h;exact⟨q,rfl,a⟩
 |q::ps,_,i+1,v,⟨w,r,e,a,t⟩,h=>by subst e;exact o0.getV (i:=i) t (by simpa using h)
theorem o0.append{K:AE}{H:Hp}:∀{ps qs:List PV} {vs ws:List V},o0 K H ps vs->o0 K H qs ws->o0 K H (ps++qs) (vs++ws)
 |[],_,_,_,h,t=>by cases h;exact t
 |_::ps,_,_,_,⟨v,r,e,a,t⟩,s=>by subst e;exact⟨v,_,rfl,a,o0.append t s⟩
theorem o0.drop{K:AE}{H:Hp}:∀{ps:List PV} {vs:List V} (n:Nat),o0 K H ps vs->o0 K H (ps.drop n) (vs.drop n)
 |_,_,0,h=>h
 |[],_,n+1,h=>by cases h;rfl
 |_::ps,_,n+1,⟨v,r,e,a,t⟩=>by subst e;exact o0.drop n t
theorem o0.take{K:AE}{H:Hp}:∀{ps:List PV} {vs:List V} (n:Nat),o0 K H ps vs->o0 K H (ps.take n) (vs.take n)
 |_,_,0,h=>rfl
 |[],_,n+1,h=>by cases h;rfl
 |_::ps,_,n+1,⟨v,r,e,a,t⟩=>by subst e;exact⟨v,_,rfl,a,o0.take n t⟩
abbrev Γ:=List (List m7×PV)
def E3(K:AE)(H:Hp):Γ->List (List m7×V)->Prop
 |[],ys=>ys=[]
 |(k,p)::r,ys=>∃v t,ys=(k,v)::t/\J7 K H p v/\E3 K H r t
theorem E3.mono{K:AE}{H H':Hp}(s:m5 H H'):∀(kvs:Γ) {ys:List (List m7×V)},E3 K H kvs ys->E3 K H' kvs ys
 |[],_,h=>h
 |(k,p)::r,_,⟨v,t,e,q,h⟩=>⟨v,t,e,J7.mono s p q,E3.mono s r h⟩
inductive a2c where
 |lst (ps:List PV)|dct (kvs:Γ)|txt (kvs:Γ)
inductive d4 where
 |v (p:PV)|ow (c:a2c)|bo (c:a2c)
abbrev d4.own(ps:List PV):d4:= .ow (.lst ps)
abbrev d4.bor(ps:List PV):d4:= .bo (.lst ps)
abbrev d4.dct(kvs:Γ):d4:= .ow (.dct kvs)
def a00(K:AE)(F H:Hp)(v:V):a2c->Prop
 | .lst ps=>∃a xs,v= .ref a/\F a=ζ/\H a=ξ (.lst xs)/\o0 K F ps xs
 | .dct kvs=>∃a xs,v= .ref a/\F a=ζ/\H a=ξ (.dT xs)/\E3 K F kvs xs
 | .txt kvs=>∃a xs,v= .ref a/\F a=ζ/\H a=ξ (.dK xs)/\E3 K F kvs (xs.map s1)
def U1(K:AE)(F H:Hp)(v:V):d4->Prop
 | .v p=>J7 K F p v
 | .ow c=>a00 K F H v c
 | .bo c=>a00 K F H v c
theorem a00.at_{K:AE}{F H:Hp}{v:V}:∀{c:a2c},a00 K F H v c->∃a o,v= .ref a/\F a=ζ/\H a=ξ o
 | .lst _,⟨a,_,e,n,q,_⟩=>⟨a,_,e,n,q⟩
 | .dct _,⟨a,_,e,n,q,_⟩=>⟨a,_,e,n,q⟩
 | .txt _,⟨a,_,e,n,q,_⟩=>⟨a,_,e,n,q⟩
def NT(o:HO):Prop:=∀xs,o≠.tup xs
structure Ext(F H F' H':Hp):Prop where
 f:m5 F F'
 h:m5 H H'
 fh:m5 F' H'
 nw:∀b o,F b=ζ->H b=ξ o->NT o->F' b=ζ
 nf:∀b o u,F' b=ξ (.frz o u)->F b=ξ (.frz o u)
theorem m5.refl(H:Hp):m5 H H:=λ_ _ e=>e
theorem Ext.refl{F H:Hp}(s:m5 F H):Ext F H F H:=⟨m5.refl F,m5.refl H,s,λ_ _ e _ _=>e,λ_ _ _ e=>e⟩
theorem Ext.trans{F H F1 H1 F2 H2:Hp}(a:Ext F H F1 H1)(b:Ext F1 H1 F2 H2):Ext F H F2 H2:=
 ⟨a.f.trans b.f,a.h.trans b.h,b.fh,λc o e q t=>b.nw c o (a.nw c o e q t) (a.h c o q) t,λc o u e=>a.nf c o u (b.nf c o u e)⟩
theorem c1S{F0 F:Hp}{a:AB}{xs:List V}(h:∀b o u,F b=ξ (.frz o u)->F0 b=ξ (.frz o u)):∀b o u,upd F a (.lst xs) b=ξ (.frz o u)->F0 b=ξ (.frz o u):=λb o u z=>by
 by_cases hb:b=a
 ·subst hb;rw [n6] at z;cases z
 ·rw [m4 hb] at z;exact h _ _ _ z
theorem a00.ext{K:AE}{F H F' H':Hp}{v:V}(x:Ext F H F' H'):∀{c:a2c},a00 K F H v c->a00 K F' H' v c
 | .lst _,⟨a,xs,e,n,q,r⟩=>⟨a,xs,e,x.nw _ _ n q (λ_ h=>nomatch h),x.h _ _ q,o0.mono x.f _ r⟩
 | .dct _,⟨a,xs,e,n,q,r⟩=>⟨a,xs,e,x.nw _ _ n q (λ_ h=>nomatch h),x.h _ _ q,E3.mono x.f _ r⟩
 | .txt _,⟨a,xs,e,n,q,r⟩=>⟨a,xs,e,x.nw _ _ n q (λ_ h=>nomatch h),x.h _ _ q,E3.mono x.f _ r⟩
theorem U1.ext{K:AE}{F H F' H':Hp}{v:V}(x:Ext F H F' H'):∀{r:d4},U1 K F H v r->U1 K F' H' v r
 | .v p,h=>J7.mono x.f p h
 | .ow _,h=>a00.ext x h
 | .bo _,h=>a00.ext x h
def a2c.rd:a2c->PV
 | .lst ps=> .list ps
 | .dct kvs=> .dict ((.tuple [],.none)::kvs.map λkv=>(.tuple (kv.1.map kP),kv.2))
 | .txt kvs=> .dict (kvs.map λkv=>(.tuple (kv.1.map kP),kv.2))
def d4.rd:d4->PV
 | .v p=>p
 | .ow c=>c.rd
 | .bo c=>c.rd
def d4.toVal:d4->Υ PV
 | .v p=>ξ p
 | .ow (.lst ps)=>ξ (.list ps)
 | .ow (.dct _)=>ζ
 | .ow (.txt _)=>ζ
 | .bo _=>ζ
theorem a5j.of{K:AE}{F H:Hp}(s:m5 F H):∀{kvs:Γ} {xs:List (List m7×V)},E3 K F kvs xs->a5j K H (kvs.map λkv=>(PyData.tuple (kv.1.map kP),kv.2)) xs
 |[],_,h=>h
 |(k,p)::r,_,⟨v,t,e,q,h⟩=>⟨k,v,t,e,rfl,J7.mono s p q,a5j.of s h⟩
theorem a00.rd{K:AE}{F H:Hp}{v:V}(s:m5 F H):∀{c:a2c},a00 K F H v c->J7 K H c.rd v
 | .lst ps,⟨a,xs,e,n,q,r⟩=>⟨a,xs,e,SqL.of q,o0.mono s _ r⟩
 | .dct kvs,⟨a,xs,e,n,q,r⟩=> .inr (.inl ⟨a,xs,e,q,[],.non,xs,rfl,rfl,rfl,a5j.of s r⟩)
 | .txt kvs,⟨a,xs,e,n,q,r⟩=> .inl ⟨a,xs,e,q,a5j.of s r⟩
theorem U1.rd{K:AE}{F H:Hp}{v:V}(s:m5 F H):∀{r:d4},U1 K F H v r->J7 K H r.rd v
 | .v p,h=>J7.mono s p h
 | .ow _,h=>a00.rd s h
 | .bo _,h=>a00.rd s h
structure B4(K:AE)(F H F' H':Hp)(v:V)(r:d4):Prop where
 x:Ext F H F' H'
 rep:U1 K F' H' v r
 fr:∀c a,r= .ow c->v= .ref a->H a=ζ
theorem B4.val{K:AE}{F H F' H':Hp}{v:V}{p:PV}(x:Ext F H F' H')(r:J7 K F' p v):B4 K F H F' H' v (.v p):=⟨x,r,λ_ _ e=>nomatch e⟩
theorem B4.here{K:AE}{F H:Hp}{v:V}{p:PV}(s:m5 F H)(r:J7 K F p v):B4 K F H F H v (.v p):=B4.val (Ext.refl s) r
theorem B4.trans{K:AE}{F H F1 H1 F2 H2:Hp}{v:V}{r:d4}(a:Ext F H F1 H1)(b:B4 K F1 H1 F2 H2 v r):B4 K F H F2 H2 v r:=
 ⟨a.trans b.x,b.rep,λps c e q=>a.h.free (b.fr ps c e q)⟩
theorem B4.toVal{K:AE}{F H F' H':Hp}{v:V}{p:PV}:∀{r:d4},B4 K F H F' H' v r->r.toVal=ξ p->∃F2,B4 K F H F2 H' v (.v p)
 | .v q,o,e=>by cases e;exact⟨F',o⟩
 | .bo _,_,e=>nomatch e
 | .ow (.dct _),_,e=>nomatch e
 | .ow (.txt _),_,e=>nomatch e
 | .ow (.lst ps),o,e=>by
   cases e;obtain⟨a,xs,rfl,n,q,r⟩:=o.rep;have fr:=o.fr _ a rfl rfl;have up:m5 F' (upd F' a (.lst xs)):=λb u z=>by rw [m4 (v6 z n)];exact z
   refine⟨upd F' a (.lst xs),B4.val ⟨o.x.f.trans up,o.x.h,λb u z=> ?_,λb u z y t=> ?_,c1S o.x.nf⟩ ⟨a,xs,rfl,SqL.of n6,o0.mono up _ r⟩⟩
   ·by_cases hb:b=a
    ·subst hb;rw [n6] at z;cases z;exact q
    ·rw [m4 hb] at z;exact o.x.fh _ _ z
   ·rw [m4 (v6 y fr)];exact o.x.nw b u z y t
theorem P9{H:Hp}{a:AB}{o:HO}(n:H a=ζ):m5 H (upd H a o):=λb u z=>by rw [m4 (v6 z n)];exact z
theorem Ext.lay{F H:Hp}{a:AB}{o:HO}(s:m5 F H)(n:H a=ζ)(hf:∀x u,o≠.frz x u:=by intro _ _ h;cases h):Ext F H (upd F a o) (upd H a o):=
 ⟨P9 (s.free n),P9 n,λb u z=>by
  by_cases hb:b=a
  ·subst hb;rw [n6] at z ⊢;exact z
  ·rw [m4 hb] at z ⊢;exact s _ _ z,λb u z y _=>by rw [m4 (v6 y n)];exact z,λb w u z=>by
  by_cases hb:b=a
  ·subst hb;rw [n6] at z;exact absurd (Option.some.inj z) (hf w u)
  ·rw [m4 hb] at z;exact z⟩
theorem Ext.layH{F H:Hp}{a:AB}{o:HO}(s:m5 F H)(n:H a=ζ):Ext F H F (upd H a o):=
 ⟨m5.refl F,P9 n,λb u z=>by rw [m4 (v6 (s _ _ z) n)];exact s _ _ z,λb u z y _=>z,λ_ _ _ z=>z⟩
theorem B4.tup{K:AE}{F H:Hp}{a:AB}{xs:List V}{ps:List PV}(s:m5 F H)(n:H a=ζ)(r:o0 K F ps xs):B4 K F H (upd F a (.tup xs)) (upd H a (.tup xs)) (.ref a) (.v (.tuple ps)):=
 B4.val (Ext.lay s n) ⟨a,xs,rfl,TqT.of n6,o0.mono (P9 (s.free n)) _ r⟩
theorem B4.lst{K:AE}{F H:Hp}{a:AB}{xs:List V}{ps:List PV}(s:m5 F H)(n:H a=ζ)(r:o0 K F ps xs):B4 K F H F (upd H a (.lst xs)) (.ref a) (.own ps):=
 ⟨Ext.layH s n,⟨a,xs,rfl,s.free n,n6,r⟩,λ_ _ _ e=>by cases e;exact n⟩
abbrev c9:=List (Υ d4)
structure M6(K:AE)(F H:Hp)(σ:L2.St)(ρ:c9):Prop where
 fh:m5 F H
 len:σ.length=ρ.length
 at_:∀(i:Nat) (r:d4),ρ[i]?=ξ (ξ r)->∃v,σ[i]?=ξ (ξ v)/\U1 K F H v r
 nb:∀(i:Nat) (c:a2c),ρ[i]?≠ξ (ξ (.bo c))
 ap:∀(i j:Nat) (c d:a2c) (a:AB),i≠j->ρ[i]?=ξ (ξ (.ow c))->ρ[j]?=ξ (ξ (.ow d))->σ[i]?=ξ (ξ (.ref a))->σ[j]?≠ξ (ξ (.ref a))
theorem M6.ext{K:AE}{F H F' H':Hp}{σ:L2.St}{ρ:c9}(e:M6 K F H σ ρ)(x:Ext F H F' H'):M6 K F' H' σ ρ:=
 ⟨x.fh,e.len,λi r q=>let ⟨v,a,b⟩:=e.at_ i r q;⟨v,a,b.ext x⟩,e.nb,e.ap⟩
abbrev M:=c9->Υ d4
def tM(K:AE)(m:M):TE:=λσ H Q=>∃F ρ r,M6 K F H σ ρ/\m ρ=ξ r/\∀v F' H',B4 K F H F' H' v r->Q v H'
abbrev EE(X:Cx)(e:AF)(m:M):Prop:=PE X e (tM X.K m)
theorem B9{X:Cx}{e:AF}{t t':TE}(h:PE X e t)(i:∀σ H Q,t' σ H Q->t σ H Q):PE X e t':=λpins s σ H Q I q=>h pins s σ H Q I (i σ H Q q)
theorem a9g{X:Cx}{e:AF}{t t':TT}(h:PT X e t)(i:∀σ H Q,t' σ H Q->t σ H Q):PT X e t':=λpins s σ H Q I q=>h pins s σ H Q I (i σ H Q q)
theorem c2j{X:Cx}{e:AF}{t t':TT}(h:PW X e t)(i:∀σ H Q,t' σ H Q->t σ H Q):PW X e t':=λwh pins s σ H Q I q=>h wh pins s σ H Q I (i σ H Q q)
theorem c12{X:Cx}{e:List AF}{t t':TA}(h:PA X e t)(i:∀σ H Q,t' σ H Q->t σ H Q):PA X e t':=λpos pins s σ H Q I q=>h pos pins s σ H Q I (i σ H Q q)
theorem G9{X:Cx}{e:Stmt}{t t':TS}(h:PS X e t)(i:∀D σ H,t' D σ H->t D σ H):PS X e t':=λpins s σ H D I q=>h pins s σ H D I (i D σ H q)
theorem a0L{X:Cx}{e:List Stmt}{t t':TS}(h:PSs X e t)(i:∀D σ H,t' D σ H->t D σ H):PSs X e t':=λpins s σ H D I q=>h pins s σ H D I (i D σ H q)
def mC(p:PV):M:=λ_=>ξ (.v p)
def a8(i:Nat):M:=λρ=>match ρ[i]? with
 |some (ξ (.ow c))=>ξ (.bo c)
 |some (ξ r)=>ξ r
 |_=>ζ
section
variable {X:Cx}{a b c:AF}{ma mb mc:M}{pos:Pos}
theorem a3L{e:AF}{v:V}{p:PV}(h:PE X e (tC v))(r:∀H,J7 X.K H p v):EE X e (mC p):=
 B9 h λσ H Q h0=>A1 h0 λF ρ q he hm k=>by
  cases hm;exact k v F H (B4.here he.fh (r F))
theorem b4{i j pos}:EE X (.Constant (.int i) j pos) (mC (.int i)):=a3L c6b λ_=>rfl
theorem a0w{b j pos}:EE X (.Constant (.bool b) j pos) (mC (.bool b)):=a3L c7j λ_=>rfl
theorem B8{j pos}:EE X (.Constant .none j pos) (mC .none):=a3L c6d λ_=>rfl
theorem j9{x j pos}:EE X (.Constant (.str x) j pos) (mC (.str x)):=a3L c6g λ_=>rfl
theorem a5(i:Nat){x:Str}{pos:Pos}(h:PE X (.Name x pos) (a2P i)):EE X (.Name x pos) (a8 i):=
 B9 h λσ H Q h0=>A1 h0 λF ρ r he hm k=>by
  unfold a8 at hm;split at hm
  ·rename_i ps e;cases hm;obtain⟨v,e1,rr⟩:=he.at_ i _ e;exact⟨v,e1,k v F H ⟨Ext.refl he.fh,rr,λ_ _ z=>nomatch z⟩⟩
  ·rename_i r' nn e;cases hm;obtain⟨v,e1,rr⟩:=he.at_ i _ e;exact⟨v,e1,k v F H ⟨Ext.refl he.fh,rr,λps _ z=>absurd z (nn ps)⟩⟩
  ·cases hm
def rM2(K:AE)(g:d4->d4->Υ d4):R2:=λx y H Q=>∃F rx ry rz,m5 F H/\U1 K F H x rx/\U1 K F H y ry/\g rx ry=ξ rz/\∀v F' H',B4 K F H F' H' v rz->Q v H'
abbrev OpM(X:Cx)(f:AA->AA->Sem AA)(g:d4->d4->Υ d4):Prop:=OpR X f (rM2 X.K g)
def m2(g:d4->d4->Υ d4)(ma mb:M):M:=λρ=>(ma ρ).bind λx=>(mb ρ).bind λy=>g x y
theorem bind_some{α β:Type}{o:Υ α}{f:α->Υ β}{b:β}(h:o.bind f=ξ b):∃a,o=ξ a/\f a=ξ b:=by
 cases o with
 |none=>cases h
 |some a=>exact⟨a,rfl,h⟩
theorem b4s{K:AE}{g:d4->d4->Υ d4}{σ:L2.St}{H:Hp}{Q:VK}(h:tM K (m2 g ma mb) σ H Q):tOp (rM2 K g) (tM K ma) (tM K mb) σ H Q:=by
 obtain⟨F,ρ,r,he,hm,k⟩:=h
 ext z
 exact⟨F,ρ,rx,he,e1,λv F1 H1 o1=>⟨F1,ρ,ry,he.ext o1.x,e2,λu F2 H2 o2=>⟨F2,rx,ry,r,o2.x.fh,o1.rep.ext o2.x,o2.rep,hm,λz F3 H3 o3=>k z F3 H3 (B4.trans (o1.x.trans o2.x) o3)⟩⟩⟩
theorem d5{op:Operator}{g:d4->d4->Υ d4}(ho:OpM X (binaryOp op) g)(ha:EE X a ma)(hb:EE X b mb):EE X (.BinOp a op b pos) (m2 g ma mb):=
 B9 (c7l ho ha hb) λ_ _ _ h=>b4s h
theorem b3D{op:CmpOp}{g:d4->d4->Υ d4}(ho:OpM X (compareOp op) g)(ha:EE X a ma)(hb:EE X b mb)(hm:behindInMarks op b=false):EE X (.Compare a [op] [b] pos) (m2 g ma mb):=
 B9 (c4f ho ha hb hm) λ_ _ _ h=>b4s h
theorem a9f{f:AA->AA->Sem AA}{r:R2}{g:d4->d4->Υ d4}(h:OpR X f r)
 (i:∀F H x y rx ry rz,m5 F H->U1 X.K F H x rx->U1 X.K F H y ry->g rx ry=ξ rz->∀Q:VK,(∀v F' H',B4 X.K F H F' H' v rz->Q v H')->r x y H Q):OpM X f g:=
 λpins s σ H x y v u Q I rx ry ⟨F,ra,rb,rz,s0,h1,h2,h3,k⟩=>h pins s σ H x y v u Q I rx ry (i F H x y ra rb rz s0 h1 h2 h3 Q k)
end
def gI(f:Int->Int->PV):d4->d4->Υ d4
 | .v (.int i),.v (.int j)=>ξ (.v (f i j))
 |_,_=>ζ
theorem c1T:∃f:(Int->Int->Prop)->Int->Int->Bool,∀C i j,f C i j=true↔C i j:=⟨λC i j=> @decide (C i j) (Classical.propDecidable _),λC i j=> @decide_eq_true_iff (C i j) (Classical.propDecidable _)⟩
def okC:(Int->Int->Prop)->Int->Int->Bool:=c1T.choose
theorem a28{C:Int->Int->Prop}{i j:Int}:okC C i j=true↔C i j:=c1T.choose_spec C i j
def gIc(C:Int->Int->Prop)[∀i j,Decidable (C i j)](f:Int->Int->PV):d4->d4->Υ d4
 | .v (.int i),.v (.int j)=>if okC C i j=true then ξ (.v (f i j)) else ζ
 |_,_=>ζ
abbrev Θ:=gIc (λ_ j=>0<j) λi j=> .int (i % j)
theorem b79{f:Int->Int->PV}{rx ry rz:d4}(h:gI f rx ry=ξ rz):∃i j,rx= .v (.int i)/\ry= .v (.int j)/\rz= .v (f i j):=by
 unfold gI at h;split at h
 ·cases h;exact⟨_,_,rfl,rfl,rfl⟩
 ·cases h
theorem c1f{C:Int->Int->Prop}[∀i j,Decidable (C i j)]{f:Int->Int->PV}{rx ry rz:d4}(h:gIc C f rx ry=ξ rz):∃i j,rx= .v (.int i)/\ry= .v (.int j)/\C i j/\rz= .v (f i j):=by
 unfold gIc at h;split at h
 ·split at h
  ·rename_i c;cases h;exact⟨_,_,rfl,rfl,a28.mp c,rfl⟩
  ·cases h
 ·cases h
section
variable {X:Cx}
theorem b8v{f:AA->AA->Sem AA}{g:Int->Int->V}{g':Int->Int->PV}(h:OpR X f (rI0 g))(e:∀i j H,J7 X.K H (g' i j) (g i j)):OpM X f (gI g'):=
 a9f h λF H x y rx ry rz s h1 h2 h3 Q k=>by
  obtain⟨i,j,rfl,rfl,rfl⟩:=b79 h3;exact⟨i,j,h1,h2,k _ F H (B4.here s (e i j F))⟩
theorem b4e{f:AA->AA->Sem AA}{C:Int->Int->Prop}[∀i j,Decidable (C i j)]{g:Int->Int->V}{g':Int->Int->PV}(h:OpR X f (rI C g))(e:∀i j H,J7 X.K H (g' i j) (g i j)):OpM X f (gIc C g'):=
 a9f h λF H x y rx ry rz s h1 h2 h3 Q k=>by
  obtain⟨i,j,rfl,rfl,c,rfl⟩:=c1f h3;exact⟨i,j,h1,h2,c,k _ F H (B4.here s (e i j F))⟩
end
mutual
def y8:PV->Nat->Bool
 | .list xs,n+1=>J9 xs n
 | .tuple xs,n+1=>J9 xs n
 | .list _,0=>false
 | .tuple _,0=>false
 | .dict _,_=>false
 | .none,_=>true
 | .bool _,_=>true
 | .int _,_=>true
 | .str _,_=>true
def J9:List PV->Nat->Bool
 |[],_=>true
 |x::xs,n=>y8 x n && J9 xs n
end
section
variable {X:Cx}{pins:List (AB×Obj)}{σ:L2.St}{H:Hp}{s:AC}
theorem a5P(I:m6 X pins σ H s){a:AB}{xs ys:List V}(h:SqL X.K H a xs)(h':SqT X.K H a ys):False:=by
 obtain⟨its,r,p,_⟩:=I.list h;obtain⟨its',r',p',_⟩:=I.tuple h';exact SeqAt.ne_of_list_tuple p.isList (show s.heap.IsTuple a its'.toArray from p') rfl
theorem c33{K:AE}{F:Hp}{k p:PV}{r:List (PV×PV)}{y:Str}{m v:V}{fs:List (Str×V)}(h:b6o K F y m fs v)(hr:b12 K F ((k,p)::r) ((y,m)::fs)):k= .str y/\(p= .bool false\/p= .int 0)/\b12 K F r fs:=by
 obtain⟨f,w,t,e,z,q,hr⟩:=hr;cases e;refine⟨z, ?_,hr⟩;rcases h with⟨rfl,_⟩|⟨rfl,_⟩
 ·cases p with
  |bool b=>cases q;exact .inl rfl
  |tuple _=>obtain⟨_,_,e,_⟩:=q;cases e
  |list _=>obtain⟨_,_,e,_⟩:=q;cases e
  |dict _=>
   rcases q with⟨_,_,e,_⟩|⟨_,_,e,_⟩|⟨_,_,_,q⟩|⟨_,_,_,q,_⟩
   ·cases e
   ·cases e
   ·obtain⟨_,e⟩:=q.ref;cases e
   ·obtain⟨_,e⟩:=q.ref;cases e
  |_=>cases q
 ·cases p with
  |int b=>cases q;exact .inr rfl
  |tuple _=>obtain⟨_,_,e,_⟩:=q;cases e
  |list _=>obtain⟨_,_,e,_⟩:=q;cases e
  |dict _=>
   rcases q with⟨_,_,e,_⟩|⟨_,_,e,_⟩|⟨_,_,_,q⟩|⟨_,_,_,q,_⟩
   ·cases e
   ·cases e
   ·obtain⟨_,e⟩:=q.ref;cases e
   ·obtain⟨_,e⟩:=q.ref;cases e
  |_=>cases q
mutual
theorem J7.inj(I:m6 X pins σ H s):∀(p q:PV) {v:V} {n m:Nat},y8 p n=true->y8 q m=true->J7 X.K H p v->J7 X.K H q v->p=q
 | .tuple ps,q,v,n,m,hp,hq,⟨a,xs,e,h,r⟩,h'=>by
   subst e;cases q with
   |tuple qs=>
    obtain⟨a',xs',e',h',r'⟩:=h';cases e';cases I.tuple_inj h.sq h'.sq;cases n<;>cases m<;>simp only [y8,BF] at hp hq
    rw [o0.inj I ps qs hp hq r r']
   |list qs=>obtain⟨a',xs',e',h',r'⟩:=h';cases e';exact(a5P I h' h.sq).elim
   |dict qs=>simp [y8] at hq
   |_=>cases h'
 | .list ps,q,v,n,m,hp,hq,⟨a,xs,e,h,r⟩,h'=>by
   subst e;cases q with
   |list qs=>
    obtain⟨a',xs',e',h',r'⟩:=h';cases e';cases I.list_inj h h';cases n<;>cases m<;>simp only [y8,BF] at hp hq
    rw [o0.inj I ps qs hp hq r r']
   |tuple qs=>obtain⟨a',xs',e',h',r'⟩:=h';cases e';exact(a5P I h h'.sq).elim
   |dict qs=>simp [y8] at hq
   |_=>cases h'
 | .dict _,_,_,_,_,hp,_,_,_=>by simp [y8] at hp
 | .none,q,v,n,m,hp,hq,h,h'| .bool _,q,v,n,m,hp,hq,h,h'| .int _,q,v,n,m,hp,hq,h,h'| .str _,q,v,n,m,hp,hq,h,h'=>by
   cases h;cases q with
   |tuple _=>obtain⟨_,_,e,_⟩:=h';cases e
   |list _=>obtain⟨_,_,e,_⟩:=h';cases e
   |dict _=>simp [y8] at hq
   |_=>cases h'<;>rfl
theorem o0.inj(I:m6 X pins σ H s):∀(ps qs:List PV) {vs:List V} {n m:Nat},J9 ps n=true->J9 qs m=true->o0 X.K H ps vs->o0 X.K H qs vs->ps=qs
 |[],qs,vs,n,m,_,_,h,h'=>by
  cases h;cases qs with
  |nil=>rfl
  |cons q qs=>obtain⟨_,_,e,_⟩:=h';cases e
 |p::ps,qs,vs,n,m,hp,hq,⟨v,r,e,h,t⟩,h'=>by
  subst e;cases qs with
  |nil=>cases h'
  |cons q qs=>
   obtain⟨v',r',e',h',t'⟩:=h';cases e';simp only [J9,χ] at hp hq;rw [J7.inj I p q hp.1 hq.1 h h',o0.inj I ps qs hp.2 hq.2 t t']
end
end
mutual
theorem b41:∀(p:PV) (n:Nat),y8 p n=true->η p p=true
 | .none,_,_=>by simp [η]
 | .bool _,_,_=>by simp [η]
 | .int _,_,_=>by simp [η]
 | .str _,_,_=>by simp [η]
 | .list xs,n+1,h=>by simp only [η];exact a3O xs n (by simpa [y8] using h)
 | .tuple xs,n+1,h=>by simp only [η];exact a3O xs n (by simpa [y8] using h)
 | .list xs,0,h=>by simp [y8] at h
 | .tuple xs,0,h=>by simp [y8] at h
 | .dict _,_,h=>by simp [y8] at h
theorem a3O:∀(ps:List PV) (n:Nat),J9 ps n=true->θ ps ps=true
 |[],_,_=>by simp [θ]
 |x::xs,n,h=>by
  have h':y8 x n=true/\J9 xs n=true:=by simpa [J9] using h
  simp only [θ,b41 x n h'.1,a3O xs n h'.2,Bool.and_self]
end
def eAt(ps qs:List PV)(j:Nat):Bool:=match ps[j]?,qs[j]? with
 |some p,ξ q=>η p q
 |_,_=>false
theorem a1T:∀(ps qs:List PV),θ ps qs=((Ab (min ps.length qs.length)).all (eAt ps qs)&& ps.length==qs.length)
 |[],[]=>by simp [θ]
 |[],_::_=>by simp [θ]
 |_::_,[]=>by simp [θ]
 |p::ps,q::qs=>by
  have e:min (p::ps).length (q::qs).length=min ps.length qs.length+1:=by simp only [AU];lia
  rw [e,List.range_succ_eq_map,List.all_cons,List.all_map];have h0:eAt (p::ps) (q::qs) 0=η p q:=rfl;have h1:(eAt (p::ps) (q::qs)∘Nat.succ)=eAt ps qs:=by funext j;simp [eAt,Function.comp]
  rw [h0,h1];simp only [θ,a1T ps qs,AU,Bool.and_assoc];have e2:(ps.length+1==qs.length+1)=(ps.length==qs.length):=by
   rw [Bool.eq_iff_iff];simp
  rw [e2]
section
variable {X:Cx}{pins:List (AB×Obj)}{σ:L2.St}{H:Hp}{s:AC}
structure c0j(A:AM)(s:AC)(u w:AA)(b:Bool):Prop where
 rc:SeqAt.RcAt A s u w b
 ne:SeqAt.RcNeAt A s u w (!b)
 eq:SeqAt.EqAt A s u w b
theorem a87(A:AM):A.in1.units=A.units+1:=rfl
theorem a8H{xs:List V}{its:List AA}{j:Nat}(r:v7 xs its)(h:j<its.length):∃x,xs[j]?=ξ x/\z7 x its[j]:=by
 have hx:j<xs.length:=by rw [r.length];exact h
 obtain⟨u,h1,h2⟩:=r.get (i:=j) (x:=xs[j]) (by simp [hx])
 rw [BC h] at h1;cases h1;exact⟨xs[j],by simp [hx],h2⟩
theorem b1X{A:AM}{ps qs:List PV}{xs ys:List V}{its its2:List AA}(r:o0 X.K H ps xs)(r':o0 X.K H qs ys)(rv:v7 xs its)(rv':v7 ys its2)
 (ih:∀p q x y u w,p∈ps->q∈qs->J7 X.K H p x->J7 X.K H q y->z7 x u->z7 y w->c0j A s u w (η p q)):
 ∀j (h1:j<its.toArray.size) (h2:j<its2.toArray.size),SeqAt.EqAt A s its.toArray[j] its2.toArray[j] (eAt ps qs j):=by
 intro j h1 h2
 have h1':j<its.length:=by simpa using h1
 have h2':j<its2.length:=by simpa using h2
 obtain⟨x,ex,rx⟩:=a8H rv h1'
 obtain⟨y,ey,ry⟩:=a8H rv' h2'
 obtain⟨p,ep,hp⟩:=r.getV ex
 obtain⟨q,eq,hq⟩:=r'.getV ey
 have:eAt ps qs j=η p q:=by simp [eAt,ep,eq]
 rw [this]
 have z:=(ih p q x y _ _ (BA ep) (BA eq) hp hq rx ry).eq
 simpa using z
theorem O6:∀{ps:List PV} {n:Nat} {p:PV},J9 ps n=true->p∈ps->y8 p n=true
 |[],_,_,_,h=>by cases h
 |x::xs,n,p,h,hp=>by
  have h':y8 x n=true/\J9 xs n=true:=by simpa [J9] using h
  rcases An.mp hp with rfl|hp
  ·exact h'.1
  ·exact O6 h'.2 hp
theorem b6L(I:m6 X pins σ H s):∀(n:Nat) (A:AM) (p q:PV) (x y:V) (u w:AA),A.units+n<cLine->y8 p n=true->y8 q n=true->J7 X.K H p x->J7 X.K H q y->z7 x u->z7 y w->c0j A s u w (η p q):=by
 intro n
 induction n with
 |zero=>
  intro A p q x y u w hu hp hq rp rq rx ry;cases p with
  |none=>
   cases rp;cases rx;cases q with
   |none=>cases rq;cases ry;simp only [η];exact⟨.none_none,.none_none,.same _⟩
   |bool j=>cases rq;cases ry;simp only [η];exact⟨.none_bool _,.none_bool _,.none_bool _⟩
   |int j=>cases rq;obtain⟨ty,rfl⟩:=ry;simp only [η];exact⟨.none_int _ _,.none_int _ _,.none_int _ _⟩
   |str j=>cases rq;obtain⟨ty,rfl⟩:=ry;simp only [η];exact⟨.none_str _ _,.none_str _ _,.none_str _ _⟩
   |dict _=>simp [y8] at hq
   |list _=>simp [y8] at hq
   |tuple _=>simp [y8] at hq
  |bool i=>
   cases rp;cases rx;cases q with
   |none=>cases rq;cases ry;simp only [η];exact⟨.bool_none _,.bool_none _,.bool_none _⟩
   |bool j=>cases rq;cases ry;simp only [η];exact⟨.bool_bool _ _,.bool_bool _ _,.bool_bool _ _⟩
   |int j=>cases rq;obtain⟨ty,rfl⟩:=ry;simp only [η];exact⟨.bool_int _ _ _,.bool_int _ _ _,.bool_int _ _ _⟩
   |str j=>cases rq;obtain⟨ty,rfl⟩:=ry;simp only [η];exact⟨.bool_str _ _ _,.bool_str _ _ _,.bool_str _ _ _⟩
   |dict _=>simp [y8] at hq
   |list _=>simp [y8] at hq
   |tuple _=>simp [y8] at hq
  |int i=>
   cases rp;obtain⟨tx,rfl⟩:=rx;cases q with
   |none=>cases rq;cases ry;simp only [η];exact⟨.int_none _ _,.int_none _ _,.int_none _ _⟩
   |bool j=>cases rq;cases ry;simp only [η];exact⟨.int_bool _ _ _,.int_bool _ _ _,.int_bool _ _ _⟩
   |int j=>cases rq;obtain⟨ty,rfl⟩:=ry;simp only [η];exact⟨.int_int _ _ _ _,.int_int _ _ _ _,.int_int _ _ _ _⟩
   |str j=>cases rq;obtain⟨ty,rfl⟩:=ry;simp only [η];exact⟨.int_str _ _ _ _,.int_str _ _ _ _,.int_str _ _ _ _⟩
   |dict _=>simp [y8] at hq
   |list _=>simp [y8] at hq
   |tuple _=>simp [y8] at hq
  |str i=>
   cases rp;obtain⟨tx,rfl⟩:=rx;cases q with
   |none=>cases rq;cases ry;simp only [η];exact⟨.str_none _ _,.str_none _ _,.str_none _ _⟩
   |bool j=>cases rq;cases ry;simp only [η];exact⟨.str_bool _ _ _,.str_bool _ _ _,.str_bool _ _ _⟩
   |int j=>cases rq;obtain⟨ty,rfl⟩:=ry;simp only [η];exact⟨.str_int _ _ _ _,.str_int _ _ _ _,.str_int _ _ _ _⟩
   |str j=>cases rq;obtain⟨ty,rfl⟩:=ry;simp only [η];exact⟨.str_str _ _ _ _,.str_str _ _ _ _,.str_str _ _ _ _⟩
   |dict _=>simp [y8] at hq
   |list _=>simp [y8] at hq
   |tuple _=>simp [y8] at hq
  |dict _=>simp [y8] at hp
  |list _=>simp [y8] at hp
  |tuple _=>simp [y8] at hp
 |succ n ih=>
  intro A p q x y u w hu hp hq rp rq rx ry;have hu0:A.units<cLine:=by lia
  have hu1:A.in1.units+n<cLine:=by rw [a87];lia
  cases p with
  |dict _=>simp [y8] at hp
  |list ps=>
   obtain⟨a,xs,rfl,hs,r⟩:=rp;cases rx;obtain⟨its,rv,pl,hz⟩:=I.list hs;have okp:J9 ps n=true:=by simpa [y8] using hp
   cases q with
   |dict _=>simp [y8] at hq
   |list qs=>
    obtain⟨b,ys,rfl,hs',r'⟩:=rq;cases ry;obtain⟨its2,rv',pl',hz'⟩:=I.list hs';have okq:J9 qs n=true:=by simpa [y8] using hq
    have hle:its.toArray.size=ps.length:=by rw [<-r.length,rv.length];simp
    have hle':its2.toArray.size=qs.length:=by rw [<-r'.length,rv'.length];simp
    have he:=b1X (A:=A.in1) (s:=s) r r' rv rv' λp q x y u w hp' hq' rp' rq' rx' ry'=>ih A.in1 p q x y u w hu1 (O6 okp hp') (O6 okq hq') rp' rq' rx' ry';simp only [η];have main:SeqAt.RcAt A s (.ref a) (.ref b) (θ ps qs)/\SeqAt.RcNeAt A s (.ref a) (.ref b) (!θ ps qs):=by
     by_cases e:its.toArray.size=its2.toArray.size
     ·have el:ps.length=qs.length:=by rw [<-hle,<-hle',e]
      have e3:θ ps qs=(Ab its.toArray.size).all (eAt ps qs):=by
       rw [a1T,el,Nat.min_self,hle,el];simp
      rw [e3];exact⟨.lists pl.isList pl'.isList e hu0 he,.lists pl.isList pl'.isList e hu0 he⟩
     ·have e3:θ ps qs=false:=by
       rw [a1T];have:(ps.length==qs.length)=false:=by
        rw [beq_eq_false_iff_ne];intro z;exact e (by rw [hle,hle',z])
       rw [this,Bool.and_false]
      have e4:(its.toArray.size !=its2.toArray.size)=true:=by simpa using e
      rw [e3];exact⟨.lists_lengths pl.isList pl'.isList e4 hu0,.lists_lengths pl.isList pl'.isList e4 hu0⟩
    refine⟨main.1,main.2, ?_⟩
    by_cases hab:a=b
    ·subst hab;cases I.list_inj hs hs';cases o0.inj I ps qs okp okq r r';rw [a3O ps n okp];exact .same _
    ·exact .of_refs hab main.1
   |tuple qs=>
    obtain⟨b,ys,rfl,hs',r'⟩:=rq;cases ry;obtain⟨its2,rv',pl',hz'⟩:=I.tuple hs'.sq;simp only [η];exact⟨.list_tuple pl.isList pl' hu0,.list_tuple pl.isList pl' hu0,.list_tuple pl.isList pl' hu0⟩
   |none=>cases rq;cases ry;simp only [η];exact⟨.list_none pl.isList hu0,.list_none pl.isList hu0,.list_none pl.isList hu0⟩
   |bool k=>cases rq;cases ry;simp only [η];exact⟨.list_bool _ pl.isList hu0,.list_bool _ pl.isList hu0,.list_bool _ pl.isList hu0⟩
   |int k=>cases rq;obtain⟨t,rfl⟩:=ry;simp only [η];exact⟨.list_int _ _ pl.isList hu0,.list_int _ _ pl.isList hu0,.list_int _ _ pl.isList hu0⟩
   |str k=>cases rq;obtain⟨t,rfl⟩:=ry;simp only [η];exact⟨.list_str _ _ pl.isList hu0,.list_str _ _ pl.isList hu0,.list_str _ _ pl.isList hu0⟩
  |tuple ps=>
   obtain⟨a,xs,rfl,hs,r⟩:=rp;cases rx;obtain⟨its,rv,pl,hz⟩:=I.tuple hs.sq;have okp:J9 ps n=true:=by simpa [y8] using hp
   cases q with
   |dict _=>simp [y8] at hq
   |tuple qs=>
    obtain⟨b,ys,rfl,hs',r'⟩:=rq;cases ry;obtain⟨its2,rv',pl',hz'⟩:=I.tuple hs'.sq;have okq:J9 qs n=true:=by simpa [y8] using hq
    have hle:its.toArray.size=ps.length:=by rw [<-r.length,rv.length];simp
    have hle':its2.toArray.size=qs.length:=by rw [<-r'.length,rv'.length];simp
    have he:=b1X (A:=A.in1) (s:=s) r r' rv rv' λp q x y u w hp' hq' rp' rq' rx' ry'=>ih A.in1 p q x y u w hu1 (O6 okp hp') (O6 okq hq') rp' rq' rx' ry';simp only [η];have e3:θ ps qs=((Ab (min its.toArray.size its2.toArray.size)).all (eAt ps qs)&& its.toArray.size==its2.toArray.size):=by
     rw [a1T,hle,hle']
    have main:SeqAt.RcAt A s (.ref a) (.ref b) (θ ps qs)/\SeqAt.RcNeAt A s (.ref a) (.ref b) (!θ ps qs):=by
     rw [e3];exact⟨.tuples pl pl' hu0 he,.tuples pl pl' hu0 he⟩
    refine⟨main.1,main.2, ?_⟩
    by_cases hab:a=b
    ·subst hab;cases I.tuple_inj hs.sq hs'.sq;cases o0.inj I ps qs okp okq r r';rw [a3O ps n okp];exact .same _
    ·exact .of_refs hab main.1
   |list qs=>
    obtain⟨b,ys,rfl,hs',r'⟩:=rq;cases ry;obtain⟨its2,rv',pl',hz'⟩:=I.list hs';simp only [η];exact⟨.tuple_list pl pl'.isList hu0,.tuple_list pl pl'.isList hu0,.tuple_list pl pl'.isList hu0⟩
   |none=>cases rq;cases ry;simp only [η];exact⟨.tuple_none pl hu0,.tuple_none pl hu0,.tuple_none pl hu0⟩
   |bool k=>cases rq;cases ry;simp only [η];exact⟨.tuple_bool _ pl hu0,.tuple_bool _ pl hu0,.tuple_bool _ pl hu0⟩
   |int k=>cases rq;obtain⟨t,rfl⟩:=ry;simp only [η];exact⟨.tuple_int _ _ pl hu0,.tuple_int _ _ pl hu0,.tuple_int _ _ pl hu0⟩
   |str k=>cases rq;obtain⟨t,rfl⟩:=ry;simp only [η];exact⟨.tuple_str _ _ pl hu0,.tuple_str _ _ pl hu0,.tuple_str _ _ pl hu0⟩
  |none=>
   cases q with
   |list qs=>
    obtain⟨b,ys,rfl,hs',r'⟩:=rq;cases ry;obtain⟨its2,rv',pl',hz'⟩:=I.list hs';cases rp;cases rx;simp only [η];exact⟨.none_list pl'.isList hu0,.none_list pl'.isList hu0,.none_list pl'.isList hu0⟩
   |tuple qs=>
    obtain⟨b,ys,rfl,hs',r'⟩:=rq;cases ry;obtain⟨its2,rv',pl',hz'⟩:=I.tuple hs'.sq;cases rp;cases rx;simp only [η];exact⟨.none_tuple pl' hu0,.none_tuple pl' hu0,.none_tuple pl' hu0⟩
   |dict _=>simp [y8] at hq
   |_=>exact ih A _ _ x y u w (by lia) (by simp [y8]) (by simp [y8]) rp rq rx ry
  |bool k=>
   cases q with
   |list qs=>
    obtain⟨b,ys,rfl,hs',r'⟩:=rq;cases ry;obtain⟨its2,rv',pl',hz'⟩:=I.list hs';cases rp;cases rx;simp only [η];exact⟨.bool_list _ pl'.isList hu0,.bool_list _ pl'.isList hu0,.bool_list _ pl'.isList hu0⟩
   |tuple qs=>
    obtain⟨b,ys,rfl,hs',r'⟩:=rq;cases ry;obtain⟨its2,rv',pl',hz'⟩:=I.tuple hs'.sq;cases rp;cases rx;simp only [η];exact⟨.bool_tuple _ pl' hu0,.bool_tuple _ pl' hu0,.bool_tuple _ pl' hu0⟩
   |dict _=>simp [y8] at hq
   |_=>exact ih A _ _ x y u w (by lia) (by simp [y8]) (by simp [y8]) rp rq rx ry
  |int k=>
   cases q with
   |list qs=>
    obtain⟨b,ys,rfl,hs',r'⟩:=rq;cases ry;obtain⟨its2,rv',pl',hz'⟩:=I.list hs';cases rp;obtain⟨t,rfl⟩:=rx;simp only [η];exact⟨.int_list _ _ pl'.isList hu0,.int_list _ _ pl'.isList hu0,.int_list _ _ pl'.isList hu0⟩
   |tuple qs=>
    obtain⟨b,ys,rfl,hs',r'⟩:=rq;cases ry;obtain⟨its2,rv',pl',hz'⟩:=I.tuple hs'.sq;cases rp;obtain⟨t,rfl⟩:=rx;simp only [η];exact⟨.int_tuple _ _ pl' hu0,.int_tuple _ _ pl' hu0,.int_tuple _ _ pl' hu0⟩
   |dict _=>simp [y8] at hq
   |_=>exact ih A _ _ x y u w (by lia) (by simp [y8]) (by simp [y8]) rp rq rx ry
  |str k=>
   cases q with
   |list qs=>
    obtain⟨b,ys,rfl,hs',r'⟩:=rq;cases ry;obtain⟨its2,rv',pl',hz'⟩:=I.list hs';cases rp;obtain⟨t,rfl⟩:=rx;simp only [η];exact⟨.str_list _ _ pl'.isList hu0,.str_list _ _ pl'.isList hu0,.str_list _ _ pl'.isList hu0⟩
   |tuple qs=>
    obtain⟨b,ys,rfl,hs',r'⟩:=rq;cases ry;obtain⟨its2,rv',pl',hz'⟩:=I.tuple hs'.sq;cases rp;obtain⟨t,rfl⟩:=rx;simp only [η];exact⟨.str_tuple _ _ pl' hu0,.str_tuple _ _ pl' hu0,.str_tuple _ _ pl' hu0⟩
   |dict _=>simp [y8] at hq
   |_=>exact ih A _ _ x y u w (by lia) (by simp [y8]) (by simp [y8]) rp rq rx ry
end
set_option maxHeartbeats 1000000
instance (i j:Int):Decidable (b6k i j):=by unfold b6k;infer_instance
instance (i j:Int):Decidable (a0U i j):=by unfold a0U;infer_instance
abbrev Ω:=gIc a0U λi j=> .int (i / j)
instance (i j:Int):Decidable (b6l i j):=by unfold b6l;infer_instance
def d4.mine:d4->Υ (List PV)
 | .ow (.lst ps)=>ξ ps
 | .bo (.lst ps)=>ξ ps
 |_=>ζ
theorem b5y{K:AE}{F H:Hp}{v:V}{r:d4}{ps:List PV}(h:U1 K F H v r)(e:r.mine=ξ ps):∃a xs,v= .ref a/\F a=ζ/\H a=ξ (.lst xs)/\o0 K F ps xs:=by
 cases r with
 |v _=>cases e
 |ow c=>cases c<;>cases e;exact h
 |bo c=>cases c<;>cases e;exact h
def t7(x y:d4):Υ d4:=match x,y with
 | .v (.int i),.v (.int j)=>ξ (.v (.int (i+j)))
 | .v (.str i),.v (.str j)=>if i.length+j.length<=AL then ξ (.v (.str (i++j))) else ζ
 | .v (.tuple ps),.v (.tuple qs)=>if(ps.length≠0/\qs.length≠0)/\ps.length+qs.length<=AL then ξ (.v (.tuple (ps++qs))) else ζ
 |x,y=>match x.mine,y.mine with
  |some ps,ξ qs=>if ps.length+qs.length<=AL then ξ (.own (ps++qs)) else ζ
  |_,_=>ζ
section
variable {X:Cx}
theorem h9:OpM X (binaryOp .Add) t7:=by
 ext b
 unfold t7 at h3;split at h3
 ·cases h3;cases h1;cases h2;exact c5Y pins s σ H _ _ v u Q I rx ry ⟨_,_,rfl,rfl,k _ F H (B4.here s0 rfl)⟩
 ·rename_i i j;split at h3
  ·rename_i c;cases h3;cases h1;cases h2;exact b7j pins s σ H _ _ v u Q I rx ry ⟨i,j,rfl,rfl,c,k _ F H (B4.here s0 rfl)⟩
  ·cases h3
 ·rename_i ps qs;split at h3
  ·rename_i c;cases h3;obtain⟨a,xs,rfl,hq,r⟩:=h1;obtain⟨b,ys,rfl,hq',r'⟩:=h2;refine c37 pins s σ H _ _ v u Q I rx ry ⟨a,b,xs,ys,rfl,rfl,A7 s0 hq.sq,A7 s0 hq'.sq, ?_,by rw [r.length,r'.length];exact c.2, ?_⟩
   ·intro z;subst z;exact c.1.1 r.length.symm
   ·refine⟨λz=> ?_,λ_ p hp=>k _ _ _ (B4.tup s0 hp (r.append r'))⟩;subst z;exact absurd r'.length.symm c.1.2
  ·cases h3
 ·split at h3
  ·rename_i ps qs e1 e2;split at h3
   ·rename_i c;cases h3;obtain⟨a,xs,rfl,_,hq,r⟩:=b5y h1 e1;obtain⟨b,ys,rfl,_,hq',r'⟩:=b5y h2 e2;refine c5Z pins s σ H _ _ v u Q I rx ry ⟨a,b,xs,ys,rfl,rfl,hq,hq',by rw [r.length,r'.length];exact c,λp hp=> ?_⟩
    exact k _ _ _ (B4.lst s0 hp (r.append r'))
   ·cases h3
  ·cases h3
theorem M0:OpM X (binaryOp .Sub) (gI λi j=> .int (i - j)):=b8v c55 λ_ _ _=>rfl
theorem c4b:OpM X (binaryOp .Mult) (gIc b6k λi j=> .int (i*j)):=b4e c52 λ_ _ _=>rfl
theorem C8:OpM X (binaryOp .Mod) Θ:=b4e c51 λ_ _ _=>rfl
theorem B6:OpM X (binaryOp .FloorDiv) Ω:=b4e c38 λ_ _ _=>rfl
theorem c4c:OpM X (binaryOp .Pow) (gIc b6l λi j=> .int (i ^ j.toNat)):=b4e c53 λ_ _ _=>rfl
theorem a2D:OpM X (compareOp .Gt) (gI λi j=> .bool (decide (j<i))):=b8v c7g λ_ _ _=>rfl
theorem c56:OpM X (compareOp .GtE) (gI λi j=> .bool (decide (j<=i))):=b8v c7f λ_ _ _=>rfl
def X5(x y:d4):Υ d4:=if y8 x.rd 50=true/\y8 y.rd 50=true then ξ (.v (.bool (η x.rd y.rd))) else ζ
def gNe(x y:d4):Υ d4:=if y8 x.rd 50=true/\y8 y.rd 50=true then ξ (.v (.bool (!η x.rd y.rd))) else ζ
theorem x9(hu:X.A.units+64<cLine):OpM X (compareOp .Eq) X5:=by
 ext b
 unfold X5 at h3;split at h3
 ·rename_i c;cases h3;have z:=b6L I 50 X.A _ _ x y v u (by lia) c.1 c.2 (h1.rd s0) (h2.rd s0) rx ry
  exact z.rc _ _ _ _ ⟨.bl _,H,I,rfl,k _ F H (B4.here s0 rfl)⟩
 ·cases h3
theorem V4(hu:X.A.units+64<cLine):OpM X (compareOp .NotEq) gNe:=by
 ext b
 unfold gNe at h3;split at h3
 ·rename_i c;cases h3;have z:=b6L I 50 X.A _ _ x y v u (by lia) c.1 c.2 (h1.rd s0) (h2.rd s0) rx ry
  exact z.ne _ _ _ _ ⟨.bl _,H,I,rfl,k _ F H (B4.here s0 rfl)⟩
 ·cases h3
def PyData.items?:PV->Υ (List PV)
 | .list ps=>ξ ps
 | .tuple ps=>ξ ps
 |_=>ζ
theorem a0l{F H:Hp}{v:V}{r:d4}{ps:List PV}(s0:m5 F H)(h:U1 X.K F H v r)(e:PyData.items? r.rd=ξ ps):∃a xs,v= .ref a/\(SqL X.K H a xs\/SqT X.K H a xs)/\o0 X.K F ps xs:=by
 cases r with
 |v p=>
  cases p with
  |list qs=>cases e;obtain⟨a,xs,rfl,hq,r⟩:=h;exact⟨a,xs,rfl,.inl (Y1 s0 hq),r⟩
  |tuple qs=>cases e;obtain⟨a,xs,rfl,hq,r⟩:=h;exact⟨a,xs,rfl,.inr (A7 s0 hq.sq),r⟩
  |_=>cases e
 |ow c=>cases c<;>cases e;obtain⟨a,xs,rfl,_,hq,r⟩:=h;exact⟨a,xs,rfl,.inl (SqL.of hq),r⟩
 |bo c=>cases c<;>cases e;obtain⟨a,xs,rfl,_,hq,r⟩:=h;exact⟨a,xs,rfl,.inl (SqL.of hq),r⟩
def c5y(neg:Bool)(x y:d4):Υ d4:=match y with
 | .v .none=>(match x.rd with
   | .none=>ξ (.v (.bool (!neg)))
   |_=>ξ (.v (.bool neg)))
 |_=>ζ
def PyData.isNone:PV->Bool
 | .none=>true
 |_=>false
theorem c4p{K:AE}{H:Hp}{p:PV}{v:V}(h:J7 K H p v):decide (v=V.non)=PyData.isNone p:=by
 cases p with
 |none=>cases h;rfl
 |bool _=>cases h;rfl
 |int _=>cases h;rfl
 |str _=>cases h;rfl
 |list _=>obtain⟨_,_,rfl,_⟩:=h;rfl
 |tuple _=>obtain⟨_,_,rfl,_⟩:=h;rfl
 |dict _=>
  rcases h with⟨_,_,rfl,_⟩|⟨_,_,rfl,_⟩|⟨_,_,_,h⟩|⟨_,_,_,h,_⟩
  ·rfl
  ·rfl
  ·obtain⟨_,rfl⟩:=h.ref;rfl
  ·obtain⟨_,rfl⟩:=h.ref;rfl
theorem c4a:OpM X (compareOp .Is) (c5y false):=
 a9f c50 λF H x y rx ry rz s0 h1 h2 h3 Q k=>by
  unfold c5y at h3;split at h3
  ·cases h2;have e:=c4p (h1.rd s0);refine⟨rfl, ?_⟩;rw [e];cases hp:rx.rd<;>rw [hp] at h3<;>cases h3<;>exact k _ F H (B4.here s0 rfl)
  ·cases h3
def c1L(m:M):M:=λρ=>(m ρ).bind λr=>match r with
 | .v (.int i)=>ξ (.v (.int (-i)))
 |_=>ζ
theorem b6I{a:AF}{ma:M}{pos:Pos}(ha:EE X a ma):EE X (.UnaryOp .USub a pos) (c1L ma):=
 B9 (c7m c6M ha) λσ H Q h0=>A1 h0 λF ρ r he hm k=>by
  obtain⟨rx,e1,hm⟩:=bind_some hm;refine⟨F,ρ,rx,he,e1,λv F1 H1 o1=> ?_⟩;split at hm
  ·cases hm;exact⟨_,o1.rep,k _ F1 H1 (B4.trans o1.x (B4.here o1.x.fh rfl))⟩
  ·cases hm
def l9(x y:d4):Υ d4:=match y with
 | .v (.int i)=>(match x.rd with
   | .str z=>if z.length<=AL then(atI z.cps.toList i).map λc=> .v (.str ⟨#[c]⟩) else ζ
   |p=>match PyData.items? p with
    |some ps=>(atI ps i).map .v
    |none=>ζ)
 |_=>ζ
theorem o0.atI{K:AE}{H:Hp}{ps:List PV}{xs:List V}{i:Int}{p:PV}(r:o0 K H ps xs)(e:L2.atI ps i=ξ p):∃v,L2.atI xs i=ξ v/\J7 K H p v:=by
 unfold L2.atI at e ⊢;rw [r.length];obtain⟨j,e1,e2⟩:=bind_some e;rw [e1];exact r.get e2
theorem ixm:IxR X (rM2 X.K l9):=by
 intro value slice pins s σ H x y v u Q I rx ry h hs;obtain⟨F,ra,rb,rz,s0,h1,h2,h3,k⟩:=h;unfold l9 at h3;split at h3
 ·rename_i i;cases h2;split at h3
  ·rename_i z ez;split at h3
   ·rename_i c;have rr:=h1.rd s0;rw [ez] at rr;cases rr;cases ea:L2.atI z.cps.toList i with
    |none=>rw [ea] at h3;cases h3
    |some ch=>
     rw [ea] at h3;cases h3;exact c5C value slice pins s σ H _ _ v u Q I rx ry ⟨z,i,ch,rfl,rfl,c,ea,k _ F H (B4.here s0 rfl)⟩ hs
   ·cases h3
  ·split at h3
   ·rename_i ps e;cases ea:L2.atI ps i with
    |none=>rw [ea] at h3;cases h3
    |some p=>
     rw [ea] at h3;cases h3;obtain⟨a,xs,rfl,hq,r⟩:=a0l s0 h1 e;obtain⟨z,ez,rp⟩:=r.atI ea;rcases hq with hq|hq
     ·exact c3N value slice pins s σ H _ _ v u Q I rx ry ⟨a,xs,i,z,rfl,rfl,hq,ez,k _ F H (B4.here s0 rp)⟩ hs
     ·exact c5D value slice pins s σ H _ _ v u Q I rx ry ⟨a,xs,i,z,rfl,rfl,hq,ez,k _ F H (B4.here s0 rp)⟩ hs
   ·cases h3
 ·cases h3
theorem g6{a b:AF}{ma mb:M}{pos:Pos}(ha:EE X a ma)(hb:EE X b mb)(hs:b7H b:=by intro _ _;rfl):EE X (.Subscript a b pos) (m2 l9 ma mb):=
 B9 (c7k ixm ha hb hs) λ_ _ _ h=>b4s h
abbrev MA:=c9->Υ (List PV)
def tMA(K:AE)(m:MA):TA:=λσ H Q=>∃F ρ ps,M6 K F H σ ρ/\m ρ=ξ ps/\∀vs F' H',Ext F H F' H'->o0 K F' ps vs->Q vs H'
abbrev EA(X:Cx)(es:List AF)(m:MA):Prop:=PA X es (tMA X.K m)
def b9:MA:=λ_=>ξ []
def a6(m:M)(r:MA):MA:=λρ=>((m ρ).bind d4.toVal).bind λp=>(r ρ).bind λps=>ξ (p::ps)
theorem c7:EA X [] b9:=c12 a0d λσ H Q h0=>A1 h0 λF ρ ps he hm k=>by
 cases hm;exact k [] F H (Ext.refl he.fh) rfl
theorem a7{e:AF}{es:List AF}{m:M}{r:MA}(ha:EE X e m)(hr:EA X es r)(hs:Ψ e es X.env:=by rfl):EA X (e::es) (a6 m r):=
 c12 (J3 ha hr hs) λσ H Q h0=>A1 h0 λF ρ ps he hm k=>by
  obtain⟨p,e1,hm⟩:=bind_some hm;obtain⟨r1,e1,e2⟩:=bind_some e1;obtain⟨qs,e3,hm⟩:=bind_some hm;cases hm;refine⟨F,ρ,r1,he,e1,λv F1 H1 o1=> ?_⟩;obtain⟨F2,o2⟩:=o1.toVal e2;exact⟨F2,ρ,qs,he.ext o2.x,e3,λvs F3 H3 x3 rl=>k _ F3 H3 (o2.x.trans x3) ⟨v,vs,rfl,J7.mono x3.f _ o2.rep,rl⟩⟩
def O2(m:MA):M:=λρ=>(m ρ).bind λps=>if ps.length<=AL then ξ (.v (.tuple ps)) else ζ
def a1E(m:MA):M:=λρ=>(m ρ).bind λps=>if ps.length<=AL then ξ (.own ps) else ζ
theorem B1{es:List AF}{m:MA}{x1:Nat}{pos:Pos}(h:EA X es m):EE X (.Tuple es x1 pos) (O2 m):=
 B9 (b7k h) λσ H Q h0=>A1 h0 λF ρ r he hm k=>by
  obtain⟨ps,e1,hm⟩:=bind_some hm;split at hm
  ·rename_i c;cases hm;exact⟨F,ρ,ps,he,e1,λvs F1 H1 x rl=>⟨by rw [rl.length];exact c,λp hp=>k _ _ _ (B4.trans x (B4.tup x.fh hp rl))⟩⟩
  ·cases hm
theorem N7{es:List AF}{m:MA}{pos:Pos}(h:EA X es m):EE X (.List es pos) (a1E m):=
 B9 (c6c h) λσ H Q h0=>A1 h0 λF ρ r he hm k=>by
  obtain⟨ps,e1,hm⟩:=bind_some hm;split at hm
  ·rename_i c;cases hm;exact⟨F,ρ,ps,he,e1,λvs F1 H1 x rl=>⟨by rw [rl.length];exact c,λp hp=>k _ _ _ (B4.trans x (B4.lst x.fh hp rl))⟩⟩
  ·cases hm
abbrev Λ:=List PV->Υ d4
def spP(K:AE)(n:Nat)(g:Λ):Sp:=λvs H Q _=>∃F ps r,m5 F H/\o0 K F ps vs/\ps.length=n/\g ps=ξ r/\∀v F' H',B4 K F H F' H' v r->Q v H'
def f7(g:Λ)(m:MA):M:=λρ=>(m ρ).bind g
theorem c3n{k n:Nat}{f:AB}{fd:FuncData}{ps:List Str}{g:Λ}{x:Str}{p pos:Pos}{e:AF}{es:List AF}{m:MA}
 (G:a1v X.prog X.w X.K X.mg X.base CX0 k f fd ps (spP X.K n g)) (hr:W9 k X.A) (hg:Gl X x) (hm:X.mg x=ξ (.ref f)) (hk:PySem.W.keepIn X.K (.ref f)=true) (hb:a44 X.K fd ps []) (hn:∀ρ ps,m ρ=ξ ps->ps.length=n) (ha:EA X (e::es) m)
 (hdb:Δ x:=by decide) (he:Ψ e es X.env:=by rfl) (hpl:Φ₁ pos es X.env:=by rfl):
 EE X (.Call (.Name x p) (e::es) [] pos) (f7 g m):=
 B9 (a8i G hr hg hm hk hb .nil b5V ha hdb he hpl) λσ H Q h0=>A1 h0 λF ρ r he hm k=>by
  obtain⟨qs,e1,hm⟩:=bind_some hm;refine⟨F,ρ,qs,he,e1,λvs F1 H1 x rl=> ?_⟩;show spP X.K n g (vs++[]) H1 Q E0;rw [Af];exact⟨F1,qs,r,x.fh,rl,hn _ _ e1,hm,λv F2 H2 o=>k v F2 H2 (B4.trans x o)⟩
theorem d7:∀ρ ps,b9 ρ=ξ ps->ps.length=0:=λ_ _ h=>by cases h;rfl
theorem a9{m:M}{r:MA}{n:Nat}(h:∀ρ ps,r ρ=ξ ps->ps.length=n):∀ρ ps,a6 m r ρ=ξ ps->ps.length=n+1:=λρ ps e=>by
 obtain⟨p,e1,e⟩:=bind_some e;obtain⟨qs,e3,e⟩:=bind_some e;cases e;rw [AU,h ρ qs e3]
end
mutual
def a4n(K:AE):Nat->AA->Υ PV
 |0,_=>ζ
 |_+1,.none=>ξ .none
 |_+1,.bool b=>ξ (.bool b)
 |_+1,.int i _=>ξ (.int i)
 |_+1,.str x _=>ξ (.str x)
 |n+1,.ref a=>match K.lookup a with
  |some ⟨.type "tuple",_,.seq its _,_⟩=>if its.size<=1000 then(a7E K n its.toList).map .tuple else ζ
  |some ⟨.type "list",ζ,.seq its _,_⟩=>if its.size<=1000 then(a7E K n its.toList).map .list else ζ
  |_=>ζ
 |_+1,_=>ζ
def a7E(K:AE):Nat->List AA->Υ (List PV)
 |0,_=>ζ
 |_+1,[]=>ξ []
 |n+1,u::us=>(a4n K n u).bind λp=>(a7E K n us).bind λps=>ξ (p::ps)
end
theorem b1N{n:Nat}(h:n<=1000):n<=AL:=BG (c0d h)
theorem c0q(K:AE):∀(n:Nat),(∀(u:AA) (p:PV),a4n K n u=ξ p->∃v,z7 v u/\∀H,J7 K H p v)/\(∀(us:List AA) (ps:List PV),a7E K n us=ξ ps->∃vs,v7 vs us/\∀H,o0 K H ps vs):=by
 intro n
 induction n with
 |zero=>exact⟨λu p h=>by simp [a4n] at h,λu p h=>by simp [a7E] at h⟩
 |succ n ih=>
  constructor
  ·intro u p h;cases u with
   |none=>simp only [a4n] at h;cases h;exact⟨.non,rfl,λ_=>rfl⟩
   |bool b=>simp only [a4n] at h;cases h;exact⟨.bl b,rfl,λ_=>rfl⟩
   |int i t=>simp only [a4n] at h;cases h;exact⟨.int i,⟨t,rfl⟩,λ_=>rfl⟩
   |str x t=>simp only [a4n] at h;cases h;exact⟨.str x,⟨t,rfl⟩,λ_=>rfl⟩
   |ref a=>
    simp only [a4n] at h;split at h
    ·rename_i d its m sl e;split at h
     ·rename_i c;cases q:a7E K n its.toList with
      |none=>rw [q] at h;cases h
      |some ps=>
       rw [q] at h;cases h;obtain⟨vs,h1,h2⟩:=ih.2 _ _ q;exact⟨.ref a,rfl,λH=>⟨a,vs,rfl,.inr ⟨_,its,m,e,rfl,rfl,b1N c,h1⟩,h2 H⟩⟩
     ·cases h
    ·rename_i its m sl e;split at h
     ·rename_i c;cases q:a7E K n its.toList with
      |none=>rw [q] at h;cases h
      |some ps=>
       rw [q] at h;cases h;obtain⟨vs,h1,h2⟩:=ih.2 _ _ q;exact⟨.ref a,rfl,λH=>⟨a,vs,rfl,.inr ⟨_,its,m,e,rfl,rfl,rfl,b1N c,h1⟩,h2 H⟩⟩
     ·cases h
    ·cases h
   |_=>simp [a4n] at h
  ·intro us ps h;cases us with
   |nil=>simp only [a7E] at h;cases h;exact⟨[],.nil,λ_=>rfl⟩
   |cons u us=>
    simp only [a7E] at h;obtain⟨p,e1,h⟩:=bind_some h;obtain⟨qs,e2,h⟩:=bind_some h;cases h;obtain⟨v,r1,r2⟩:=ih.1 _ _ e1;obtain⟨vs,r3,r4⟩:=ih.2 _ _ e2;exact⟨v::vs,.cons r1 r3,λH=>⟨v,vs,rfl,r2 H,r4 H⟩⟩
section
variable {X:Cx}
theorem a6j{x:Str}{u:AA}{p:PV}{pos:Pos}{n:Nat}(hg:Gl X x)(hm:X.mg x=ξ u)(ha:a4n X.K n u=ξ p)(hd:Δ x:=by decide):EE X (.Name x pos) (mC p):=by
 obtain⟨v,r,h⟩:=(c0q X.K n).1 u p ha;exact a3L (b8w hg hm r hd) h
def c4Z:PV->Υ m7
 | .int i=>ξ (.inl i)
 | .str x=>ξ (.inr x)
 |_=>ζ
theorem b9D{K:AE}{H:Hp}{p:PV}{k:m7}{v:V}(e:c4Z p=ξ k)(r:J7 K H p v):v=kV k:=by
 cases p with
 |int i=>cases e;cases r;rfl
 |str x=>cases e;cases r;rfl
 |_=>cases e
def Z9:List PV->Υ (List m7)
 |[]=>ξ []
 |p::ps=>(c4Z p).bind λk=>(Z9 ps).bind λks=>ξ (k::ks)
theorem a4K{K:AE}{H:Hp}:∀{ps:List PV} {ks:List m7} {vs:List V},Z9 ps=ξ ks->o0 K H ps vs->vs=ks.map kV
 |[],_,_,h,r=>by cases h;cases r;rfl
 |p::ps,_,_,h,⟨v,t,e,rp,rl⟩=>by
  obtain⟨k,e1,h⟩:=bind_some h;obtain⟨ks,e2,h⟩:=bind_some h;cases h;subst e;rw [b9D e1 rp,a4K e2 rl]
  rfl
abbrev MT:=c9->Υ Bool
def tMT(K:AE)(c:MT):TT:=λσ H Q=>∃F ρ b,M6 K F H σ ρ/\c ρ=ξ b/\∀F' H',Ext F H F' H'->Q b H'
abbrev ET(X:Cx)(e:AF)(c:MT):Prop:=PT X e (tMT X.K c)
abbrev EW(X:Cx)(e:AF)(c:MT):Prop:=PW X e (tMT X.K c)
def b1E:d4->Υ Bool
 | .v (.bool b)=>ξ b
 |_=>ζ
def tru(r:d4):Υ Bool:=match r.rd with
 | .none=>ξ false
 | .bool b=>ξ b
 | .int i=>ξ (i !=0)
 | .str z=>if z.length<=AL then ξ ((z.length:Int) !=0) else ζ
 | .list ps=>ξ (!ps.isEmpty)
 | .tuple ps=>ξ (!ps.isEmpty)
 | .dict _=>ζ
def mtV(m:M):MT:=λρ=>(m ρ).bind tru
def G2(m:M):MT:=λρ=>(m ρ).bind b1E
theorem o0.empty{K:AE}{H:Hp}{ps:List PV}{vs:List V}(r:o0 K H ps vs):vs.isEmpty=ps.isEmpty:=by
 cases ps with
 |nil=>cases r;rfl
 |cons p ps=>obtain⟨_,_,e,_⟩:=r;subst e;rfl
theorem c4L{H:Hp}{r:d4}{v:V}{b:Bool}(h:J7 X.K H r.rd v)(e:tru r=ξ b):c5a X.K v H b:=by
 unfold tru at e;cases hp:r.rd with
 |none=>rw [hp] at h e;cases h;cases e;exact rfl
 |bool k=>rw [hp] at h e;cases h;cases e;exact rfl
 |int i=>rw [hp] at h e;cases h;cases e;exact rfl
 |str z=>
  rw [hp] at h e;cases h;dsimp only at e;split at e
  ·rename_i c;cases e;exact⟨c,rfl⟩
  ·cases e
 |list ps=>rw [hp] at h e;obtain⟨a,xs,rfl,hq,rl⟩:=h;cases e;exact .inl ⟨xs,hq,by rw [rl.empty]⟩
 |tuple ps=>rw [hp] at h e;obtain⟨a,xs,rfl,hq,rl⟩:=h;cases e;exact .inr (.inl ⟨xs,hq.sq,by rw [rl.empty]⟩)
 |dict _=>rw [hp] at e;cases e
theorem E6{e:AF}{m:M}(h:EE X e m)(he:∀whole,isTrue e X.env whole=(do let v<-whole;standAt e.pos;holding [v] (truthy v)):=by intro _;rfl):ET X e (mtV m):=
 a9g (c2g h he) λσ H Q h0=>A1 h0 λF ρ b h1 h2 k=>by
  obtain⟨r,e1,e2⟩:=bind_some h2;exact⟨F,ρ,r,h1,e1,λv F1 H1 o=>⟨b,c4L (o.rep.rd o.x.fh) e2,k F1 H1 o.x⟩⟩
theorem a37{K:AE}{F H:Hp}{r:d4}{v:V}{b:Bool}(h:U1 K F H v r)(e:b1E r=ξ b):v= .bl b:=by
 unfold b1E at e;split at e
 ·cases e;exact h
 ·cases e
theorem j0{a b:AF}{ma mb:M}{pos:Pos}{op:CmpOp}{g:d4->d4->Υ d4}(ho:OpM X (compareOp op) g)(ha:EE X a ma)(hb:EE X b mb)(hm:behindInMarks op b=false):ET X (.Compare a [op] [b] pos) (G2 (m2 g ma mb)):=
 a9g (c4j ho ha hb hm) λσ H Q h0=>A1 h0 λF ρ k h1 h2 q=>by
  obtain⟨r,e1,e2⟩:=bind_some h2;exact b4s ⟨F,ρ,r,h1,e1,λv F1 H1 o=>⟨k,a37 o.rep e2,q F1 H1 o.x⟩⟩
def P7(c:MT):MT:=λρ=>(c ρ).map not
theorem L1{a:AF}{c:MT}{pos:Pos}(ha:ET X a c):ET X (.UnaryOp .Not a pos) (P7 c):=
 a9g (c6p ha) λσ H Q h0=>A1 h0 λF ρ k h1 h2 q=>by
  unfold P7 at h2;cases e:c ρ with
  |none=>rw [e] at h2;cases h2
  |some b=>rw [e] at h2;cases h2;exact⟨F,ρ,b,h1,e,q⟩
def a1N(c d:MT):MT:=λρ=>(c ρ).bind λb=>if b=true then d ρ else ξ false
def a0K(c d:MT):MT:=λρ=>(c ρ).bind λb=>if b=true then ξ true else d ρ
theorem a4B{a:AF}{c:MT}{pos:Pos}(ha:ET X a c):EW X (.BoolOp .And [a] pos) c:=c4k ha
theorem O7{a:AF}{c:MT}{pos:Pos}(ha:ET X a c):EW X (.BoolOp .Or [a] pos) c:=c6s ha
theorem a4A{a b:AF}{rest:List AF}{c d:MT}{pos:Pos}(ha:ET X a c)(hb:EW X (.BoolOp .And (b::rest) pos) d):EW X (.BoolOp .And (a::b::rest) pos) (a1N c d):=
 c2j (c6r ha hb) λσ H Q h0=>A1 h0 λF ρ k h1 h2 q=>by
  obtain⟨b,e1,e2⟩:=bind_some h2;refine⟨F,ρ,b,h1,e1,λF1 H1 x=> ?_⟩;cases b with
  |true=>exact b19 ⟨F1,ρ,k,h1.ext x,e2,λF2 H2 y=>q F2 H2 (x.trans y)⟩
  |false=>cases e2;exact b18 (q F1 H1 x)
theorem Q3{a b:AF}{rest:List AF}{c d:MT}{pos:Pos}(ha:ET X a c)(hb:EW X (.BoolOp .Or (b::rest) pos) d):EW X (.BoolOp .Or (a::b::rest) pos) (a0K c d):=
 c2j (c7o ha hb) λσ H Q h0=>A1 h0 λF ρ k h1 h2 q=>by
  obtain⟨b,e1,e2⟩:=bind_some h2;refine⟨F,ρ,b,h1,e1,λF1 H1 x=> ?_⟩;cases b with
  |false=>exact b18 ⟨F1,ρ,k,h1.ext x,e2,λF2 H2 y=>q F2 H2 (x.trans y)⟩
  |true=>cases e2;exact b19 (q F1 H1 x)
def c1K(m n:M):M:=λρ=>(m ρ).bind λr=>(b1E r).bind λb=>if b=true then n ρ else ξ (.v (.bool false))
def c5N(m:M):M:=λρ=>(m ρ).bind λr=>(b1E r).bind λb=>ξ (.v (.bool (!b)))
theorem c0S{op:BoolOp}{a:AF}{m:M}{pos:Pos}(h:EE X a m):EE X (.BoolOp op [a] pos) m:=c6f h
theorem b6G{a b:AF}{rest:List AF}{m n:M}{pos:Pos}(ha:EE X a m)(hb:EE X (.BoolOp .And (b::rest) pos) n):EE X (.BoolOp .And (a::b::rest) pos) (c1K m n):=
 B9 (c59 ha hb) λσ H Q h0=>A1 h0 λF ρ r h1 h2 q=>by
  obtain⟨r1,e1,h2⟩:=bind_some h2;obtain⟨b,e2,h2⟩:=bind_some h2;refine⟨F,ρ,r1,h1,e1,λv F1 H1 o=>⟨b,a37 o.rep e2, ?_⟩⟩;cases b with
  |true=>exact b19 ⟨F1,ρ,r,h1.ext o.x,h2,λw F2 H2 y=>q w F2 H2 (B4.trans o.x y)⟩
  |false=>cases h2;exact b18 (q _ F1 H1 (B4.val o.x rfl))
theorem c5q{a:AF}{m:M}{pos:Pos}(ha:EE X a m):EE X (.UnaryOp .Not a pos) (c5N m):=
 B9 (c6e ha) λσ H Q h0=>A1 h0 λF ρ r h1 h2 q=>by
  obtain⟨r1,e1,h2⟩:=bind_some h2;obtain⟨b,e2,h2⟩:=bind_some h2;cases h2;exact⟨F,ρ,r1,h1,e1,λv F1 H1 o=>⟨b,a37 o.rep e2,q _ F1 H1 (B4.val o.x rfl)⟩⟩
def a3t(g g':d4->d4->Υ d4)(ma mb mc:M):M:=λρ=>(ma ρ).bind λx=>(mb ρ).bind λy=>(g x y).bind λz=>(b1E z).bind λb=>if b=true then(mc ρ).bind λw=>g' y w else ξ (.v (.bool false))
theorem c0A{ma mb mc:M}{g g':d4->d4->Υ d4}{σ:L2.St}{H:Hp}{Q:VK}(h:tM X.K (a3t g g' ma mb mc) σ H Q):c2J (rM2 X.K g) (rM2 X.K g') (tM X.K ma) (tM X.K mb) (tM X.K mc) σ H Q:=by
 obtain⟨F,ρ,r,he,hm,k⟩:=h
 ext z
 obtain⟨rz,e3,hm⟩:=bind_some hm;obtain⟨b,e4,hm⟩:=bind_some hm;refine⟨F,ρ,rx,he,e1,λv F1 H1 o1=>⟨F1,ρ,ry,he.ext o1.x,e2,λu F2 H2 o2=>⟨F2,rx,ry,rz,o2.x.fh,o1.rep.ext o2.x,o2.rep,e3,λz F3 H3 o3=>⟨b,a37 o3.rep e4, ?_⟩⟩⟩⟩;have x3:=(o1.x.trans o2.x).trans o3.x;cases b with
 |true=>
  rw [if_pos rfl] at hm;obtain⟨rw',e5,hm⟩:=bind_some hm;exact b19 ⟨F3,ρ,rw',he.ext x3,e5,λw F4 H4 o4=>⟨F4,ry,rw',r,o4.x.fh,(o2.rep.ext o3.x).ext o4.x,o4.rep,hm,λz F5 H5 o5=>k z F5 H5 (B4.trans (x3.trans o4.x) o5)⟩⟩
 |false=>
  rw [if_neg BB] at hm;cases hm;exact b18 (k _ F3 H3 (B4.val x3 rfl))
theorem a7R{a b c:AF}{ma mb mc:M}{pos:Pos}{op op':CmpOp}{g g':d4->d4->Υ d4}(ho:OpM X (compareOp op) g)(ho':OpM X (compareOp op') g')(ha:EE X a ma)(hb:EE X b mb)(hc:EE X c mc)
 (hm:lastMarks [op,op'] [b,c]=false:=by with_unfolding_all rfl):ET X (.Compare a [op,op'] [b,c] pos) (G2 (a3t g g' ma mb mc)):=
 a9g (c2e ho ho' ha hb hc hm) λσ H Q h0=>A1 h0 λF ρ k h1 h2 q=>by
  obtain⟨r,e1,e2⟩:=bind_some h2;exact c0A ⟨F,ρ,r,h1,e1,λv F1 H1 o=>⟨k,a37 o.rep e2,q F1 H1 o.x⟩⟩
end
inductive Fl where
 |nx (ρ:c9)|rt (r:d4)|bk (ρ:c9)|ct (ρ:c9)
abbrev MS:=c9->Υ Fl
structure SOk(K:AE)(F0 H0 F H:Hp)(σ:L2.St)(ρ:c9):Prop where
 x:Ext F0 H0 F H
 e:M6 K F H σ ρ
 nw:∀(i:Nat) (c:a2c) (a:AB),ρ[i]?=ξ (ξ (.ow c))->σ[i]?=ξ (ξ (.ref a))->H0 a=ζ
def Fin(K:AE)(F0 H0 F:Hp)(D:a2O):Fl->Prop
 | .nx ρ=>∀σ' F' H',m5 F F'->SOk K F0 H0 F' H' σ' ρ->D.nx σ' H'
 | .rt r=>∀v F' H',B4 K F0 H0 F' H' v r->D.rt v H'
 | .bk ρ=>∀σ' F' H',m5 F F'->SOk K F0 H0 F' H' σ' ρ->D.bk σ' H'
 | .ct ρ=>∀σ' F' H',m5 F F'->SOk K F0 H0 F' H' σ' ρ->D.ct σ' H'
theorem Fin.later{K:AE}{F0 H0 F F1:Hp}{D:a2O}(s:m5 F F1):∀{fl:Fl},Fin K F0 H0 F D fl->Fin K F0 H0 F1 D fl
 | .nx _,h=>λσ' F' H' s' so=>h σ' F' H' (s.trans s') so
 | .rt _,h=>h
 | .bk _,h=>λσ' F' H' s' so=>h σ' F' H' (s.trans s') so
 | .ct _,h=>λσ' F' H' s' so=>h σ' F' H' (s.trans s') so
def tMS(K:AE)(m:MS):TS:=λD σ H=>∃F0 H0 F ρ fl,SOk K F0 H0 F H σ ρ/\m ρ=ξ fl/\Fin K F0 H0 F D fl
theorem L8{K:AE}{m:MS}{D:a2O}{σ:L2.St}{H:Hp}{C:Prop}(h:tMS K m D σ H)(k:∀F0 H0 F ρ fl,SOk K F0 H0 F H σ ρ->m ρ=ξ fl->Fin K F0 H0 F D fl->C):C:=
 h.elim λa h=>h.elim λb h=>A1 h (k a b)
abbrev ES(X:Cx)(st:Stmt)(m:MS):Prop:=PS X st (tMS X.K m)
abbrev ESs(X:Cx)(st:List Stmt)(m:MS):Prop:=PSs X st (tMS X.K m)
theorem SOk.ext{K:AE}{F0 H0 F H F' H':Hp}{σ:L2.St}{ρ:c9}(s:SOk K F0 H0 F H σ ρ)(x:Ext F H F' H'):SOk K F0 H0 F' H' σ ρ:=⟨s.x.trans x,s.e.ext x,s.nw⟩
def d4.nb:d4->Bool
 | .bo _=>false
 |_=>true
theorem SOk.set{K:AE}{F0 H0 F H F' H':Hp}{σ:L2.St}{ρ:c9}{v:V}{r:d4}(s:SOk K F0 H0 F H σ ρ)(o:B4 K F H F' H' v r)(hb:r.nb=true)(i:Nat):SOk K F0 H0 F' H' (σ.set i (ξ v)) (ρ.set i (ξ r)):=by
 have s1:=s.ext o.x;have le:=s.e.len;refine⟨s1.x,⟨s1.e.fh,by simp [le],λj q e=> ?_,λj ps e=> ?_,λj k ps qs a hjk e1 e2 e3 e4=> ?_⟩,λj ps a e1 e2=> ?_⟩
 ·rw [List.getElem?_set] at e ⊢
  by_cases hij:i=j
  ·subst hij;rw [if_pos rfl] at e ⊢;rw [le];split at e
   ·rename_i c;cases e;rw [if_pos c];exact⟨v,rfl,o.rep⟩
   ·cases e
  ·rw [if_neg hij] at e ⊢;exact s1.e.at_ j q e
 ·rw [List.getElem?_set] at e
  by_cases hij:i=j
  ·subst hij;rw [if_pos rfl] at e;split at e
   ·cases e;cases hb
   ·cases e
  ·rw [if_neg hij] at e;exact s1.e.nb j ps e
 ·rw [List.getElem?_set] at e1 e2 e3 e4
  by_cases hij:i=j
  ·subst hij;rw [if_pos rfl] at e1 e3;rw [if_neg hjk] at e2 e4;split at e1
   ·cases e1;split at e3
    ·cases e3;have fr:=o.fr ps a rfl rfl;obtain⟨w,h1,rr⟩:=s.e.at_ k _ e2;obtain⟨a',xs,h2,_,h3⟩:=a00.at_ rr;rw [e4] at h1;cases h1;cases h2;rw [fr] at h3;cases h3
    ·cases e3
   ·cases e1
  ·rw [if_neg hij] at e1 e3
   by_cases hik:i=k
   ·subst hik;rw [if_pos rfl] at e2 e4;split at e2
    ·cases e2;split at e4
     ·cases e4;have fr:=o.fr qs a rfl rfl;obtain⟨w,h1,rr⟩:=s.e.at_ j _ e1;obtain⟨a',xs,h2,_,h3⟩:=a00.at_ rr;rw [e3] at h1;cases h1;cases h2;rw [fr] at h3;cases h3
     ·cases e4
    ·cases e2
   ·rw [if_neg hik] at e2 e4;exact s1.e.ap j k ps qs a hjk e1 e2 e3 e4
 ·rw [List.getElem?_set] at e1 e2
  by_cases hij:i=j
  ·subst hij;rw [if_pos rfl] at e1 e2;split at e1
   ·cases e1;split at e2
    ·cases e2;exact s.x.h.free (o.fr ps a rfl rfl)
    ·cases e2
   ·cases e1
  ·rw [if_neg hij] at e1 e2;exact s.nw j ps a e1 e2
section
variable {X:Cx}
def n4:MS:=λρ=>ξ (.nx ρ)
def i8(m n:MS):MS:=λρ=>(m ρ).bind λfl=>match fl with
 | .nx ρ'=>n ρ'
 |f=>ξ f
theorem m8:ESs X [] n4:=a0L b4j λD σ H h0=>L8 h0 λF0 H0 F ρ fl so e fin=>by
 cases e;exact fin σ F H (PU.m5.refl F) so
theorem c8{st:Stmt}{rest:List Stmt}{m n:MS}(h1:ES X st m)(h2:ESs X rest n):ESs X (st::rest) (i8 m n):=
 a0L (a35 h1 h2) λD σ H h0=>L8 h0 λF0 H0 F ρ fl so e fin=>by
  obtain⟨f1,e1,e⟩:=bind_some e;cases f1 with
  |nx ρ'=>exact⟨F0,H0,F,ρ,.nx ρ',so,e1,λσ' F' H' s so'=>⟨F0,H0,F',ρ',fl,so',e,fin.later s⟩⟩
  |rt r=>cases e;exact⟨F0,H0,F,ρ,_,so,e1,fin⟩
  |bk r=>cases e;exact⟨F0,H0,F,ρ,_,so,e1,fin⟩
  |ct r=>cases e;exact⟨F0,H0,F,ρ,_,so,e1,fin⟩
theorem d0{st:Stmt}{m:MS}(h1:ES X st m):ESs X [st] m:=a6u h1
def p7(i:Nat)(m:M):MS:=λρ=>(m ρ).bind λr=>if r.nb=true then ξ (.nx (ρ.set i (ξ r))) else ζ
theorem i5{i:Nat}{x:Str}{e:AF}{m:M}{pos pos':Pos}(hN:X.N.Nodup)(he:EE X e m)(hi:X.N[i]?=ξ x:=by rfl)(hx:Loc X.env.scope x:=by exact Or.inl rfl)(hs:swapsWith e (ξ (.Name x pos')) pos.line X.env=pure false:=by rfl)(hf:X.fn x=true\/X.env.scope.names.lookup x=ξ .local:=by first|exact .inl rfl|exact .inr rfl|assumption):
 ES X (.Assign [.Name x pos'] e pos) (p7 i m):=
 G9 (b4i hN hi hx he hs hf) λD σ H h0=>L8 h0 λF0 H0 F ρ fl so e fin=>by
  ext aa
  ·rename_i c;cases e;exact⟨F,ρ,r,so.e,e1,λv F' H' o=>fin _ F' H' o.x.f (so.set o c i)⟩
  ·cases e
def t6(m:M):MS:=λρ=>(m ρ).bind λr=>if r.nb=true then ξ (.rt r) else ζ
theorem i9{e:AF}{m:M}{pos:Pos}(he:EE X e m):ES X (.Return (ξ e) pos) (t6 m):=
 G9 (b7p he) λD σ H h0=>L8 h0 λF0 H0 F ρ fl so e fin=>by
  ext aa
  ·rename_i c;cases e;exact⟨F,ρ,r,so.e,e1,λv F' H' o=>fin v F' H' (B4.trans so.x o)⟩
  ·cases e
def a0J(i:Nat):MS:=λρ=>match ρ[i]? with
 |some (ξ r)=>ξ (.rt r)
 |_=>ζ
theorem T6(i:Nat){x:Str}{p pos:Pos}(h:PE X (.Name x p) (a2P i)):ES X (.Return (ξ (.Name x p)) pos) (a0J i):=
 G9 (b7p h) λD σ H h0=>L8 h0 λF0 H0 F ρ fl so e fin=>by
  unfold a0J at e;split at e
  ·rename_i r er;cases e;obtain⟨v,e1,rr⟩:=so.e.at_ i _ er;exact⟨v,e1,fin v F H ⟨so.x,rr,λps a z1 z2=>by subst z1;subst z2;exact so.nw i ps a er e1⟩⟩
  ·cases e
def v5(c:MT)(m n:MS):MS:=λρ=>(c ρ).bind λb=>if b=true then m ρ else n ρ
theorem r6{c:AF}{a b:List Stmt}{mc:MT}{m n:MS}{pos:Pos}(hc:ET X c mc)(ha:ESs X a m)(hb:ESs X b n):ES X (.If c a b pos) (v5 mc m n):=
 G9 (b8y hc ha hb) λD σ H h0=>L8 h0 λF0 H0 F ρ fl so e fin=>by
  obtain⟨b,e1,e⟩:=bind_some e;refine⟨F,ρ,b,so.e,e1,λF1 H1 x=> ?_⟩;cases b with
  |true=>exact b19 ⟨F0,H0,F1,ρ,fl,so.ext x,e,fin.later x.f⟩
  |false=>exact b18 ⟨F0,H0,F1,ρ,fl,so.ext x,e,fin.later x.f⟩
def setAll{α:Type}:List (Υ α)->List Nat->List α->List (Υ α)
 |σ,i::is,x::xs=>setAll (σ.set i (ξ x)) is xs
 |σ,_,_=>σ
def b6U:List Nat->TGs
 |[]=>c62
 |i::is=>c4W (b2O i) (b6U is)
theorem b2P:∀{is:List Nat} {xs:List V} {σ:L2.St} {H:Hp} {Q:L2.St->Hp->Prop},xs.length=is.length->Q (setAll σ is xs) H->b6U is xs σ H Q
 |[],[],_,_,_,_,q=>⟨rfl,q⟩
 |[],_::_,_,_,_,h,_=>by cases h
 |_::_,[],_,_,_,h,_=>by cases h
 |i::is,x::xs,σ,H,Q,h,q=>⟨x,xs,rfl,b2P (is:=is) (xs:=xs) (by simpa using h) q⟩
theorem SOk.setAll{K:AE}{F0 H0 F H:Hp}:∀{is:List Nat} {xs:List V} {ps:List PV} {σ:L2.St} {ρ:c9},SOk K F0 H0 F H σ ρ->o0 K F ps xs->SOk K F0 H0 F H (PU.setAll σ is xs) (PU.setAll ρ is (ps.map .v))
 |[],xs,ps,σ,ρ,s,r=>by
  have e1:PU.setAll σ [] xs=σ:=by cases xs<;>rfl
  have e2:PU.setAll ρ [] (ps.map d4.v)=ρ:=by cases ps<;>rfl
  rw [e1,e2];exact s
 |i::is,xs,[],σ,ρ,s,r=>by cases r;exact s
 |i::is,xs,p::ps,σ,ρ,s,⟨v,t,e,rp,rl⟩=>by
  subst e;exact SOk.setAll (is:=is) (s.set (B4.here s.e.fh rp) rfl i) rl
def c3Z(is:List Nat)(m:M):MS:=λρ=>(m ρ).bind λr=>match r with
 | .v (.tuple ps)=>if ps.length=is.length then ξ (.nx (setAll ρ is (ps.map .v))) else ζ
 |_=>ζ
theorem c00{is:List Nat}{es:List AF}{k:Nat}{e:AF}{m:M}{pos tpos:Pos}(hc:X.calm=true)(he:EE X e m)(hg:PGs X es (b6U is))
 (hn:(assignEach es X.env).length=is.length:=by rfl) (hst:(assignEach es X.env).findIdx? (·.1)=ζ:=by rfl)
 (hs:swapsWithSole [.Tuple es k tpos] e pos.line X.env=pure false:=by rfl) (hw:swappedStores [.Tuple es k tpos] e X.env=pure ζ:=by rfl)
 (h1:(assignEach [.Tuple es k tpos] X.env).map (·.2)=[assign (.Tuple es k tpos) X.env]:=by rfl):ES X (.Assign [.Tuple es k tpos] e pos) (c3Z is m):=
 G9 (c19 he (c6j hc hg hn hst) hs hw h1) λD σ H h0=>L8 h0 λF0 H0 F ρ fl so e fin=>by
  ext aa
  ·rename_i ps;split at e
   ·rename_i c;cases e;refine⟨F,ρ,_,so.e,e1,λv F' H' o=> ?_⟩;obtain⟨a,xs,rfl,hq,rl⟩:=o.rep;have hl:xs.length=is.length:=by rw [rl.length];exact c
    exact⟨a,xs,rfl,A7 o.x.fh hq.sq,hl,b2P hl (fin _ F' H' o.x.f ((so.ext o.x).setAll rl))⟩
   ·cases e
  ·cases e
def O1(body:MS)(tg:PV->c9->Υ c9):List PV->c9->Υ Fl
 |[],ρ=>ξ (.nx ρ)
 |p::ps,ρ=>(tg p ρ).bind λρ1=>(body ρ1).bind λfl=>match fl with
  | .nx ρ'=>O1 body tg ps ρ'
  | .ct ρ'=>O1 body tg ps ρ'
  | .bk ρ'=>ξ (.nx ρ')
  | .rt r=>ξ (.rt r)
def g9(i:Nat):PV->c9->Υ c9:=λp ρ=>ξ (ρ.set i (ξ (.v p)))
def b82(K:AE)(g:TG)(tg:PV->c9->Υ c9):Prop:=
 ∀F0 H0 F H σ ρ ρ1 p x (Q:L2.St->Hp->Prop),SOk K F0 H0 F H σ ρ->J7 K F p x->tg p ρ=ξ ρ1->(∀σ',SOk K F0 H0 F H σ' ρ1->Q σ' H)->g x σ H Q
theorem p9{K:AE}(i:Nat):b82 K (b2O i) (g9 i):=λF0 H0 F H σ ρ ρ1 p x Q so r e k=>by
 cases e;exact k _ (so.set (B4.here so.e.fh r) rfl i)
theorem b9o{body:MS}{tg:PV->c9->Υ c9}{ps:List PV}{p:PV}{ρ:c9}{fl:Fl}(h:O1 body tg (p::ps) ρ=ξ fl):∃ρ1 f1,tg p ρ=ξ ρ1/\body ρ1=ξ f1/\(match f1 with
 | .nx ρ'=>O1 body tg ps ρ'
 | .ct ρ'=>O1 body tg ps ρ'
 | .bk ρ'=>ξ (.nx ρ')
 | .rt r=>ξ (.rt r))=ξ fl:=by
 unfold O1 at h
 obtain⟨ρ1,e1,h⟩:=bind_some h
 obtain⟨f1,e2,h⟩:=bind_some h
 exact⟨ρ1,f1,e1,e2,h⟩
def PvL(K:AE)(F0 H0 F1:Hp)(body:MS)(tg:PV->c9->Υ c9)(ps:List PV)(fl:Fl)(k:Nat)(σ:L2.St)(H:Hp):Prop:=
 ∃F ρ,m5 F1 F/\SOk K F0 H0 F H σ ρ/\O1 body tg (ps.drop k) ρ=ξ fl
theorem a3W{K:AE}{F0 H0 F1:Hp}{body:MS}{tg:PV->c9->Υ c9}{g:TG}{ps:List PV}{fl:Fl}{D:a2O}{k:Nat}{p:PV}{x:V}{σ:L2.St}{H:Hp}(T:b82 K g tg)(fin:Fin K F0 H0 F1 D fl)(ep:ps[k]?=ξ p)
 (hp:PvL K F0 H0 F1 body tg ps fl k σ H) (rx:∀F,m5 F1 F->J7 K F p x):
 g x σ H λσ2 H2=>tMS K body {D with nx:=PvL K F0 H0 F1 body tg ps fl (k+1),ct:=PvL K F0 H0 F1 body tg ps fl (k+1),bk:=D.nx} σ2 H2:=by
 obtain⟨F,ρ,s,so,e⟩:=hp
 have hk:k<ps.length:=(Av.mp ep).1
 have hd:ps.drop k=p::ps.drop (k+1):=by
  rw [List.drop_eq_getElem_cons hk]
  congr 1
  exact(Av.mp ep).2
 rw [hd] at e
 obtain⟨ρ1,f1,e1,e2,e3⟩:=b9o e
 refine T F0 H0 F H σ ρ ρ1 p x _ so (rx F s) e1 λσ' so'=>⟨F0,H0,F,ρ1,f1,so',e2, ?_⟩
 cases f1 with
 |nx ρ'=>exact λσ2 F2 H2 s2 so2=>⟨F2,ρ',s.trans s2,so2,e3⟩
 |ct ρ'=>exact λσ2 F2 H2 s2 so2=>⟨F2,ρ',s.trans s2,so2,e3⟩
 |bk ρ'=>cases e3;exact λσ2 F2 H2 s2 so2=>fin σ2 F2 H2 (s.trans s2) so2
 |rt r=>cases e3;exact fin
theorem a5K{K:AE}{F0 H0 F1:Hp}{body:MS}{tg:PV->c9->Υ c9}{ps:List PV}{fl:Fl}{D:a2O}{σ:L2.St}{H:Hp}(fin:Fin K F0 H0 F1 D fl)
 (hp:PvL K F0 H0 F1 body tg ps fl ps.length σ H):D.nx σ H:=by
 obtain⟨F,ρ,s,so,e⟩:=hp
 rw [List.drop_length] at e
 cases e
 exact fin σ F H s so
abbrev MI:=c9->Υ (List PV)
def a0c(m:M):MI:=λρ=>((m ρ).bind d4.toVal).bind PyData.items?
def c7T(K:AE)(tl:TE):TI:=λσ H R=>tl σ H λx H1=>∃a,x= .ref a/\(((∃xs,SqL K H1 a xs)/\R (Itl K a) H1)\/((∃xs,SqT K H1 a xs)/\R (Itt K a) H1))
theorem b7l{tg l:AF}{tl:TE}(hl:PE X l tl):PI X tg l (c7T X.K tl):=by
 ext ab
 obtain⟨a,e,q⟩:=q1;subst e;cases r1;rcases q with⟨⟨xs,hq⟩,q⟩|⟨⟨xs,hq⟩,q⟩
 ·obtain⟨its,rv,p,hz⟩:=I1.list hq;refine wpAny_pyIter_list p.isList ?_;refine⟨s1.heap.objs.size,[s1.heap.objs.size],_,_,H1,rfl,I1.kept (t':=s1.toks) λb o e=>Am _ e,c0f a _,⟨_,At _ rfl,rfl,rfl⟩,λb hb=> ?_,q⟩;have e:b=s1.heap.objs.size:=by simpa using hb
  subst e;exact I1.fpOk (AN _) (I1.hok.fresh (AN _))
 ·obtain⟨its,rv,p,hz⟩:=I1.tuple hq;refine wpAny_pyIter_tuple (show s1.heap.IsTuple a its.toArray from p) ?_;refine⟨s1.heap.objs.size,[s1.heap.objs.size],_,_,H1,rfl,I1.kept (t':=s1.toks) λb o e=>Am _ e,b1W a _,⟨_,At _ rfl,rfl,rfl⟩,λb hb=> ?_,q⟩;have e:b=s1.heap.objs.size:=by simpa using hb
  subst e;exact I1.fpOk (AN _) (I1.hok.fresh (AN _))
def X1(it:MI)(tg:PV->c9->Υ c9)(body:MS):MS:=λρ=>(it ρ).bind λps=>O1 body tg ps ρ
theorem a07{tg iter:AF}{body:List Stmt}{m:M}{g:TG}{t:PV->c9->Υ c9}{b:MS}{pos:Pos}(hp:PassesOwn (model X.prog X.w) X.A X.env X.xe)(hc:X.calm=true)(hi:EE X iter m)(hg:PG X tg g)(T:b82 X.K g t)(hb:ESs X body b)
 (hs:∀x,foldedSetIterable iter X.env x=pure x:=by intro _;rfl):ES X (.For tg iter body [] pos) (X1 (a0c m) t b):=
 G9 (b1x hp hc (b7l hi) hg hb hs) λD σ H h0=>L8 h0 λF0 H0 F ρ fl so e fin=>by
  obtain⟨ps,e1,e⟩:=bind_some e;obtain⟨q,e1,e2⟩:=bind_some e1;obtain⟨r,e1,e3⟩:=bind_some e1;refine⟨F,ρ,r,so.e,e1,λv F' H' o=> ?_⟩;obtain⟨F1,o1⟩:=o.toVal e3;have fin1:=fin.later o1.x.f;have so1:=so.ext o1.x;obtain⟨a,xs,rfl,hq,rl⟩:=a0l (F:=F1) (H:=F1) (PU.m5.refl F1) (show U1 X.K F1 F1 v (.v q) from o1.rep) e2;have hlen:=rl.length;have get:∀k x,xs[k]?=ξ x->∃p,ps[k]?=ξ p/\∀F,m5 F1 F->J7 X.K F p x:=λk x ex=>by
   obtain⟨p,ep,rp⟩:=rl.getV ex;exact⟨p,ep,λF s=>J7.mono s _ rp⟩
  rcases hq with hq|hq
  ·refine⟨a,rfl,.inl ⟨⟨xs,Y1 o1.x.fh hq⟩,b48 (K:=X.K) (a:=a) (xs:=xs) (PvL X.K F0 H0 F1 b t ps fl) ⟨F1,ρ,PU.m5.refl F1,so1,e⟩ (λk σ H _ ⟨F,_,s,so2,_⟩=>Y1 (s.trans so2.e.fh) hq) (λk x σ H ex hp=> ?_) (λσ H hp=> ?_)⟩⟩
   ·obtain⟨p,ep,rp⟩:=get k x ex;exact a3W T fin1 ep hp rp
   ·rw [hlen] at hp;exact a5K fin1 hp
  ·refine⟨a,rfl,.inr ⟨⟨xs,A7 o1.x.fh hq⟩,c3C (K:=X.K) (a:=a) (xs:=xs) (PvL X.K F0 H0 F1 b t ps fl) ⟨F1,ρ,PU.m5.refl F1,so1,e⟩ (λk σ H _ ⟨F,_,s,so2,_⟩=>A7 (s.trans so2.e.fh) hq) (λk x σ H ex hp=> ?_) (λσ H hp=> ?_)⟩⟩
   ·obtain⟨p,ep,rp⟩:=get k x ex;exact a3W T fin1 ep hp rp
   ·rw [hlen] at hp;exact a5K fin1 hp
def K4(lo hi:Int):List PV:=(Ab (hi - lo).toNat).map λk=> .int (lo+(k:Nat))
theorem c1s:∃f:Int->Bool,∀j,f j=decide (-(2 ^ 62)<=j/\j<2 ^ 62):=⟨_,λ_=>rfl⟩
def inR:Int->Bool:=c1s.choose
theorem c5B(j:Int):inR j=decide (-(2 ^ 62)<=j/\j<2 ^ 62):=c1s.choose_spec j
theorem a4J{j:Int}:inR j=true↔(-(2 ^ 62)<=j/\j<2 ^ 62):=by rw [c5B,decide_eq_true_iff]
def a0V(m:MA):MI:=λρ=>(m ρ).bind λps=>match ps with
 |[.int j]=>if inR j=true then ξ (K4 0 j) else ζ
 |_=>ζ
def a75(m:MA):MI:=λρ=>(m ρ).bind λps=>match ps with
 |[.int i,.int j]=>if inR i=true/\inR j=true then ξ (K4 i j) else ζ
 |_=>ζ
theorem a8s{lo hi:Int}{k:Nat}(h:k<(hi - lo).toNat):(K4 lo hi)[k]?=ξ (.int (lo+k)):=by
 simp [K4,h]
theorem R9(lo hi:Int):(K4 lo hi).length=(hi - lo).toNat:=by simp [K4]
theorem a2o{tg a:AF}{body:List Stmt}{m:MA}{g:TG}{t:PV->c9->Υ c9}{b:MS}{p rp pos:Pos}(hp:PassesOwn (model X.prog X.w) X.A X.env X.xe)(hc:X.calm=true)(hgl:Gl X "range")(hm:X.mg "range"=ζ)(ha:EA X [a] m)(hg:PG X tg g)(T:b82 X.K g t)(hb:ESs X body b)
 (hst:AK [a] X.env=[(false,eval a X.env)]:=by rfl) (hs:∀x,foldedSetIterable (.Call (.Name "range" p) [a] [] rp) X.env x=pure x:=by intro _;rfl):ES X (.For tg (.Call (.Name "range" p) [a] [] rp) body [] pos) (X1 (a0V m) t b):=
 G9 (b1x hp hc (b3b hgl hm ha hst) hg hb hs) λD σ H h0=>L8 h0 λF0 H0 F ρ fl so e fin=>by
  obtain⟨ps,e1,e⟩:=bind_some e;obtain⟨qs,e1,e2⟩:=bind_some e1;refine⟨F,ρ,qs,so.e,e1,λvs F1 H1 x rl=> ?_⟩;split at e2
  ·rename_i j;split at e2
   ·rename_i c;have c:=a4J.mp c;cases e2;obtain⟨v,r,rfl,rv,rr⟩:=rl;cases rv;cases rr;have fin1:=fin.later x.f;have hz:(j - 0).toNat=j.toNat:=by lia
    refine⟨j,rfl,c.1,c.2,b2M (lo:=0) (n:=j.toNat) (PvL X.K F0 H0 F1 b t (K4 0 j) fl) ⟨F1,ρ,PU.m5.refl F1,so.ext x,e⟩ (λk σ H hk hp=> ?_) (λσ H hp=> ?_)⟩
    ·exact a3W T fin1 (a8s (by lia)) hp λ_ _=>rfl
    ·have:j.toNat=(K4 0 j).length:=by rw [R9,hz]
     rw [this] at hp;exact a5K fin1 hp
   ·cases e2
  ·cases e2
theorem a3P{tg a a2:AF}{body:List Stmt}{m:MA}{g:TG}{t:PV->c9->Υ c9}{b:MS}{p rp pos:Pos}(hp:PassesOwn (model X.prog X.w) X.A X.env X.xe)(hc:X.calm=true)(hgl:Gl X "range")(hm:X.mg "range"=ζ)(ha:EA X [a,a2] m)(hg:PG X tg g)(T:b82 X.K g t)(hb:ESs X body b)
 (hst:AK [a,a2] X.env=[(false,eval a X.env),(false,eval a2 X.env)]:=by rfl) (hst2:AK [a2] X.env=[(false,eval a2 X.env)]:=by rfl) (hs:∀x,foldedSetIterable (.Call (.Name "range" p) [a,a2] [] rp) X.env x=pure x:=by intro _;rfl):
 ES X (.For tg (.Call (.Name "range" p) [a,a2] [] rp) body [] pos) (X1 (a75 m) t b):=
 G9 (b1x hp hc (b90 hgl hm ha hst hst2) hg hb hs) λD σ H h0=>L8 h0 λF0 H0 F ρ fl so e fin=>by
  obtain⟨ps,e1,e⟩:=bind_some e;obtain⟨qs,e1,e2⟩:=bind_some e1;refine⟨F,ρ,qs,so.e,e1,λvs F1 H1 x rl=> ?_⟩;split at e2
  ·rename_i i j;split at e2
   ·rename_i c;have c:(-(2 ^ 62)<=i/\i<2 ^ 62)/\ -(2 ^ 62)<=j/\j<2 ^ 62:=⟨a4J.mp c.1,a4J.mp c.2⟩;cases e2;obtain⟨v,r,rfl,rv,v2,r2,rfl,rv2,rr⟩:=rl;cases rv;cases rv2;cases rr;have fin1:=fin.later x.f;refine⟨i,j,rfl,⟨c.1.1,c.1.2,c.2.1,c.2.2⟩,b2M (lo:=i) (n:=(j - i).toNat) (PvL X.K F0 H0 F1 b t (K4 i j) fl) ⟨F1,ρ,PU.m5.refl F1,so.ext x,e⟩ (λk σ H hk hp=> ?_) (λσ H hp=> ?_)⟩
    ·exact a3W T fin1 (a8s hk) hp λ_ _=>rfl
    ·rw [<-R9 i j] at hp;exact a5K fin1 hp
   ·cases e2
  ·cases e2
def T3(c:MT)(body:MS):Nat->c9->Υ Fl
 |0,_=>ζ
 |n+1,ρ=>(c ρ).bind λb=>if b=true then(body ρ).bind λfl=>match fl with
  | .nx ρ'=>T3 c body n ρ'
  | .ct ρ'=>T3 c body n ρ'
  | .bk ρ'=>ξ (.nx ρ')
  | .rt r=>ξ (.rt r) else ξ (.nx ρ)
theorem b0V(n:Nat){c:AF}{body:List Stmt}{mc:MT}{b:MS}{pos:Pos}(hp:PassesOwn (model X.prog X.w) X.A X.env X.xe)(hc:ET X c mc)(hb:ESs X body b):ES X (.While c body [] pos) (T3 mc b n):=
 G9 (c2b hp hc hb) λD σ H h0=>L8 h0 λF0 H0 F ρ fl so e fin=>by
  refine⟨λk σ H=>∃F1 ρ,m5 F F1/\SOk X.K F0 H0 F1 H σ ρ/\T3 mc b k ρ=ξ fl,⟨n,F,ρ,PU.m5.refl F,so,e⟩, ?_⟩;rintro k σ H ⟨F1,ρ,s,so,e⟩;cases k with
  |zero=>cases e
  |succ k=>
   unfold T3 at e;obtain⟨d,e1,e⟩:=bind_some e;refine⟨F1,ρ,d,so.e,e1,λF2 H2 x=> ?_⟩;have s2:=s.trans x.f;cases d with
   |true=>
    rw [if_pos rfl] at e;obtain⟨f1,e2,e⟩:=bind_some e;refine b19 ⟨λσ' H'=>∃F1 ρ,m5 F F1/\SOk X.K F0 H0 F1 H' σ' ρ/\T3 mc b k ρ=ξ fl,λσ' H' h=>⟨k,Nat.lt_succ_self k,h⟩,⟨F0,H0,F2,ρ,f1,so.ext x,e2, ?_⟩⟩;cases f1 with
    |nx ρ'=>exact λσ3 F3 H3 s3 so3=>⟨F3,ρ',s2.trans s3,so3,e⟩
    |ct ρ'=>exact λσ3 F3 H3 s3 so3=>⟨F3,ρ',s2.trans s3,so3,e⟩
    |bk ρ'=>cases e;exact λσ3 F3 H3 s3 so3=>fin σ3 F3 H3 (s2.trans s3) so3
    |rt r=>cases e;exact fin
   |false=>
    rw [if_neg BB] at e;cases e;exact b18 (fin σ F2 H2 s2 (so.ext x))
def k4(n:Nat)(body:MS)(ps:List PV):Υ d4:=(body (ps.map (λp=>ξ (d4.v p))++AV n ζ)).bind λfl=>match fl with
 | .rt r=>ξ r
 | .nx _=>ξ (.v .none)
 |_=>ζ
end
theorem b58{K:AE}{F H:Hp}{ps:List PV}{vs:List V}(n:Nat)(s:m5 F H)(r:o0 K F ps vs):SOk K F H F H (vs.map ξ++AV n ζ) (ps.map (λp=>ξ (d4.v p))++AV n ζ):=by
 have hl:=r.length;have key:∀(i:Nat) (q:d4),(ps.map (λp=>ξ (d4.v p))++AV n ζ)[i]?=ξ (ξ q)->∃p v,q= .v p/\(vs.map ξ++AV n ζ)[i]?=ξ (ξ v)/\J7 K F p v:=by
  intro i q e
  by_cases h:i<ps.length
  ·rw [BE (by simpa using h),Az] at e
   rw [BE (by rw [AZ,hl];exact h),Az]
   cases q':ps[i]? with
   |none=>rw [q'] at e;cases e
   |some p=>
    rw [q'] at e;cases e;obtain⟨v,h1,h2⟩:=r.get q';exact⟨p,v,rfl,by rw [h1];rfl,h2⟩
  ·rw [List.getElem?_append_right (by simpa using h),List.getElem?_replicate] at e
   split at e<;>cases e
 refine⟨Ext.refl s,⟨s,by simp [hl],λi q e=> ?_,λi qs e=> ?_,λi j qs _ a _ e=> ?_⟩,λi qs a e=> ?_⟩
 ·obtain⟨p,v,rfl,h1,h2⟩:=key i q e;exact⟨v,h1,h2⟩
 ·obtain⟨p,v,z,_⟩:=key i _ e;cases z
 ·obtain⟨p,v,z,_⟩:=key i _ e;cases z
 ·obtain⟨p,v,z,_⟩:=key i _ e;cases z
theorem c04{P:AJ}{w:AH}{K:AE}{mg:Str->Υ AA}{base:Heap}{x qual:Str}{st:Stmt}{f:AB}{fd:FuncData}{N ps:List Str}{k:Nat}{m:MS}(F:Fun K x qual st f fd)(S:i4 N ps (d6 st))
 (hb:∀(cdv:AA) (A:AM) (outer:List Env) (s:AC) (H:Hp) (E:XK),W9 k (A.deeper (envOfC qual (d6 st) s.heap.objs.size f cdv))->ESs (a5q CX0 P w K mg base N qual (d6 st) f cdv A outer s H E).nox (C3 st) m):
 a1v P w K mg base CX0 (k+1) f fd ps (spP K ps.length (k4 (N.length - ps.length) m)):=by
 refine F.ok S (λvs H Q E h=> ?_) (λcdv A outer s H vs Q E hr h=> ?_)
 ·obtain⟨_,qs,_,_,r,h2,_⟩:=h
  rw [r.length,h2]
 ·obtain⟨F1,qs,r,s1,rl,hl,e,k⟩:=h
  refine⟨_,hb cdv A outer s H E hr, ?_⟩
  unfold k4 at e
  obtain⟨fl,e1,e2⟩:=bind_some e
  have hv:vs.length=ps.length:=by rw [rl.length,hl]
  refine⟨F1,H,F1,_,fl, ?_,e1, ?_⟩
  ·have:=b58 (N.length - ps.length) s1 rl
   unfold L2.a3g
   rw [hv]
   exact this
  ·cases fl with
   |rt q=>cases e2;exact λv F' H' o=>k v F' H' o
   |nx ρ=>cases e2;exact λσ' F' H' _ so=>k .non F' H' (B4.val so.x rfl)
   |bk ρ=>cases e2
   |ct ρ=>cases e2
section
variable {X:Cx}
def rC1(K:AE)(g:d4->Υ d4):List V->Hp->VK->Prop:=λxs H Q=>∃F x rx rz,xs=[x]/\m5 F H/\U1 K F H x rx/\g rx=ξ rz/\∀v F' H',B4 K F H F' H' v rz->Q v H'
def rC2(K:AE)(g:d4->d4->Υ d4):List V->Hp->VK->Prop:=λxs H Q=>∃F x y rx ry rz,xs=[x,y]/\m5 F H/\U1 K F H x rx/\U1 K F H y ry/\g rx ry=ξ rz/\∀v F' H',B4 K F H F' H' v rz->Q v H'
def m1(g:d4->Υ d4)(m:M):M:=λρ=>(m ρ).bind g
theorem c1W{m:M}{g:d4->Υ d4}{σ:L2.St}{H:Hp}{Q:VK}(h:tM X.K (m1 g m) σ H Q):tCB (rC1 X.K g) (b8M (tM X.K m) c6G) σ H Q:=by
 obtain⟨F,ρ,r,he,hm,k⟩:=h;obtain⟨rx,e1,hm⟩:=bind_some hm;exact⟨F,ρ,rx,he,e1,λv F1 H1 o1=>⟨F1,v,rx,r,rfl,o1.x.fh,o1.rep,hm,λz F2 H2 o2=>k z F2 H2 (B4.trans o1.x o2)⟩⟩
theorem c4M{m n:M}{g:d4->d4->Υ d4}{σ:L2.St}{H:Hp}{Q:VK}(h:tM X.K (m2 g m n) σ H Q):tCB (rC2 X.K g) (b8M (tM X.K m) (b8M (tM X.K n) c6G)) σ H Q:=by
 obtain⟨F,ρ,r,he,hm,k⟩:=h
 ext z
 exact⟨F,ρ,rx,he,e1,λv F1 H1 o1=>⟨F1,ρ,ry,he.ext o1.x,e2,λu F2 H2 o2=>⟨F2,v,u,rx,ry,r,rfl,o2.x.fh,o1.rep.ext o2.x,o2.rep,hm,λz F3 H3 o3=>k z F3 H3 (B4.trans (o1.x.trans o2.x) o3)⟩⟩⟩
theorem D7{id:String}{x:Str}{p pos:Pos}{e:AF}{g:d4->Υ d4}{m:M}(hc:T4 X (.builtin id) (rC1 X.K g))(hg:Gl X x)(hm:X.mg x=ζ)(hv:bootBuiltins x=ξ (.builtin id))(ha:EE X e m)(hn:x≠"__name__":=by decide)(hdb:Δ x:=by decide)
 (he:AK [e] X.env=(false,eval e X.env)::AK [] X.env:=by rfl) (hpl:(backTo pos (AK [] X.env)).any (·.1)=false:=by rfl):EE X (.Call (.Name x p) [e] [] pos) (m1 g m):=
 B9 (a8j hc hg hm hv (J3 ha a0d he) hn hdb he hpl) λ_ _ _ h=>c1W h
theorem b2H{id:String}{x:Str}{p pos:Pos}{e e2:AF}{g:d4->d4->Υ d4}{m n:M}(hc:T4 X (.builtin id) (rC2 X.K g))(hg:Gl X x)(hm:X.mg x=ζ)(hv:bootBuiltins x=ξ (.builtin id))(ha:EE X e m)(hb:EE X e2 n)(hn:x≠"__name__":=by decide)(hdb:Δ x:=by decide)
 (he:AK [e,e2] X.env=(false,eval e X.env)::AK [e2] X.env:=by rfl) (he2:AK [e2] X.env=(false,eval e2 X.env)::AK [] X.env:=by rfl) (hpl:(backTo pos (AK [e2] X.env)).any (·.1)=false:=by rfl):EE X (.Call (.Name x p) [e,e2] [] pos) (m2 g m n):=
 B9 (a8j hc hg hm hv (J3 ha (J3 hb a0d he2) he) hn hdb he hpl) λ_ _ _ h=>c4M h
theorem a9J{T:String}{x:Str}{p pos:Pos}{e:AF}{g:d4->Υ d4}{m:M}(hc:T4 X (.type T) (rC1 X.K g))(hg:Gl X x)(hm:X.mg x=ζ)(hv:bootBuiltins x=ξ (.type T))(ha:EE X e m)(hn:x≠"__name__":=by decide)(hdb:Δ x:=by decide)
 (he:AK [e] X.env=(false,eval e X.env)::AK [] X.env:=by rfl) (hpl:(backTo pos (AK [] X.env)).any (·.1)=false:=by rfl):EE X (.Call (.Name x p) [e] [] pos) (m1 g m):=
 B9 (b3a hc hg hm hv (J3 ha a0d he) hn hdb he hpl) λ_ _ _ h=>c1W h
def y9(x:d4):Υ d4:=match x.rd with
 | .str z=>if z.length<=AL then ξ (.v (.int z.length)) else ζ
 |p=>match PyData.items? p with
  |some ps=>ξ (.v (.int ps.length))
  |none=>ζ
theorem z8:T4 X (.builtin "len") (rC1 X.K y9):=by
 ext d
 unfold y9 at h2;split at h2
 ·rename_i z ez;split at h2
  ·rename_i c;cases h2;have rr:=h1.rd s0;rw [ez] at rr;cases rr;exact b3w pins s σ H _ us Q I rv ⟨z,rfl,c,k _ F H (B4.here s0 rfl)⟩
  ·cases h2
 ·split at h2
  ·rename_i ps e;cases h2;obtain⟨a,xs,rfl,hq,r⟩:=a0l s0 h1 e;refine b3v pins s σ H _ us Q I rv ⟨a,xs,rfl,hq, ?_⟩;rw [r.length];exact k _ F H (B4.here s0 rfl)
  ·cases h2
theorem a8W(hc:X.calm=true):T4 X (.builtin "min") (rC2 X.K (gI λi j=> .int (if j<i then j else i))):=by
 intro pins s σ H xs us Q I rv h;obtain⟨F,x,y,rx,ry,rz,rfl,s0,h1,h2,h3,k⟩:=h;obtain⟨i,j,rfl,rfl,rfl⟩:=b79 h3;cases h1;cases h2;exact b86 hc pins s σ H _ us Q I rv ⟨i,j,rfl,k _ F H (B4.here s0 rfl)⟩
def b3L(x:d4):Υ d4:=match PyData.items? x.rd with
 |some ps=>ξ (.v (.tuple ps))
 |none=>ζ
theorem b9y{F H:Hp}{v:V}{r:d4}{ps:List PV}(s0:m5 F H)(h:U1 X.K F H v r)(e:PyData.items? r.rd=ξ ps):∃a xs,v= .ref a/\(SqL X.K H a xs\/(SqT X.K H a xs/\J7 X.K F (.tuple ps) v))/\o0 X.K F ps xs:=by
 cases r with
 |v p=>
  cases p with
  |list qs=>cases e;obtain⟨a,xs,rfl,hq,r⟩:=h;exact⟨a,xs,rfl,.inl (Y1 s0 hq),r⟩
  |tuple qs=>cases e;obtain⟨a,xs,rfl,hq,r⟩:=h;exact⟨a,xs,rfl,.inr ⟨A7 s0 hq.sq,⟨a,xs,rfl,hq,r⟩⟩,r⟩
  |_=>cases e
 |ow c=>cases c<;>cases e;obtain⟨a,xs,rfl,_,hq,r⟩:=h;exact⟨a,xs,rfl,.inl (SqL.of hq),r⟩
 |bo c=>cases c<;>cases e;obtain⟨a,xs,rfl,_,hq,r⟩:=h;exact⟨a,xs,rfl,.inl (SqL.of hq),r⟩
theorem c0F:T4 X (.type "tuple") (rC1 X.K b3L):=by
 ext d
 unfold b3L at h2;split at h2
 ·rename_i ps e;cases h2;obtain⟨a,xs,rfl,hq,r⟩:=b9y s0 h1 e;refine b15 pins s σ H _ us Q I rv ⟨a,xs,rfl, ?_⟩;rcases hq with hq|⟨hq,rp⟩
  ·exact .inl ⟨hq,λl hl=>k _ _ _ (B4.tup s0 hl r)⟩
  ·exact .inr ⟨hq,k _ F H (B4.here s0 rp)⟩
 ·cases h2
def c1j(x:d4):Υ d4:=match PyData.items? x.rd with
 |some ps=>ξ (.own ps)
 |none=>ζ
theorem c3f:T4 X (.type "list") (rC1 X.K c1j):=by
 ext d
 unfold c1j at h2;split at h2
 ·rename_i ps e;cases h2;obtain⟨a,xs,rfl,hq,r⟩:=a0l s0 h1 e;exact b3x pins s σ H _ us Q I rv ⟨a,xs,rfl,hq,λl hl=>k _ _ _ (B4.lst s0 hl r)⟩
 ·cases h2
def kindOf:PV->String
 | .none=>"NoneType"
 | .bool _=>"bool"
 | .int _=>"int"
 | .str _=>"str"
 | .list _=>"list"
 | .tuple _=>"tuple"
 | .dict _=>"dict"
def a7c(T:String)(p:PV):Bool:=kindOf p==T||(kindOf p=="bool" && T=="int")
def c1u:PV->Bool
 | .dict ((.str _,_)::_)=>true
 |_=>false
def a3o(T:String)(x:d4):Υ d4:=bif c1u x.rd then ζ else ξ (.v (.bool (a7c T x.rd)))
def c0m(T:String):Prop:=T="int"\/T="bool"\/T="str"\/T="list"\/T="tuple"\/T="dict"
theorem b9E{K:AE}{T:String}(h:c0m T):∀p:PV,PySem.W.kitOne K (.type (kindOf p)) (.type T)=ξ (a7c T p):=by
 intro p;rcases h with rfl|rfl|rfl|rfl|rfl|rfl<;>cases p<;>kernel_rfl
theorem a4x{T:String}{e:AF}{m:M}{p p2 pos:Pos}(kt:c0m T)(hg:Gl X "isinstance")(hm:X.mg "isinstance"=ζ)(ha:EE X e m)(hT:PE X (.Name (AQ T) p2) (tC (.ty T)))
 (he:AK [e,.Name (AQ T) p2] X.env=(false,eval e X.env)::AK [.Name (AQ T) p2] X.env:=by rfl) (he2:AK [.Name (AQ T) p2] X.env=(false,eval (.Name (AQ T) p2) X.env)::AK [] X.env:=by rfl) (hpl:(backTo pos (AK [.Name (AQ T) p2] X.env)).any (·.1)=false:=by rfl)
 (hv:bootBuiltins "isinstance"=ξ (.builtin "isinstance"):=by rfl):
 EE X (.Call (.Name "isinstance" p) [e,.Name (AQ T) p2] [] pos) (m1 (a3o T) m):=by
 have hc:T4 X (.builtin "isinstance") (λxs H Q=>∃F x rx,xs=[x,.ty T]/\m5 F H/\U1 X.K F H x rx/\c1u rx.rd=false/\Q (.bl (a7c T rx.rd)) H):=by
  intro pins s σ H xs us Q I rv h;obtain⟨F,x,rx,rfl,s0,h1,nf,q⟩:=h;obtain⟨u,u2,rfl,ru,ru2⟩:∃u1 u2,us=[u1,u2]/\z7 x u1/\z7 (.ty T) u2:=by
   cases rv with
   |cons p q=>
    cases q with
    |cons p' q'=>
     cases q';exact⟨_,_,rfl,p,p'⟩
  cases ru2;have rr:=h1.rd s0;have kk:=b9E (K:=X.K) kt rx.rd;have fin:∀tk,EP X pins σ Q (.bool (a7c T rx.rd)) {s with toks:=tk}:=λtk=>⟨.bl _,H,I.tok tk,rfl,q⟩
  cases hp:rx.rd with
  |none=>rw [hp] at rr kk fin;cases rr;cases ru;exact PySem.W.kia_one PySem.W.kitx_none I.kIn True.intro kk (λz=>nomatch z) fin
  |bool b=>rw [hp] at rr kk fin;cases rr;cases ru;exact PySem.W.kia_one PySem.W.kitx_bool I.kIn True.intro kk (λz=>nomatch z) fin
  |int b=>rw [hp] at rr kk fin;cases rr;obtain⟨t,rfl⟩:=ru;exact PySem.W.kia_one PySem.W.kitx_int I.kIn True.intro kk (λz=>nomatch z) fin
  |str b=>rw [hp] at rr kk fin;cases rr;obtain⟨t,rfl⟩:=ru;exact PySem.W.kia_one PySem.W.kitx_str I.kIn True.intro kk (λz=>nomatch z) fin
  |list ps=>
   rw [hp] at rr kk fin;obtain⟨a,ys,rfl,hq,_⟩:=rr;cases ru;obtain⟨its,_,⟨o,n,e1,e2,_⟩,_⟩:=I.list hq;exact PySem.W.kia_one PySem.W.kitx_list I.kIn ⟨o,e1,e2⟩ kk (λz=>nomatch z) fin
  |tuple ps=>
   rw [hp] at rr kk fin;obtain⟨a,ys,rfl,hq,_⟩:=rr;cases ru;obtain⟨its,_,⟨o,e1,e2,_⟩,_⟩:=I.tuple hq.sq;exact PySem.W.kia_one PySem.W.kitx_tuple I.kIn ⟨o,e1,e2⟩ kk (λz=>nomatch z) fin
  |dict ps=>
   rw [hp] at rr kk fin nf;rcases rr with⟨a,_,rfl,hq,_⟩|⟨a,_,rfl,hq,_⟩|⟨x,_,rfl,_⟩|⟨x,m,fs,_,hf⟩
   ·cases ru;obtain⟨_,_,_,_,o,_,_,e1,e2,_⟩:=I.hok a _ hq;exact PySem.W.kia_one PySem.W.kitx_dict I.kIn ⟨o,e1,e2.1⟩ kk (λz=>nomatch z) fin
   ·cases ru;obtain⟨_,_,_,_,o,_,_,e1,e2,_⟩:=I.hok a _ hq;exact PySem.W.kia_one PySem.W.kitx_dict I.kIn ⟨o,e1,e2.1⟩ kk (λz=>nomatch z) fin
   ·cases nf
   ·cases ps with
    |nil=>cases hf
    |cons f ps=>obtain⟨k,p⟩:=f;obtain⟨_,_,_,_,z,_⟩:=hf;subst z;cases nf
 exact B9 (a8j hc hg hm hv (J3 ha (J3 hT a0d he2) he) (by decide) (by decide) he hpl) λσ H Q h0=>A1 h0 λF ρ r h1 h2 k=>by
  obtain⟨rx,e1,h2⟩:=bind_some h2;unfold a3o at h2;cases nf:c1u rx.rd with
  |true=>rw [nf] at h2;cases h2
  |false=>
   rw [nf] at h2;cases h2;exact⟨F,ρ,rx,h1,e1,λv F1 H1 o=>⟨F1,v,rx,rfl,o.x.fh,o.rep,nf,k _ F1 H1 (B4.val o.x rfl)⟩⟩
theorem SOk.putC{K:AE}{F0 H0 F H:Hp}{σ:L2.St}{ρ:c9}{i:Nat}{c d:a2c}{a:AB}{o:HO}(s:SOk K F0 H0 F H σ ρ)(e:ρ[i]?=ξ (ξ (.ow c)))(ea:σ[i]?=ξ (ξ (.ref a)))(r:F a=ζ->a00 K F (upd H a o) (.ref a) d):
 SOk K F0 H0 F (upd H a o) σ (ρ.set i (ξ (.ow d))):=by
 obtain⟨v,h1,rr0⟩:=s.e.at_ i _ e
 obtain⟨a',xs,rfl,fa,ha⟩:=a00.at_ rr0
 rw [ea] at h1;cases h1
 have na:H0 a=ζ:=s.nw i c a e ea
 have hi:i<ρ.length:=(Av.mp e).1
 refine⟨⟨s.x.f,λb o z=>by rw [m4 (v6 z na)];exact s.x.h _ _ z,λb o z=>by rw [m4 (v6 z fa)];exact s.x.fh _ _ z,s.x.nw,s.x.nf⟩,⟨λb o z=>by rw [m4 (v6 z fa)];exact s.e.fh _ _ z,by simp [s.e.len],λj q ej=> ?_,λj z ej=> ?_,λj k z1 z2 c' hjk e1 e2 e3 e4=> ?_⟩,λj z c' e1 e2=> ?_⟩
 ·rw [List.getElem?_set] at ej
  by_cases hij:i=j
  ·subst hij
   rw [if_pos rfl,if_pos hi] at ej
   cases ej
   exact⟨.ref a,ea,r fa⟩
  ·rw [if_neg hij] at ej
   obtain⟨v,h1,rr⟩:=s.e.at_ j q ej
   refine⟨v,h1, ?_⟩
   cases q with
   |v p=>exact rr
   |bo z=>exact absurd ej (s.e.nb j z)
   |ow z=>
    have key:∀b,v= .ref b->b≠a:=λb hb hab=>by subst hab;subst hb;exact s.e.ap i j c z b hij e ej ea h1
    cases z with
    |lst z=>
     obtain⟨b,zs,rfl,fb,hb,rz⟩:=rr
     exact⟨b,zs,rfl,fb,by rw [m4 (key b rfl)];exact hb,rz⟩
    |dct z=>
     obtain⟨b,zs,rfl,fb,hb,rz⟩:=rr
     exact⟨b,zs,rfl,fb,by rw [m4 (key b rfl)];exact hb,rz⟩
    |txt z=>
     obtain⟨b,zs,rfl,fb,hb,rz⟩:=rr
     exact⟨b,zs,rfl,fb,by rw [m4 (key b rfl)];exact hb,rz⟩
 ·rw [List.getElem?_set] at ej
  by_cases hij:i=j
  ·subst hij;rw [if_pos rfl,if_pos hi] at ej;cases ej
  ·rw [if_neg hij] at ej;exact s.e.nb j z ej
 ·have own_at:∀(j:Nat) (z:a2c),(ρ.set i (ξ (d4.ow d)))[j]?=ξ (ξ (d4.ow z))->∃z':a2c,ρ[j]?=ξ (ξ (d4.ow z')):=λj z h=>by
   rw [List.getElem?_set] at h
   by_cases hij:i=j
   ·subst hij;exact⟨c,e⟩
   ·rw [if_neg hij] at h;exact⟨z,h⟩
  obtain⟨y1,h1⟩:=own_at j z1 e1;obtain⟨y2,h2⟩:=own_at k z2 e2;exact s.e.ap j k y1 y2 c' hjk h1 h2 e3 e4
 ·rw [List.getElem?_set] at e1
  by_cases hij:i=j
  ·subst hij;rw [ea] at e2;cases e2;exact na
  ·rw [if_neg hij] at e1;exact s.nw j z c' e1 e2
theorem SOk.put{K:AE}{F0 H0 F H:Hp}{σ:L2.St}{ρ:c9}{i:Nat}{ps qs:List PV}{a:AB}{ys:List V}(s:SOk K F0 H0 F H σ ρ)(e:ρ[i]?=ξ (ξ (.own ps)))(ea:σ[i]?=ξ (ξ (.ref a)))(r:o0 K F qs ys):
 SOk K F0 H0 F (upd H a (.lst ys)) σ (ρ.set i (ξ (.own qs))):=s.putC e ea λfa=>⟨a,ys,rfl,fa,n6,r⟩
theorem SOk.putT{K:AE}{F0 H0 F H:Hp}{σ:L2.St}{ρ:c9}{i:Nat}{ps qs:Γ}{a:AB}{ys:List (m7×V)}(s:SOk K F0 H0 F H σ ρ)(e:ρ[i]?=ξ (ξ (.ow (.txt ps))))(ea:σ[i]?=ξ (ξ (.ref a)))(r:E3 K F qs (ys.map s1)):
 SOk K F0 H0 F (upd H a (.dK ys)) σ (ρ.set i (ξ (.ow (.txt qs)))):=s.putC e ea λfa=>⟨a,ys,rfl,fa,n6,r⟩
theorem SOk.putD{K:AE}{F0 H0 F H:Hp}{σ:L2.St}{ρ:c9}{i:Nat}{ps qs:Γ}{a:AB}{ys:List (List m7×V)}(s:SOk K F0 H0 F H σ ρ)(e:ρ[i]?=ξ (ξ (.dct ps)))(ea:σ[i]?=ξ (ξ (.ref a)))(r:E3 K F qs ys):
 SOk K F0 H0 F (upd H a (.dT ys)) σ (ρ.set i (ξ (.dct qs))):=s.putC e ea λfa=>⟨a,ys,rfl,fa,n6,r⟩
def D6(i:Nat)(m:M):MS:=λρ=>(m ρ).bind λr=>r.toVal.bind λp=>match ρ[i]? with
 |some (ξ (.ow (.lst ps)))=>if ps.length<AL then ξ (.nx (ρ.set i (ξ (.own (ps++[p]))))) else ζ
 |_=>ζ
theorem E5(i:Nat){x:Str}{p apos cpos pos:Pos}{e:AF}{m:M}(hx:PE X (.Name x p) (a2P i))(ha:EE X e m)
 (hbase:attributeBase (.Name x p) "append" X.env (eval (.Name x p) X.env)=eval (.Name x p) X.env:=by rfl)
 (hfew:((backTo cpos (AK [e] X.env)).all (λx=> !x.1)&&(backToKw cpos (keywordEach [] X.env)).all (λx=>x.1.isSome)
  && decide ([e].length+([]:List Keyword).length+(if([]:List Keyword).isEmpty then 0 else 1)<30))=true:=by rfl)
 (hline:(apos.endLine==cpos.line)=true:=by rfl) (hs:AK [e] X.env=(false,eval e X.env)::AK [] X.env:=by rfl) (hplain:(backTo cpos (AK [] X.env)).any (·.1)=false:=by rfl)
 (hsw:swapsWith (.Call (.Attribute (.Name x p) "append" apos) [e] [] cpos) ζ pos.line X.env=pure false:=by rfl):
 ES X (.Expr (.Call (.Attribute (.Name x p) "append" apos) [e] [] cpos) pos) (D6 i m):=
 G9 (a8m (b5W PySem.F.plainAttrs_list PySem.F.slot_list_append PySem.F.type_list_append b21 hx (J3 ha a0d hs) hbase hfew hline hs hplain) hsw) λD σ H h0=>L8 h0 λF0 H0 F ρ fl so e fin=>by
  obtain⟨r,e1,e⟩:=bind_some e;obtain⟨q,e2,e⟩:=bind_some e;split at e
  ·rename_i ps eo;split at e
   ·rename_i c;cases e;obtain⟨v,h1,a,xs,rfl,fa,ha',rl⟩:=so.e.at_ i _ eo;refine⟨.ref a,h1,.inl ⟨rfl,xs,SqL.of ha'⟩,F,ρ,r,so.e,e1,λw F1 H1 o=> ?_⟩;obtain⟨F2,o2⟩:=o.toVal e2;have so2:=so.ext o2.x;refine⟨a,xs,w,rfl,rfl,o.x.h _ _ ha',by rw [rl.length];exact c, ?_⟩
    exact fin σ F2 _ o2.x.f (so2.put eo h1 ((o0.mono o2.x.f _ rl).append ⟨w,[],rfl,o2.rep,rfl⟩))
   ·cases e
  ·cases e
def a3Z(i:Nat)(g:d4->d4->Υ d4)(m:M):MS:=λρ=>match ρ[i]? with
 |some (ξ (.v x))=>(m ρ).bind λy=>(g (.v x) y).bind λz=>if z.nb=true then ξ (.nx (ρ.set i (ξ z))) else ζ
 |_=>ζ
theorem a4z{i:Nat}{x:Str}{e:AF}{m:M}{g:d4->d4->Υ d4}{op:Operator}{pos pos':Pos}(hN:X.N.Nodup)(he:EE X e m)(ho:OpM X (inplaceOp op) g)(hi:X.N[i]?=ξ x:=by rfl)(hx:Loc X.env.scope x:=by exact Or.inl rfl)(hf:X.fn x=true\/X.env.scope.names.lookup x=ξ .local:=by first|exact .inl rfl|exact .inr rfl|assumption):
 ES X (.AugAssign (.Name x pos') op e pos) (a3Z i g m):=
 G9 (c6m hN hi hx he (ti:=rM2 X.K g) ho hf) λD σ H h0=>L8 h0 λF0 H0 F ρ fl so e fin=>by
  unfold a3Z at e;split at e
  ·rename_i p ep;obtain⟨y,e1,e⟩:=bind_some e;obtain⟨z,e2,e⟩:=bind_some e;split at e
   ·rename_i c;cases e;obtain⟨v,h1,rv⟩:=so.e.at_ i _ ep;exact⟨v,h1,F,ρ,y,so.e,e1,λu F1 H1 o=>⟨F1,.v p,y,z,o.x.fh,rv.ext o.x,o.rep,e2,λt F2 H2 o2=>fin _ F2 H2 (o.x.f.trans o2.x.f) ((so.ext o.x).set o2 c i)⟩⟩
   ·cases e
  ·cases e
theorem a2E:OpM X (inplaceOp .Add) (gI λi j=> .int (i+j)):=b8v c3L λ_ _ _=>rfl
def a0b(i:Nat)(n:MS):MS:=λρ=>match ρ[i]? with
 |some (ξ (.ow (.lst ps)))=>n (ρ.set i (ξ (.v (.list ps))))
 |_=>n ρ
theorem SOk.frz{K:AE}{F0 H0 F H:Hp}{σ:L2.St}{ρ:c9}{i:Nat}{ps:List PV}(s:SOk K F0 H0 F H σ ρ)(e:ρ[i]?=ξ (ξ (.own ps))):∃F',m5 F F'/\SOk K F0 H0 F' H σ (ρ.set i (ξ (.v (.list ps)))):=by
 obtain⟨v,h1,a,xs,rfl,fa,ha,rl⟩:=s.e.at_ i _ e;have na:H0 a=ζ:=s.nw i _ a e h1;have hi:i<ρ.length:=(Av.mp e).1;have up:m5 F (upd F a (.lst xs)):=P9 fa;have fh:m5 (upd F a (.lst xs)) H:=λb o z=>by
  by_cases hb:b=a
  ·subst hb;rw [n6] at z;cases z;exact ha
  ·rw [m4 hb] at z;exact s.e.fh _ _ z
 refine⟨upd F a (.lst xs),up,⟨⟨s.x.f.trans up,s.x.h,fh,λb o z y t=>by rw [m4 (v6 y na)];exact s.x.nw b o z y t,c1S s.x.nf⟩,⟨fh,by simp [s.e.len],λj q ej=> ?_,λj z ej=> ?_,λj k z1 z2 c hjk e1 e2 e3 e4=> ?_⟩,λj z c e1 e2=> ?_⟩⟩
 ·rw [List.getElem?_set] at ej
  by_cases hij:i=j
  ·subst hij;rw [if_pos rfl,if_pos hi] at ej;cases ej;exact⟨.ref a,h1,a,xs,rfl,SqL.of n6,o0.mono up _ rl⟩
  ·rw [if_neg hij] at ej;obtain⟨v,h2,rr⟩:=s.e.at_ j q ej;refine⟨v,h2, ?_⟩;cases q with
   |v p=>exact J7.mono up p rr
   |bo z=>exact absurd ej (s.e.nb j z)
   |ow z=>
    have key:∀b,v= .ref b->b≠a:=λb hb hab=>by subst hab;subst hb;exact s.e.ap i j _ z b hij e ej h1 h2
    cases z with
    |lst z=>
     obtain⟨b,zs,rfl,fb,hb,rz⟩:=rr;exact⟨b,zs,rfl,by rw [m4 (key b rfl)];exact fb,hb,o0.mono up _ rz⟩
    |dct z=>
     obtain⟨b,zs,rfl,fb,hb,rz⟩:=rr;exact⟨b,zs,rfl,by rw [m4 (key b rfl)];exact fb,hb,E3.mono up _ rz⟩
    |txt z=>
     obtain⟨b,zs,rfl,fb,hb,rz⟩:=rr;exact⟨b,zs,rfl,by rw [m4 (key b rfl)];exact fb,hb,E3.mono up _ rz⟩
 ·rw [List.getElem?_set] at ej
  by_cases hij:i=j
  ·subst hij;rw [if_pos rfl,if_pos hi] at ej;cases ej
  ·rw [if_neg hij] at ej;exact s.e.nb j z ej
 ·have own_at:∀(j:Nat) (z:a2c),(ρ.set i (ξ (d4.v (.list ps))))[j]?=ξ (ξ (d4.ow z))->ρ[j]?=ξ (ξ (d4.ow z)):=λj z h=>by
   rw [List.getElem?_set] at h
   by_cases hij:i=j
   ·subst hij;rw [if_pos rfl,if_pos hi] at h;cases h
   ·rw [if_neg hij] at h;exact h
  exact s.e.ap j k z1 z2 c hjk (own_at j z1 e1) (own_at k z2 e2) e3 e4
 ·rw [List.getElem?_set] at e1
  by_cases hij:i=j
  ·subst hij;rw [if_pos rfl,if_pos hi] at e1;cases e1
  ·rw [if_neg hij] at e1;exact s.nw j z c e1 e2
theorem a1G(i:Nat){st:Stmt}{n:MS}(h:ES X st n):ES X st (a0b i n):=G9 h λD σ H h0=>L8 h0 λF0 H0 F ρ fl so e fin=>by
 unfold a0b at e;split at e
 ·rename_i ps eo;obtain⟨F',s,so'⟩:=so.frz eo;exact⟨F0,H0,F',_,fl,so',e,fin.later s⟩
 ·exact⟨F0,H0,F,ρ,fl,so,e,fin⟩
end
def g8(P:AJ)(w:AH)(K:AE)(mg:Str->Υ AA)(base:Heap)(x:Str)(ps:List Str)(k:Nat)(g:Λ):Prop:=
 ∃f fd,a1v P w K mg base CX0 k f fd ps (spP K ps.length g)/\mg x=ξ (.ref f)/\PySem.W.keepIn K (.ref f)=true/\a44 K fd ps []
section
variable {X:Cx}
theorem f9{k k':Nat}{ps:List Str}{g:Λ}{x:Str}{p pos:Pos}{e:AF}{es:List AF}{m:MA}
 (d:g8 X.prog X.w X.K X.mg X.base x ps k g) (hr:W9 k' X.A) (hk:k<=k') (hg:Gl X x) (hn:∀ρ qs,m ρ=ξ qs->qs.length=ps.length) (ha:EA X (e::es) m)
 (hdb:Δ x:=by decide) (he:Ψ e es X.env:=by rfl) (hpl:Φ₁ pos es X.env:=by rfl):
 EE X (.Call (.Name x p) (e::es) [] pos) (f7 g m):=by
 obtain⟨f,fd,G,h1,h2,h3⟩:=d
 exact c3n G (hr.mono hk) hg h1 h2 h3 hn ha hdb he hpl
end
def b57(K:AE):Sp:=λvs H Q _=>∃(a:AB) (ns:List Int),vs=[.ref a]/\SqL K H a (ns.map V.int)/\ns.length<=63/\∀H',Q (.bl true) H'
theorem b3h{K:AE}{H:Hp}:∀ns:List Int,o0 K H (ns.map PyData.int) (ns.map V.int)
 |[]=>rfl
 |n::ns=>⟨.int n,_,rfl,rfl,b3h ns⟩
theorem c3R{K:AE}{g:Λ}(h:∀ns:List Int,ns.length<=63->g [.list (ns.map .int)]=ξ (.v (.bool true))):∀vs H Q E,b57 K vs H Q E->spP K 1 g vs H Q E:=
 λvs H Q E ⟨a,ns,e,hs,hl,k⟩=>by
  subst e;exact⟨H,[.list (ns.map .int)],_,PU.m5.refl H,⟨.ref a,[],rfl,⟨a,_,rfl,hs,b3h ns⟩,rfl⟩,rfl,h ns hl,λv F' H' o=>by
   have:v= .bl true:=o.rep;subst this;exact k H'⟩
def c5z(x y:d4):Υ d4:=gIc b6k (λi j=> .int (i*j)) x y
theorem c10{X:Cx}:OpM X (binaryOp .Mult) c5z:=c4b
theorem l6(i j:Int):t7 (.v (.int i)) (.v (.int j))=ξ (.v (.int (i+j))):=ω
theorem c1c{i j:Str}(h:i.length+j.length<=AL):t7 (.v (.str i)) (.v (.str j))=ξ (.v (.str (i++j))):=by simp [t7,h]
theorem b78{ps qs:List PV}(h:ps.length+qs.length<=AL):t7 (.own ps) (.own qs)=ξ (.own (ps++qs)):=by simp [t7,d4.mine,h]
theorem K3(f:Int->Int->PV)(i j:Int):gI f (.v (.int i)) (.v (.int j))=ξ (.v (f i j)):=ω
theorem b0p{C:Int->Int->Prop}[∀i j,Decidable (C i j)](f:Int->Int->PV){i j:Int}(h:C i j):gIc C f (.v (.int i)) (.v (.int j))=ξ (.v (f i j)):=by
 show(if okC C i j=true then ξ (d4.v (f i j)) else ζ)=_
 rw [if_pos (a28.mpr h)]
theorem c5A{i j:Int}(h: -18446744073709551616<i/\i<18446744073709551616):c5z (.v (.int i)) (.v (.int j))=ξ (.v (.int (i*j))):=b0p _ (.inl (by lia))
theorem C4{f:Int->Int->PV}{i j:Int}(h:0<j):gIc (λ_ j=>0<j) f (.v (.int i)) (.v (.int j))=ξ (.v (f i j)):=b0p _ h
theorem G6{f:Int->Int->PV}{i j:Int}(h:0<j/\j<1073741824):gIc a0U f (.v (.int i)) (.v (.int j))=ξ (.v (f i j)):=b0p _ h
theorem c1k{f:Int->Int->PV}{i j:Int}(h:(0<=j/\j<=1000000)/\i.natAbs<18446744073709551616):gIc b6l f (.v (.int i)) (.v (.int j))=ξ (.v (f i j)):=b0p _ ⟨h.1.1,h.1.2,h.2⟩
theorem a4E{x y:d4}(h:y8 x.rd 50=true/\y8 y.rd 50=true):X5 x y=ξ (.v (.bool (η x.rd y.rd))):=by simp [X5,h]
theorem b01{x y:d4}(h:y8 x.rd 50=true/\y8 y.rd 50=true):gNe x y=ξ (.v (.bool (!η x.rd y.rd))):=by simp [gNe,h]
theorem W1(ps:List PV):y9 (.v (.list ps))=ξ (.v (.int ps.length)):=ω
theorem b5a(ps:List PV):y9 (.v (.tuple ps))=ξ (.v (.int ps.length)):=ω
theorem a7V{ps:List PV}{i:Int}{p:PV}(h:L2.atI ps i=ξ p):l9 (.v (.list ps)) (.v (.int i))=ξ (.v p):=by simp [l9,d4.rd,a2c.rd,PyData.items?,h]
theorem b8b{ps:List PV}{i:Int}{p:PV}(h:L2.atI ps i=ξ p):l9 (.v (.tuple ps)) (.v (.int i))=ξ (.v p):=by simp [l9,d4.rd,a2c.rd,PyData.items?,h]
theorem c3F{ps:List PV}{i:Int}{p:PV}(h:L2.atI ps i=ξ p):l9 (.bor ps) (.v (.int i))=ξ (.v p):=by simp [l9,d4.rd,a2c.rd,PyData.items?,h]
theorem a2r(p:PV)(ps:List PV):l9 (.v (.tuple (p::ps))) (.v (.int 0))=ξ (.v p):=by
 refine b8b ?_;have h:(0:Int)<(((p::ps).length:Nat):Int):=by simp only [AU];lia
 unfold L2.atI L2.ixN;rw [if_pos (by decide),if_pos h]
 rfl
theorem a1w(p q:PV)(ps:List PV):l9 (.v (.tuple (p::q::ps))) (.v (.int 1))=ξ (.v q):=by
 refine b8b ?_;have h:(1:Int)<(((p::q::ps).length:Nat):Int):=by simp only [AU];lia
 unfold L2.atI L2.ixN;rw [if_pos (by decide),if_pos h]
 rfl
theorem d8(g:d4->d4->Υ d4)(ma mb:M)(ρ:c9):m2 g ma mb ρ=(ma ρ).bind λx=>(mb ρ).bind λy=>g x y:=ω
theorem m9(g:d4->Υ d4)(ma:M)(ρ:c9):m1 g ma ρ=(ma ρ).bind g:=ω
theorem e8(p:PV)(ρ:c9):mC p ρ=ξ (.v p):=ω
theorem b5(p:PV)(ρ:c9):a8 0 (ξ (.v p)::ρ)=ξ (.v p):=ω
theorem a4N(p:List PV)(ρ:c9):a8 0 (ξ (.own p)::ρ)=ξ (.bor p):=ω
theorem d3(n:Nat)(r:Υ d4)(ρ:c9):a8 (n+1) (r::ρ)=a8 n ρ:=ω
theorem b8(ρ:c9):b9 ρ=ξ []:=ω
theorem b6(m:M)(r:MA)(ρ:c9):a6 m r ρ=((m ρ).bind d4.toVal).bind λp=>(r ρ).bind λps=>ξ (p::ps):=ω
theorem b7(p:PV):(d4.v p).toVal=ξ p:=ω
theorem a2b(p:List PV):(d4.own p).toVal=ξ (.list p):=ω
theorem v9(m:MA)(ρ:c9):O2 m ρ=(m ρ).bind λps=>if ps.length<=AL then ξ (.v (.tuple ps)) else ζ:=ω
theorem D9(m:MA)(ρ:c9):a1E m ρ=(m ρ).bind λps=>if ps.length<=AL then ξ (.own ps) else ζ:=ω
theorem e9(g:Λ)(m:MA)(ρ:c9):f7 g m ρ=(m ρ).bind g:=ω
def c3b(i:Nat)(ρ:c9)(r:d4):Υ Fl:=if r.nb=true then ξ (.nx (ρ.set i (ξ r))) else ζ
theorem g7(i:Nat)(m:M)(ρ:c9):p7 i m ρ=(m ρ).bind (c3b i ρ):=ω
theorem p8(i:Nat)(ρ:c9)(p:PV):c3b i ρ (.v p)=ξ (.nx (ρ.set i (ξ (.v p)))):=ω
theorem Z4(i:Nat)(ρ:c9)(p:List PV):c3b i ρ (.own p)=ξ (.nx (ρ.set i (ξ (.own p)))):=ω
def c6u(r:d4):Υ Fl:=if r.nb=true then ξ (.rt r) else ζ
theorem j7(m:M)(ρ:c9):t6 m ρ=(m ρ).bind c6u:=ω
theorem u5(p:PV):c6u (.v p)=ξ (.rt (.v p)):=ω
theorem a7n(p:List PV):c6u (.own p)=ξ (.rt (.own p)):=ω
def c6x(n:MS):Fl->Υ Fl
 | .nx ρ=>n ρ
 |f=>ξ f
theorem f8(m n:MS)(ρ:c9):i8 m n ρ=(m ρ).bind (c6x n):=ω
theorem i6(n:MS)(ρ:c9):c6x n (.nx ρ)=n ρ:=ω
theorem a0R(n:MS)(r:d4):c6x n (.rt r)=ξ (.rt r):=ω
def ifK(m n:MS)(ρ:c9)(b:Bool):Υ Fl:=if b=true then m ρ else n ρ
theorem f6(c:MT)(m n:MS)(ρ:c9):v5 c m n ρ=(c ρ).bind (ifK m n ρ):=ω
theorem D8(m n:MS)(ρ:c9):ifK m n ρ true=m ρ:=ω
theorem y0(m n:MS)(ρ:c9):ifK m n ρ false=n ρ:=ω
theorem l7(ρ:c9):n4 ρ=ξ (.nx ρ):=ω
def c4t:Fl->Υ d4
 | .rt r=>ξ r
 | .nx _=>ξ (.v .none)
 |_=>ζ
theorem i3(n:Nat)(b:MS)(ps:List PV):k4 n b ps=(b (ps.map (λp=>ξ (d4.v p))++AV n ζ)).bind c4t:=ω
theorem j5(r:d4):c4t (.rt r)=ξ r:=ω
theorem G3(m:M)(ρ:c9):mtV m ρ=(m ρ).bind tru:=ω
theorem g5(m:M)(ρ:c9):G2 m ρ=(m ρ).bind b1E:=ω
theorem i7(b:Bool):b1E (.v (.bool b))=ξ b:=ω
theorem Y2(b:Bool):tru (.v (.bool b))=ξ b:=ω
theorem D4(c:MT)(ρ:c9):P7 c ρ=(c ρ).map not:=ω
def orK(d:MT)(ρ:c9)(b:Bool):Υ Bool:=if b=true then ξ true else d ρ
def c5f(d:MT)(ρ:c9)(b:Bool):Υ Bool:=if b=true then d ρ else ξ false
theorem P8(c d:MT)(ρ:c9):a0K c d ρ=(c ρ).bind (orK d ρ):=ω
theorem z6(c d:MT)(ρ:c9):a1N c d ρ=(c ρ).bind (c5f d ρ):=ω
theorem a34(d:MT)(ρ:c9):orK d ρ false=d ρ:=ω
theorem a01(d:MT)(ρ:c9):c5f d ρ true=d ρ:=ω
theorem a4o(d:MT)(ρ:c9):c5f d ρ false=ξ false:=ω
def c5g(n:M)(ρ:c9)(r:d4):Υ d4:=(b1E r).bind λb=>if b=true then n ρ else ξ (.v (.bool false))
def c7e(r:d4):Υ d4:=(b1E r).bind λb=>ξ (.v (.bool (!b)))
theorem b1h(m n:M)(ρ:c9):c1K m n ρ=(m ρ).bind (c5g n ρ):=ω
theorem c1M(m:M)(ρ:c9):c5N m ρ=(m ρ).bind c7e:=ω
theorem c0t(n:M)(ρ:c9):c5g n ρ (.v (.bool true))=n ρ:=ω
theorem c5h(n:M)(ρ:c9):c5g n ρ (.v (.bool false))=ξ (.v (.bool false)):=ω
theorem c5T(b:Bool):c7e (.v (.bool b))=ξ (.v (.bool (!b))):=ω
def c7d:d4->Υ d4
 | .v (.int i)=>ξ (.v (.int (-i)))
 |_=>ζ
theorem b5s(m:M)(ρ:c9):c1L m ρ=(m ρ).bind c7d:=ω
theorem c1R(i:Int):c7d (.v (.int i))=ξ (.v (.int (-i))):=ω
theorem c1g(T:String)(p:PV):a3o T (.v p)=bif c1u p then ζ else ξ (.v (.bool (a7c T p))):=ω
theorem c1v(i:Int):c1u (.int i)=false:=ω
theorem c6T{α:Type}(a b:α):(bif false then a else b)=b:=ω
theorem b7r(p:PV):(d4.v p).rd=p:=ω
def c7G(is:List Nat)(ρ:c9):d4->Υ Fl
 | .v (.tuple ps)=>if ps.length=is.length then ξ (.nx (setAll ρ is (ps.map .v))) else ζ
 |_=>ζ
theorem b5w(is:List Nat)(m:M)(ρ:c9):c3Z is m ρ=(m ρ).bind (c7G is ρ):=ω
theorem c2Y(i j:Nat)(ρ:c9)(p q:PV):c7G [i,j] ρ (.v (.tuple [p,q]))=ξ (.nx ((ρ.set i (ξ (.v p))).set j (ξ (.v q)))):=ω
theorem u9(it:MI)(tg:PV->c9->Υ c9)(body:MS)(ρ:c9):X1 it tg body ρ=(it ρ).bind λps=>O1 body tg ps ρ:=ω
def b8D:List PV->Υ (List PV)
 |[.int j]=>if inR j=true then ξ (K4 0 j) else ζ
 |_=>ζ
theorem M5(m:MA)(ρ:c9):a0V m ρ=(m ρ).bind b8D:=ω
theorem a1r{j:Int}(h: -4611686018427387904<=j/\j<4611686018427387904):b8D [.int j]=ξ (K4 0 j):=by
 show(if inR j=true then ξ (K4 0 j) else ζ)=_
 rw [if_pos (a4J.mpr (by lia))]
def a9S:List PV->Υ (List PV)
 |[.int i,.int j]=>if inR i=true/\inR j=true then ξ (K4 i j) else ζ
 |_=>ζ
theorem a17(m:MA)(ρ:c9):a75 m ρ=(m ρ).bind a9S:=ω
theorem a6y{i j:Int}(h:(-4611686018427387904<=i/\i<4611686018427387904)/\ -4611686018427387904<=j/\j<4611686018427387904):a9S [.int i,.int j]=ξ (K4 i j):=by
 show(if inR i=true/\inR j=true then ξ (K4 i j) else ζ)=_
 rw [if_pos ⟨a4J.mpr (by lia),a4J.mpr (by lia)⟩]
theorem b8c(i j:Int):gNe (.v (.int i)) (.v (.int j))=ξ (.v (.bool (!(i==j)))):=ω
theorem a9M(i j:Int):X5 (.v (.int i)) (.v (.int j))=ξ (.v (.bool (i==j))):=ω
theorem a0y{p:PV}(h:y8 p 50=true):gNe (.v p) (.v p)=ξ (.v (.bool false)):=by
 rw [b01 (x:= .v p) (y:= .v p) ⟨h,h⟩,b7r,b41 p 50 h]
 rfl
theorem sz(n:Nat):(n<=AL)=(n<=16777216):=by rw [sizeLine_eq]
end PU
namespace L2
open PySem PySem.Spec PyProof.Rows
theorem S2:∀(names:List (Str×NameKind)) (n:Nat) (acc:List (Str×AB)),cellsFrom n names acc=cellsFrom n names []++acc
 |[],_,_=>rfl
 |(x,k)::r,n,acc=>by
  unfold cellsFrom;split
  ·rw [S2 r (n+1) ((x,n)::acc),S2 r (n+1) [(x,n)],List.append_assoc];rfl
  ·exact S2 r n acc
theorem a0u:∀{names:List (Str×NameKind)} {n:Nat} {x:Str} {c:AB},(x,c)∈cellsFrom n names []->n<=c/\(x,NameKind.cell)∈names
 |[],_,_,_,h=>nomatch h
 |(y,k)::r,n,x,c,h=>by
  unfold cellsFrom at h;split at h
  ·rename_i hk;rw [S2] at h;rcases Aq.mp h with h|h
   ·obtain⟨a,b⟩:=a0u h;exact⟨by lia,Al _ b⟩
   ·have e:(x,c)=(y,n):=by simpa using h
    cases e;have:k= .cell:=by simpa using hk
    subst this;exact⟨AN _,Ak⟩
  ·obtain⟨a,b⟩:=a0u h;exact⟨a,Al _ b⟩
theorem b1g{α:Type}:∀{l:List (Str×α)} {x:Str},(∀c,(x,c)∉l)->l.lookup x=ζ:=λ {l x} h=>by
 cases e:l.lookup x with
 |none=>rfl
 |some c=>exact absurd (PySem.mem_of_lookup e) (h c)
theorem a6R{α:Type}:∀{l r:List (Str×α)} {x:Str},l.lookup x=ζ->(l++r).lookup x=r.lookup x
 |[],_,_,_=>rfl
 |(y,v)::l,r,x,h=>by
  rw [Aa,List.lookup_cons];rw [List.lookup_cons] at h;cases e:x==y with
  |true=>rw [e] at h;cases h
  |false=>rw [e] at h;exact a6R h
def a1M(cells:List (Str×AB)):List (Str×NameKind)->List (Str×AB)->List (Str×AB)
 |[],acc=>acc
 |(x,k)::r,acc=>if k== .free then a1M cells r ((x,(cells.lookup x).getD 0)::acc) else a1M cells r acc
theorem a8U{cells:List (Str×AB)}:∀{names:List (Str×NameKind)} {acc:List (Str×AB)} {x:Str} {c:AB},(x,c)∈a1M cells names acc->(x,c)∈acc\/((x,NameKind.free)∈names/\c=(cells.lookup x).getD 0)
 |[],_,_,_,h=> .inl h
 |(y,k)::r,acc,x,c,h=>by
  unfold a1M at h;split at h
  ·rename_i hk;rcases a8U h with h|⟨h1,h2⟩
   ·rcases An.mp h with e|h
    ·cases e;have:k= .free:=by simpa using hk
     subst this;exact .inr ⟨Ak,rfl⟩
    ·exact .inl h
   ·exact .inr ⟨Al _ h1,h2⟩
  ·rcases a8U h with h|⟨h1,h2⟩
   ·exact .inl h
   ·exact .inr ⟨Al _ h1,h2⟩
theorem a5p{cells:List (Str×AB)}:∀{names:List (Str×NameKind)} {acc:List (Str×AB)} {x:Str},x∉names.map (·.1)->(a1M cells names acc).lookup x=acc.lookup x
 |[],_,_,_=>rfl
 |(y,k)::r,acc,x,h=>by
  have h':¬(x=y)/\x∉r.map (·.1):=by simpa using h
  unfold a1M;split
  ·rw [a5p h'.2,List.lookup_cons];have e:(x==y)=false:=by simpa using h'.1
   rw [e]
  ·exact a5p h'.2
theorem a4u{cells:List (Str×AB)}:∀{names:List (Str×NameKind)} {acc:List (Str×AB)} {x:Str},(names.map (·.1)).Nodup->names.lookup x=ξ .free->(a1M cells names acc).lookup x=ξ ((cells.lookup x).getD 0)
 |[],_,_,_,h=>by cases h
 |(y,k)::r,acc,x,nd,h=>by
  have nd':y∉r.map (·.1)/\(r.map (·.1)).Nodup:=List.nodup_cons.mp nd;rw [List.lookup_cons] at h;unfold a1M;cases e:x==y with
  |true=>
   rw [e] at h;have hk:k= .free:=by simpa using h
   subst hk;have exy:x=y:=by simpa using e
   subst exy;rw [if_pos (show(NameKind.free==NameKind.free)=true from rfl),a5p nd'.1,List.lookup_cons,e]
  |false=>
   rw [e] at h;split
   ·exact a4u nd'.2 h
   ·exact a4u nd'.2 h
theorem a3l{env:Env}(f:Str×NameKind->List (Str×AB)->Sem (ForInStep (List (Str×AB))))(hf:∀x k cs,f (x,k) cs=if k== .free then(do let c<-cellOf env x;pure (.yield ((x,c)::cs))) else pure (.yield cs)):
 ∀(names:List (Str×NameKind)) (acc:List (Str×AB)),(∀x∈names,x.2= .free->(env.cells.lookup x.1).isSome=true)->forIn names acc f=pure (a1M env.cells names acc)
 |[],acc,_=>rfl
 |(x,k)::r,acc,h=>by
  rw [List.forIn_cons,hf];unfold a1M;have hr:=λy hy=>h y (Al _ hy);split
  ·rename_i hk;have:=h (x,k) Ak (by simpa using hk)
   obtain⟨c,hc⟩:=Option.isSome_iff_exists.mp this;unfold cellOf;rw [hc];show forIn r ((x,c)::acc) f=_;exact a3l f hf r _ hr
  ·exact a3l f hf r acc hr
theorem b16{scope:Scope}{env:Env}(h:∀x∈scope.names,x.2= .free->(env.cells.lookup x.1).isSome=true):closureFor scope env=pure (a1M env.cells scope.names []):=by
 unfold closureFor;have e:=a3l (env:=env) (λ(x:Str×NameKind) (cs:List (Str×AB))=>if x.2== .free then(do let c<-cellOf env x.1;pure (.yield ((x.1,c)::cs))) else pure (.yield cs)) (λ_ _ _=>rfl) scope.names [] h
 show(forIn scope.names [] _>>=λr=>pure r)=_;refine Eq.trans (congrArg (· >>=λr=>pure r) (Eq.trans (congrArg (forIn scope.names []) ?_) e)) rfl
 funext x cs
 cases x with
 |mk n k=>cases k<;>rfl
theorem a5U{env:Env}{x:Str}:∀{names:List (Str×NameKind)},(names.map λ(p:Str×NameKind)=>if(p.2==NameKind.free && env.scope.kind== .function && env.kindOf p.1==ξ .cell) then(p.1,NameKind.cell) else(p.1,p.2)).lookup x
 =(names.lookup x).map λk=>if(k==NameKind.free && env.scope.kind== .function && env.kindOf x==ξ .cell) then NameKind.cell else k
 |[]=>rfl
 |(n,k)::r=>by
  rw [AG];have ih:= @a5U env x r;show List.lookup x ((if(k==NameKind.free && env.scope.kind== .function && env.kindOf n==ξ .cell)=true then(n,NameKind.cell) else(n,k))::_)=_
  cases hx:x==n with
  |true=>
   have e:x=n:=by simpa using hx
   subst e
   by_cases c:(k==NameKind.free && env.scope.kind== .function && env.kindOf x==ξ .cell)=true
   ·rw [if_pos c,List.lookup_cons,hx,List.lookup_cons,hx];exact congrArg ξ (if_pos c).symm
   ·rw [if_neg c,List.lookup_cons,hx,List.lookup_cons,hx];exact congrArg ξ (if_neg c).symm
  |false=>
   by_cases c:(k==NameKind.free && env.scope.kind== .function && env.kindOf n==ξ .cell)=true
   ·rw [if_pos c,List.lookup_cons,hx,List.lookup_cons,hx];exact ih
   ·rw [if_neg c,List.lookup_cons,hx,List.lookup_cons,hx];exact ih
def a0h(scope:Scope)(C:AB)(env:Env):Env:=
 {scope:=relabel scope env,locals:=C,globals:=env.globals,cells:=cellsFrom (C+1) scope.names (a1M env.cells scope.names []),qual:=env.qual,func:=ζ,code:=env.code,frame:=env.frame,builtins:=env.builtins}
def hid(ys:List Str)(x:Str):Str:=if ys.contains x=true then AQ "0"++x else x
def a2i(X:Cx)(N0:List Str)(scope:Scope)(ys:List Str)(C:AB)(fp:List AB)(pins:List (AB×Obj))(s₃:AC)(H₃:Hp):Cx:=
 {X with N:=N0++ys,s₀:=s₃,H₀:=H₃,env:=a0h scope C X.env,outer:=X.stack,ex:=fp,fn:=λx=>scope.names.lookup x==ξ .cell,pn:=X.pn++pins}
theorem a2j{scope:Scope}{C:AB}{env:Env}{x:Str}:(a0h scope C env).kindOf x=(scope.names.lookup x).map λk=>if(k==NameKind.free && env.scope.kind== .function && env.kindOf x==ξ .cell) then NameKind.cell else k:=
 a5U
structure a3A(N N0 ys:List Str)(env:Env)(scope:Scope):Prop where
 eq:N0=N.map (hid ys)
 kind:scope.kind= .function
 nd:(scope.names.map (·.1)).Nodup
 fr:∀x∈scope.names,x.2= .free->env.kindOf x.1=ξ .cell\/env.kindOf x.1=ξ .free
 ou:∀x∈N,(ys.contains x=true->scope.names.lookup (hid ys x)=ζ)/\(ys.contains x=false->scope.names.lookup x=ζ\/scope.names.lookup x=ξ .free\/scope.names.lookup x=ξ .globalImplicit)
theorem P5{α:Type}:∀{l:List (Str×α)} {x:Str} {v:α},(l.map (·.1)).Nodup->(x,v)∈l->l.lookup x=ξ v
 |[],_,_,_,h=>nomatch h
 |(y,w)::r,x,v,nd,h=>by
  have nd':y∉r.map (·.1)/\(r.map (·.1)).Nodup:=List.nodup_cons.mp nd;rw [List.lookup_cons];rcases An.mp h with e|h
  ·cases e;simp
  ·have:x≠y:=λe=>nd'.1 (by rw [<-e];exact Ah.mpr ⟨_,h,rfl⟩)
   have e:(x==y)=false:=by simpa using this
   rw [e];exact P5 nd'.2 h
section
variable {M:Model}{A:AM}{E:AA->AC->Prop}{s:AC}
theorem a6K{scope:Scope}{globals:AB}{cl:List (Str×AB)}{qual:Str}{env:Env}{builtins:AB}{Q:Env->AC->Prop}
 (h:Q (newEnv scope s.heap.objs.size globals (cellsFrom (s.heap.objs.size+1) scope.names cl) qual ζ .none (ξ env) builtins) {s with heap:=pushCells (s.heap.push {cls:= .type "dict",data:= .dict #[]}) scope.names}):
 AI M A (newFunctionEnv scope globals cl [] qual ζ .none (ξ env) builtins) Q E s:=by
 simp only [newFunctionEnv,Option.isSome_some,if_true]
 refine AO (wpAny_alloc ?_)
 refine AO (wpAny_layCells _ (λname kind cells=>by cases hkc:kind==NameKind.cell<;>simp [hkc]) _ _ _ _ ?_)
 rw [show({s with heap:=s.heap.push {cls:= .type "dict",data:= .dict #[]}}:AC).heap.objs.size=s.heap.objs.size+1 from Heap.size_push ..]
 exact AO (Ae (Ae h))
end
section
variable {prog:AJ}{w:AH}{A:AM}{R:Result->AC->Prop}{s:AC}
theorem a6H{elt target iter:AF}{ifs:List AF}{scope:Scope}{pos:Pos}{it acc:AA}{env:Env}(I:Nat->AC->Prop)
 (turn:∀n s,I n s->AI (model prog w) A (pyNext it) (λr s₁=>match r with
  |none=>R (.ok .next) s₁
  |some v=>AI (model prog w) A (letOwnedTupleGo target it v) (λ_ s₁'=>AI (model prog w) A (assign target env v) (λ_ s₂=>
   AI (model prog w) A (forIn ifs true λc r=>if r=true then do let ok<-isTrue c env (eval c env);pure (ForInStep.yield ok) else pure (ForInStep.yield r)) (λok s₃=>
    if ok=true then AI (model prog w) A (eval elt env) (λx s₄=>
     AI (model prog w) A (call (.builtin "list.append") [acc,x]) (λ_ s₅=>∃m,m<n/\I m s₅) (λ_ _=>False) s₄) (λ_ _=>False) s₃
    else ∃m,m<n/\I m s₃) (λ_ _=>False) s₂) (λ_ _=>False) s₁') (λ_ _=>False) s₁) (λ_ _=>False) s)
 (n:Nat) (h:I n s):
 codeAny (model prog w) A (.compLoop (.ListComp elt [⟨target,iter,ifs,0⟩] scope pos) 0 it acc env) R s:=by
 refine codeAny_loop rfl I (λn s hI=> ?_) n h
 show AI _ A ((compTurn (.ListComp elt [⟨target,iter,ifs,0⟩] scope pos) 0 it acc env).onRaise (λx=>do noteFrame x env;theTreesLotGoes x)) _ _ s
 refine wpAny_noted ?_
 rw [compTurn_list]
 refine AO (wpAny_standAt (AO (wpAny_mono (turn n s hI) (λr s₁ h₁=> ?_) λ_ _ h'=>h'.elim)))
 cases r with
 |none=>exact Ae h₁
 |some v=>
  refine AO (wpAny_mono h₁ (λ_ s₁' h₁'=> ?_) λ_ _ h'=>h'.elim)
  refine AO (wpAny_mono h₁' (λ_ s₂ h₂=>AO (wpAny_mono h₂ (λok s₃ h₃=> ?_) λ_ _ h'=>h'.elim)) λ_ _ h'=>h'.elim)
  cases ok with
  |false=>exact Ae ⟨rfl,h₃⟩
  |true=>
   exact AO (AO (wpAny_mono h₃ (λx s₄ h₄=>AO (wpAny_mono h₄ (λ_ s₅ h₅=>Ae (Ae ⟨rfl,h₅⟩)) λ_ _ h'=>h'.elim)) λ_ _ h'=>h'.elim))
end
def PCs(X:Cx)(ifs:List AF)(t:TT):Prop:=
 ∀pins s σ (H:Hp) (Q:Bool->Hp->Prop),m6 X pins σ H s->t σ H Q->
  AI (model X.prog X.w) X.A (forIn ifs true λc r=>if r=true then do let ok<-isTrue c X.env (eval c X.env);pure (ForInStep.yield ok) else pure (ForInStep.yield r)) (TP X pins σ Q) X.xe s
def c7E:TT:=λ_ H Q=>Q true H
theorem c4e{X:Cx}:PCs X [] c7E:=λpins s σ H Q I h=>wpAny_tests_nil ⟨H,I,h⟩
def c2K(wi:TI)(g:TG)(tc:TT)(te:TE)(k:Nat):TE:=λσ H Q=>wi σ H λJ H1=>∀D,H1 D=ζ->∃W:Nat->Nat->List V->Hp->Prop,(∃m,W 0 m [] (upd H1 D (.lst [])))/\∀i m xs H2,W i m xs H2->H2 D=ξ (.lst xs)->
 (J.stop i H2/\Q (.ref D) H2)\/(J.go i H2/\∀x H3,J.yld i H2 x H3->g x (σ++AV k ζ) H3 λσ4 H4=>(∀(j:Nat) v,(σ++AV k ζ)[j]?=ξ (ξ v)->σ4[j]?=ξ (ξ v))/\tc σ4 H4 λb H5=>if b=true then te σ4 H5 λv H6=>H6 D=ξ (.lst xs)/\xs.length<AL/\∃m',m'<m/\W (i+1) m' (xs++[v]) (upd H6 D (.lst (xs++[v])))
  else H5 D=ξ (.lst xs)/\∃m',m'<m/\W (i+1) m' xs H5)
section
variable {X:Cx}{elt iter tg:AF}{ifs:List AF}{scope:Scope}{N0 ys:List Str}{wi:TI}{g:TG}{tc:TT}{te:TE}{pos:Pos}
theorem a4I{pins:List (AB×Obj)}{σ:St}{H:Hp}{s:AC}(I:m6 X pins σ H s)(S:a3A X.N N0 ys X.env scope){x:Str}(h:(x,NameKind.free)∈scope.names):∃c,X.env.cells.lookup x=ξ c:=I.ok.has x (S.fr _ h rfl)
theorem b6C{pins:List (AB×Obj)}{σ:St}{H:Hp}{s:AC}{fp:List AB}(S:a3A X.N N0 ys X.env scope)(I:m6 X pins σ H s)(hf:∀b∈fp,b10 X pins H b)(ho:∀b∈fp,∃o,s.heap.get? b=ξ o/\∀v,o.data≠.cell v):
 m6 (a2i X N0 scope ys s.heap.objs.size fp pins s H) [] (σ++AV ys.length ζ) H {s with heap:=pushCells (s.heap.push {cls:= .type "dict",data:= .dict #[]}) scope.names}:=by
 have up:∀b o,s.heap.get? b=ξ o->(pushCells (s.heap.push {cls:= .type "dict",data:= .dict #[]}) scope.names).get? b=ξ o:=λb o e=>pushCells_keeps _ _ b o (Am _ e)
 have okc:=cellsFrom_ok scope.names (s.heap.push {cls:= .type "dict",data:= .dict #[]}) (s.heap.objs.size+1) [] ⟨λ_ _ hm=>(nomatch hm),List.Pairwise.nil⟩ (by rw [Heap.size_push];exact AN _)
 rw [Heap.size_push] at okc
 have cel:∀x c,(a0h scope s.heap.objs.size X.env).cells.lookup x=ξ c->((x,c)∈cellsFrom (s.heap.objs.size+1) scope.names []/\(x,NameKind.cell)∈scope.names/\s.heap.objs.size<c)\/(X.env.cells.lookup x=ξ c/\(x,NameKind.free)∈scope.names):=λx c e=>by
  have m:=PySem.mem_of_lookup e;have m:(x,c)∈cellsFrom (s.heap.objs.size+1) scope.names (a1M X.env.cells scope.names []):=m;rw [S2] at m;rcases Aq.mp m with m|m
  ·obtain⟨h1,h2⟩:=a0u m;exact .inl ⟨m,h2,h1⟩
  ·rcases a8U m with m|⟨m,e⟩
   ·exact nomatch m
   ·obtain⟨c',hc'⟩:=a4I I S m;rw [hc'] at e;exact .inr ⟨by rw [hc',e];rfl,m⟩
 have celLt:∀x c,X.env.cells.lookup x=ξ c->c<s.heap.objs.size:=λx c e=>let ⟨_,h⟩:=I.cell x c e;h.lt
 have fpLt:∀b∈fp,b<s.heap.objs.size:=λb hb=>let ⟨_,e,_⟩:=ho b hb;Ag e
 have cellNo:∀x,(x,NameKind.cell)∉scope.names->(cellsFrom (s.heap.objs.size+1) scope.names []).lookup x=ζ:=λx hx=>b1g λc m=>hx (a0u m).2
 have look:∀x,(x,NameKind.free)∈scope.names->(a0h scope s.heap.objs.size X.env).cells.lookup x=X.env.cells.lookup x:=λx m=>by
  have hl:=P5 S.nd m;have hn:(x,NameKind.cell)∉scope.names:=λz=>by
   have:=P5 S.nd z;rw [hl] at this;cases this
  show(cellsFrom (s.heap.objs.size+1) scope.names (a1M X.env.cells scope.names [])).lookup x=_;rw [S2,a6R (cellNo x hn),a4u S.nd hl];obtain⟨c,hc⟩:=a4I I S m;rw [hc];rfl
 have kindF:∀x,scope.names.lookup x=ξ .free->X.env.kindOf x=ξ .cell\/X.env.kindOf x=ξ .free:=λx h=>S.fr _ (PySem.mem_of_lookup h) rfl
 refine⟨⟨I.mod,S.kind,I.ok.glob,I.ok.blt,AN _,λx y c h1 h2=> ?_,λx h=> ?_,λx c h1 h2=> ?_,I.ok.hd,I.ok.frames,.inl rfl,λb hb=> ?_,I.bs,Nat.le_trans I.ok.bsz I.sz,λb o e hb=> ?_,λb hb hz=> ?_,I.stack,I.stkFree⟩,
  rfl,I.bare,Un.kept up,⟨λ_=>ζ, ?_,λi x v h1 h2 h3=> ?_⟩,λx c e=> ?_,I.hok.fresh (AN _),λx c e=> ?_,λp hp=> ?_,I.hok.kept up, ?_⟩
 ·rcases cel x c h1 with⟨a1,b1,c1⟩|⟨a1,b1⟩
  ·rcases cel y c h2 with⟨a2,b2,c2⟩|⟨a2,b2⟩
   ·exact name_of_addr okc.apart a1 a2
   ·exact absurd (Nat.lt_trans c1 (celLt y c a2)) (Nat.lt_irrefl _)
  ·rcases cel y c h2 with⟨a2,b2,c2⟩|⟨a2,b2⟩
   ·exact absurd (Nat.lt_trans c2 (celLt x c a1)) (Nat.lt_irrefl _)
   ·exact I.ok.inj x y c a1 a2
 ·have hk:(a0h scope s.heap.objs.size X.env).kindOf x=ξ .cell\/(a0h scope s.heap.objs.size X.env).kindOf x=ξ .free:=h
  rw [a2j] at hk
  cases e:scope.names.lookup x with
  |none=>rw [e] at hk;rcases hk with z|z<;>cases z
  |some k=>
   rw [e] at hk
   have hk':k= .cell\/k= .free:=by
    by_cases c:(k==NameKind.free && X.env.scope.kind== .function && X.env.kindOf x==ξ .cell)=true
    ·have:(k==NameKind.free)=true:=by
      rw [χ,χ] at c;exact c.1.1
     exact .inr (by simpa using this)
    ·simp only [Ar] at hk;rw [if_neg c] at hk;rcases hk with z|z
     ·cases z;exact .inl rfl
     ·cases z;exact .inr rfl
   rcases hk' with rfl|rfl
   ·have q:=PySem.W.cellsFrom_some (x:=x) scope.names (s.heap.objs.size+1) (a1M X.env.cells scope.names []) (.inl e)
    exact Option.isSome_iff_exists.mp q
   ·obtain⟨c,hc⟩:=a4I I S (PySem.mem_of_lookup e)
    exact⟨c,by show(a0h scope s.heap.objs.size X.env).cells.lookup x=_;rw [look x (PySem.mem_of_lookup e)];exact hc⟩
 ·rcases cel x c h2 with⟨_,_,c1⟩|⟨_,b1⟩
  ·exact BG c1
  ·have h1':(scope.names.lookup x==ξ .cell)=true:=h1
   rw [P5 S.nd b1] at h1'
   cases h1'
 ·refine⟨As (fpLt b hb),λx c e z=> ?_⟩
  rcases cel x c e with⟨_,_,c1⟩|⟨a1,_⟩
  ·rw [z] at c1;exact absurd (Nat.lt_trans c1 (fpLt b hb)) (Nat.lt_irrefl _)
  ·exact(hf b hb).2.2.2.2.1 x c a1 z
 ·have hb:b∈fp:=hb
  rcases(hf b hb).2.2.2.1 with z|z
  ·exact I.ok.noex b o e z
  ·have h1:=(I.ok.bs b o e).1
   have:=Ag h1
   exact absurd (Aw this z) (Nat.lt_irrefl _)
 ·have hb:b∈fp:=hb
  have hz:b∈frs X.stack:=hz
  rcases An.mp (I.stkSub b hz) with z|z
  ·exact(hf b hb).2.1 z
  ·exact(hf b hb).2.2.1 z
 ·exact(Heap.Ns.new s.heap (.type "dict")).keeps (pushCells_keeps _ _)
 ·have h1:(N0++ys)[i]?=ξ x:=h1
  rw [S.eq] at h1
  have hi:i<σ.length:=by
   by_cases hi:i<σ.length
   ·exact hi
   ·rw [List.getElem?_append_right (by lia),List.getElem?_replicate] at h2
    split at h2<;>cases h2
  rw [BE hi] at h2
  rw [BE (by rw [AZ,<-I.len];exact hi),Az] at h1
  have hvis:Vis (a0h scope s.heap.objs.size X.env).scope x:=h3
  have hkn:scope.names.lookup x=ζ->False:=λz=>by
   have hk:∀k,(a0h scope s.heap.objs.size X.env).kindOf x=ξ k->scope.names.lookup x≠ζ:=λk z e=>by
    rw [a2j,e] at z;cases z
   rcases hvis with e|e|e<;>exact absurd z (hk _ e)
  have h1:X.N[i]?=ξ x/\ys.contains x=false:=by
   cases e0:X.N[i]? with
   |none=>rw [e0] at h1;cases h1
   |some x0=>
    rw [e0] at h1;have h1:hid ys x0=x:=Option.some.inj h1;have ho:=S.ou x0 (BA e0);cases hc:ys.contains x0 with
    |true=>exact(hkn (by rw [<-h1];exact ho.1 hc)).elim
    |false=>
     have hx:x0=x:=by rw [<-h1];unfold hid;rw [if_neg (by rw [hc];exact BB)]
     subst hx;exact⟨rfl,hc⟩
  obtain⟨h1,hys⟩:=h1
  have hfree:scope.names.lookup x=ξ .free:=by
   have hk:∀k,(a0h scope s.heap.objs.size X.env).kindOf x=ξ k->scope.names.lookup x≠ζ:=λk z e=>by
    rw [a2j,e] at z;cases z
   rcases(S.ou x (BA h1)).2 hys with z|z|z
   ·rcases hvis with e|e|e<;>exact absurd z (hk _ e)
   ·exact z
   ·have hg:(a0h scope s.heap.objs.size X.env).kindOf x=ξ .globalImplicit:=by
     rw [a2j,z];rfl
    rcases hvis with e|e|e
    ·have e:(a0h scope s.heap.objs.size X.env).kindOf x=ξ .local:=e;rw [hg] at e;cases e
    ·have e:(a0h scope s.heap.objs.size X.env).kindOf x=ξ .cell:=e;rw [hg] at e;cases e
    ·have e:(a0h scope s.heap.objs.size X.env).kindOf x=ξ .free:=e;rw [hg] at e;cases e
  obtain⟨m,hn,hl⟩:=I.loc
  have hv:Vis X.env.scope x:=by
   rcases kindF x hfree with z|z
   ·exact .inr (.inl z)
   ·exact .inr (.inr z)
  obtain⟨u,r,l⟩:=hl i x v h1 h2 hv
  refine⟨u,r, ?_⟩
  rcases l with⟨k,_⟩|⟨k,c,e,z⟩
  ·rcases kindF x hfree with q|q<;>rw [q] at k<;>cases k
  ·refine .inr ⟨?_,c,by show(a0h scope s.heap.objs.size X.env).cells.lookup x=_;rw [look x (PySem.mem_of_lookup hfree)];exact e,z.keeps up⟩
   show(a0h scope s.heap.objs.size X.env).kindOf x=ξ .cell\/(a0h scope s.heap.objs.size X.env).kindOf x=ξ .free
   rw [a2j,hfree]
   by_cases cc:((NameKind.free==NameKind.free)&& X.env.scope.kind== .function && X.env.kindOf x==ξ .cell)=true
   ·exact .inl (congrArg ξ (if_pos cc))
   ·exact .inr (congrArg ξ (if_neg cc))
 ·rcases cel x c e with⟨a1,_,_⟩|⟨a1,_⟩
  ·exact⟨ζ,(okc.empty x c a1).1⟩
  ·obtain⟨v,z⟩:=I.cell x c a1
   exact⟨v,z.keeps up⟩
 ·rcases cel x c e with⟨_,_,c1⟩|⟨a1,_⟩
  ·exact I.hok.fresh (BG c1)
  ·exact I.freeC x c a1
 ·have hp:p∈(X.pn++pins)++[]:=hp
  rw [Af] at hp
  obtain⟨e,n,ne,nf,d⟩:=I.pin p hp
  refine⟨up _ _ e,n,As (Ag e),λhz=> ?_,d⟩
  have hz:p.1∈frs X.stack:=hz
  rcases An.mp (I.stkSub p.1 hz) with z|z
  ·exact ne z
  ·exact nf z
 ·show(σ++AV ys.length ζ).length=(N0++ys).length
  rw [AW,List.length_replicate,AW,S.eq,AZ,I.len]
def c0l(X:Cx)(pins:List (AB×Obj))(C:AB):Prop:=C≠X.env.locals/\X.s₀.heap.objs.size<=C/\(∀x c,X.env.cells.lookup x=ξ c->c≠C)/\∀p∈X.pn++pins,p.1≠C
theorem b88{pos':Pos}{use:Υ (AA->Sem Unit)}{QQ:AA->AC->Prop}(hx:∀e s,X.xe e s->False)(hc:X.calm=true)(S:a3A X.N N0 ys X.env scope)(hi:PI X tg iter wi)
 (hg:∀C fp pins s H,PG (a2i X N0 scope ys C fp pins s H) tg g) (ht:∀C fp pins s H,PCs (a2i X N0 scope ys C fp pins s H) ifs tc) (he:∀C fp pins s H,PE (a2i X N0 scope ys C fp pins s H) elt te)
 (hs:∀x,foldedSetIterable iter X.env x=pure x) {pins:List (AB×Obj)} {s:AC} {σ:St} {H:Hp} {Q:VK} (I:m6 X pins σ H s) (h:c2K wi g tc te ys.length σ H Q)
 (fin:∀D C s' H' m,m6 X pins σ H' s'->s'.heap.Ns C m->H' C=ζ->c0l X pins C->Q (.ref D) H'->compPost (model X.prog X.w) X.A X.xe use QQ (.ref D) C (.ok .next) s'):
 AI (model X.prog X.w) X.A (comprehension (.ListComp elt [⟨tg,iter,ifs,0⟩] scope pos) scope X.env pos' (newList []) false (eval iter X.env) use) QQ X.xe s:=by
 have hcl:closureFor scope X.env=pure (a1M X.env.cells scope.names []):=b16 λx hx' hk=>by
  obtain⟨c,e⟩:=a4I (ys:=ys) I S (x:=x.1) (by rw [<-hk];exact hx')
  rw [e];rfl
 refine wpAny_comprehension_free (use:=use) rfl hs hcl S.kind (λx hx' hk=>P5 S.nd (by rw [<-hk];exact hx')) (R1 (hi pins s σ H _ I h) λv s1 h1=>R1 h1 λitv s2 h2=> ?_)
 obtain⟨it,fp,tn,J,H2,e,I2,T,st2,f2,hW⟩:=h2
 subst e
 have hfr:=I2.hok.fresh (AN _)
 obtain⟨W,⟨m0,w0⟩,turn⟩:=hW s2.heap.objs.size hfr
 have fpLt:∀b∈fp,b<s2.heap.objs.size:=λb hb=>let ⟨_,e,_⟩:=T.obj _ _ st2 b hb;Ag e
 refine wpAny_newObj_type ?_
 have I3:m6 X pins σ (upd H2 s2.heap.objs.size (.lst [])) {s2 with heap:=s2.heap.push {cls:= .type "list",data:= .seq ([]:List AA).toArray}}:=
  I2.laid (t':=s2.toks) (λb o e=>Am _ e) (AN _) ⟨by decide,[],0,.nil,At _ rfl⟩
 have up3:∀b o,s2.heap.get? b=ξ o->(s2.heap.push {cls:= .type "list",data:= .seq ([]:List AA).toArray}).get? b=ξ o:=λb o e=>Am _ e
 have st3:tn 0 (s2.heap.push {cls:= .type "list",data:= .seq ([]:List AA).toArray}):=T.keep _ _ _ st2 λb _ o e=>up3 b o e
 have f3:∀b∈fp,b10 X pins (upd H2 s2.heap.objs.size (.lst [])) b:=λb hb=>⟨by rw [m4 (As (fpLt b hb))];exact(f2 b hb).1,(f2 b hb).2⟩
 generalize hs3:({s2 with heap:=s2.heap.push {cls:= .type "list",data:= .seq ([]:List AA).toArray}}:AC)=s3 at I3
 have hs3h:s3.heap=s2.heap.push {cls:= .type "list",data:= .seq ([]:List AA).toArray}:=by rw [<-hs3]
 rw [<-hs3h] at st3 up3
 refine a6K ?_
 have I4:=b6C S I3 f3 (T.obj _ _ st3)
 generalize hs4:({s3 with heap:=pushCells (s3.heap.push {cls:= .type "dict",data:= .dict #[]}) scope.names}:AC)=s4 at I4 ⊢
 have hs4h:s4.heap=pushCells (s3.heap.push {cls:= .type "dict",data:= .dict #[]}) scope.names:=by rw [<-hs4]
 have st4:tn 0 s4.heap:=T.keep _ _ _ st3 λb _ o e=>by rw [hs4h];exact pushCells_keeps _ _ b o (Am _ e)
 generalize hX:a2i X N0 scope ys s3.heap.objs.size fp pins s3 (upd H2 s2.heap.objs.size (.lst []))=Y at I4
 have Yp:Y.prog=X.prog:=by rw [<-hX];rfl
 have Yw:Y.w=X.w:=by rw [<-hX];rfl
 have YK:Y.K=X.K:=by rw [<-hX];rfl
 have YA:Y.A=X.A:=by rw [<-hX];rfl
 have Yc:Y.calm=true:=by rw [<-hX];exact hc
 have Yx:Y.xe=X.xe:=by rw [<-hX];rfl
 have YL:Y.env.locals=s3.heap.objs.size:=by rw [<-hX];rfl
 have Yf:Y.fs=frs X.stack:=by rw [<-hX];rfl
 have Ye:Y.ex=fp:=by rw [<-hX];rfl
 have Yn:Y.pn=X.pn++pins:=by rw [<-hX];rfl
 have Ys:Y.s₀=s3:=by rw [<-hX];rfl
 have YH:Y.H₀=upd H2 s2.heap.objs.size (.lst []):=by rw [<-hX];rfl
 have YE:Y.env=a0h scope s3.heap.objs.size X.env:=by rw [<-hX];rfl
 have hgY:PG Y tg g:=by rw [<-hX];exact hg _ _ _ _ _
 have htY:PCs Y ifs tc:=by rw [<-hX];exact ht _ _ _ _ _
 have heY:PE Y elt te:=by rw [<-hX];exact he _ _ _ _ _
 have nlen:(σ++AV ys.length ζ).length=Y.N.length:=I4.len
 have exf:=I4.ok.exf
 have exfs:=I4.ok.exfs
 have stat:∀{H':Hp},(∀b∈fp,H' b=ζ)->∀b∈fp,b10 Y [] H' b:=λ {H'} hn b hb=>by
  have hb':b∈Y.ex:=by rw [Ye];exact hb
  refine⟨hn b hb,(exf b hb').1,exfs b hb',.inl hb',(exf b hb').2,λp hp=> ?_⟩;rw [Af,Yn] at hp;exact(f2 b hb).2.2.2.2.2 p hp
 have TY:b6t Y.prog Y.w Y.K tg J fp it tn:=by rw [Yp,Yw,YK];exact T
 have noX:∀e s,Y.xe e s->False:=λe s h=>hx e s (by rw [<-Yx];exact h)
 have loop:∀R:Result->AC->Prop,(∀s' H' m,m6 X pins σ H' s'->s'.heap.Ns s3.heap.objs.size m->H' s3.heap.objs.size=ζ->c0l X pins s3.heap.objs.size->Q (.ref s2.heap.objs.size) H'->R (.ok .next) s')->
  codeAny (model X.prog X.w) X.A (.compLoop (.ListComp elt [⟨tg,iter,ifs,0⟩] scope pos) 0 (.ref it) (.ref s2.heap.objs.size) (a0h scope s3.heap.objs.size X.env)) R s4:=by
  intro R hR
  refine a6H (λn s'=>∃i xs H' σ',m6 Y [] σ' H' s'/\(∀(j:Nat) v,(σ++AV ys.length ζ)[j]?=ξ (ξ v)->σ'[j]?=ξ (ξ v))/\tn i s'.heap/\(∀b∈fp,H' b=ζ)/\H' s2.heap.objs.size=ξ (.lst xs)/\W i n xs H') ?_ m0
   ⟨0,[],_,_,I4,λ_ _ e=>e,st4,λb hb=>(f3 b hb).1,n6,w0⟩
  rintro n s5 ⟨i,xs,H5,σ5,I5,k5,st5,fr5,hD5,w5⟩
  have I5:m6 Y [] (σ++AV ys.length ζ) H5 s5:=I5.weak (by rw [nlen,I5.len]) k5
  rw [<-Yp,<-Yw,<-YA]
  rcases turn i n xs H5 w5 hD5 with⟨stop,q⟩|⟨go,step⟩
  ·refine wpAny_mono (TY.done Y rfl rfl rfl Yc i [] s5 _ H5 (λ_ _=>False) I5 (stat fr5) st5 stop) (λr s6 ⟨hr,I6⟩=> ?_) λ_ _ z=>z
   subst hr
   obtain⟨m,hn,_⟩:=I6.loc
   have un:=I6.base
   rw [Yf,Ye,Ys,YH] at un
   rw [YL] at hn
   have hfC:=I6.free
   rw [YL] at hfC
   refine hR s6 H5 m (I3.call' (ch:=fp) (by rw [I6.os,Ys]) un (by have z:=I6.hok;rw [Yp,Yw] at z;exact z) I6.bare λb hb=>⟨(f3 b hb).2.2.2.1,(f3 b hb).2.1,(f3 b hb).2.2.2.2.1,(f3 b hb).2.2.2.2.2⟩) hn hfC ⟨Nat.ne_of_gt I3.lt,I3.sz,λx c e=> ?_,λp hp=> ?_⟩ q
   ·obtain⟨v,z⟩:=I3.cell x c e
    exact As z.lt
   ·exact As (Ag (I3.pin p hp).1)
  ·refine wpAny_mono (TY.item Y rfl rfl rfl Yc i [] s5 _ H5 (λ_ _=>False) I5 (stat fr5) st5 go) (λr s6 ⟨u,hr,h6⟩=> ?_) λ_ _ z=>z
   subst hr
   dsimp only
   refine wpAny_mono h6 (λ_ s7 ⟨x,H7,I7,r7,y7,st7,fr7⟩=> ?_) λ_ _ z=>z
   have I7':=I7.pinned (stat fr7) (T.obj _ _ st7)
   rw [<-YE]
   have keepT:∀{σ8:St} {H8:Hp} {s8:AC},m6 Y ([]++b1w fp s7.heap) σ8 H8 s8->tn (i+1) s8.heap/\∀b∈fp,H8 b=ζ:=λ {σ8 H8 s8} I8=>by
    refine⟨T.keep _ _ _ st7 λb hb o e=>(I8.pin (b,o) (Au _ (Au _ (a2C hb e)))).1,λb hb=> ?_⟩;obtain⟨o,e,d⟩:=T.obj _ _ st7 b hb;exact(I8.pin (b,o) (Au _ (Au _ (a2C hb e)))).2.1
   refine wpAny_mono (hgY _ s7 _ H7 x u _ I7' r7 (step x H7 y7)) (λ_ s8 h0=>u8 h0 λσ8 H8 I8 k8 q8=> ?_) λe s z=>noX e s z
   refine wpAny_mono (htY _ s8 σ8 H8 _ I8 q8) (λb s9 ⟨H9,I9,q9⟩=> ?_) λe s z=>noX e s z
   cases b with
   |false=>
    rw [if_neg BB] at q9 ⊢
    obtain⟨hD9,m',lt,w9⟩:=q9
    obtain⟨t9,n9⟩:=keepT I9
    exact⟨m',lt,i+1,xs,H9,σ8,I9.pins_of (λp hp=>nomatch hp),k8,t9,n9,hD9,w9⟩
   |true=>
    rw [if_pos rfl] at q9 ⊢
    refine wpAny_mono (heY _ s9 σ8 H9 _ I9 q9) (λy s10 ⟨v,H10,I10,r10,hD10,hz,m',lt,w10⟩=> ?_) λe s z=>noX e s z
    refine wpAny_mono (b21 _ s10 σ8 H10 (.ref s2.heap.objs.size) [v] (.ref s2.heap.objs.size) [y] (λ_ H'=>H'=upd H10 s2.heap.objs.size (.lst (xs++[v]))) I10 rfl (.cons r10 .nil) ⟨_,xs,v,rfl,rfl,hD10,hz,rfl⟩) (λ_ s11 h0=>u8 h0 λ_ H11 I11 _ e11=> ?_) λe s z=>noX e s z
    subst e11
    obtain⟨t11,n11⟩:=keepT I11
    exact⟨m',lt,i+1,xs++[v],_,σ8,I11.pins_of (λp hp=>nomatch hp),k8,t11,n11,n6,w10⟩
 show codeAny _ _ (.compStart _ 0 _ _ (a0h scope s3.heap.objs.size X.env)) _ _
 refine codeAny_compStart_list (loop _ λs' H' m a b c d e=>fin _ _ s' H' m a b c d e) (T.self _ 0 _ _ _ st4 (loop _ λs' H' m a b c d e=>fin _ _ s' H' m a b c d e))
theorem c4g(hx:∀e s,X.xe e s->False)(hc:X.calm=true)(S:a3A X.N N0 ys X.env scope)(hi:PI X tg iter wi)
 (hg:∀C fp pins s H,PG (a2i X N0 scope ys C fp pins s H) tg g) (ht:∀C fp pins s H,PCs (a2i X N0 scope ys C fp pins s H) ifs tc) (he:∀C fp pins s H,PE (a2i X N0 scope ys C fp pins s H) elt te)
 (hs:∀x,foldedSetIterable iter X.env x=pure x:=by intro _;rfl):PE X (.ListComp elt [⟨tg,iter,ifs,0⟩] scope pos) (c2K wi g tc te ys.length):=by
 intro pins s σ H Q I h
 rw [eval_ListComp]
 refine b88 hx hc S hi hg ht he hs I h λD C s' H' m I' hn hC gone q=>⟨m,hn,λh' hs'=>⟨.ref D,H', ?_,rfl,q⟩⟩
 obtain⟨g1,g2,g3,g4⟩:=gone
 exact I'.turned (t':=s'.toks) (λb o hb e=>hs'.extBut b o hb e) hC g1 (.inr g2) g3 g4
end
end L2
namespace PU
open PySem PySem.Spec PyProof.Rows L2
def a9I(c:MT)(elt:M)(tg:PV->c9->Υ c9)(ρ:c9):List PV->Υ (List PV)
 |[]=>ξ []
 |p::ps=>(tg p ρ).bind λρ1=>(c ρ1).bind λb=>if b=true then((elt ρ1).bind d4.toVal).bind λq=>(a9I c elt tg ρ ps).bind λr=>ξ (q::r) else a9I c elt tg ρ ps
def a5a:MT:=λ_=>ξ true
def a30(k:Nat)(it:MI)(tg:PV->c9->Υ c9)(c:MT)(elt:M):M:=λρ=>(it ρ).bind λps=>if ps.length<=AL then(a9I c elt tg (ρ++AV k ζ) ps).bind λr=>ξ (.own r) else ζ
def b4H(K:AE)(n:Nat)(g:TG)(tg:PV->c9->Υ c9):Prop:=
 ∀F H σ ρ ρ1 p x (Q:L2.St->Hp->Prop),M6 K F H σ ρ->J7 K F p x->tg p ρ=ξ ρ1->(∀σ',M6 K F H σ' ρ1->(∀(j:Nat),j<n->σ'[j]?=σ[j]?)->Q σ' H)->g x σ H Q
theorem M6.set{K:AE}{F H:Hp}{σ:L2.St}{ρ:c9}{p:PV}{x:V}(e:M6 K F H σ ρ)(r:J7 K F p x)(i:Nat):M6 K F H (σ.set i (ξ x)) (ρ.set i (ξ (.v p))):=by
 refine⟨e.fh,by simp [e.len],λj q h=> ?_,λj ps h=> ?_,λj k ps qs a hjk h1 h2 h3 h4=> ?_⟩
 ·rw [List.getElem?_set] at h ⊢
  by_cases hij:i=j
  ·subst hij;rw [if_pos rfl] at h ⊢;rw [e.len];split at h
   ·rename_i c;cases h;rw [if_pos c];exact⟨x,rfl,r⟩
   ·cases h
  ·rw [if_neg hij] at h ⊢;exact e.at_ j q h
 ·rw [List.getElem?_set] at h
  by_cases hij:i=j
  ·subst hij;rw [if_pos rfl] at h;split at h<;>cases h
  ·rw [if_neg hij] at h;exact e.nb j ps h
 ·have get:∀(j:Nat) (ps:a2c),(ρ.set i (ξ (d4.v p)))[j]?=ξ (ξ (d4.ow ps))->i≠j/\ρ[j]?=ξ (ξ (d4.ow ps)):=λj ps h=>by
   rw [List.getElem?_set] at h
   by_cases hij:i=j
   ·subst hij;rw [if_pos rfl] at h;split at h<;>cases h
   ·rw [if_neg hij] at h;exact⟨hij,h⟩
  obtain⟨n1,h1⟩:=get j ps h1;obtain⟨n2,h2⟩:=get k qs h2;rw [List.getElem?_set_ne n1] at h3;rw [List.getElem?_set_ne n2] at h4;exact e.ap j k ps qs a hjk h1 h2 h3 h4
theorem V5{K:AE}{n i:Nat}(h:n<=i):b4H K n (b2O i) (g9 i):=λF H σ ρ ρ1 p x Q e r q k=>by
 cases q;exact k _ (e.set r i) λj hj=>by rw [List.getElem?_set_ne (by lia)]
theorem M6.more{K:AE}{F H:Hp}{σ:L2.St}{ρ:c9}(e:M6 K F H σ ρ)(k:Nat):M6 K F H (σ++AV k ζ) (ρ++AV k ζ):=by
 have key:∀(j:Nat) (q:d4),(ρ++AV k ζ)[j]?=ξ (ξ q)->ρ[j]?=ξ (ξ q)/\(σ++AV k ζ)[j]?=σ[j]?:=λj q h=>by
  by_cases hj:j<ρ.length
  ·rw [BE hj] at h;rw [BE (by rw [e.len];exact hj)]
   exact⟨h,rfl⟩
  ·rw [List.getElem?_append_right (by lia),List.getElem?_replicate] at h
   split at h<;>cases h
 refine⟨e.fh,by simp [e.len],λj q h=> ?_,λj ps h=>e.nb j ps (key j _ h).1,λj k' ps qs a hjk h1 h2 h3 h4=> ?_⟩
 ·obtain⟨h1,h2⟩:=key j q h;rw [h2];exact e.at_ j q h1
 ·obtain⟨a1,b1⟩:=key j _ h1;obtain⟨a2,b2⟩:=key k' _ h2;rw [b1] at h3;rw [b2] at h4;exact e.ap j k' ps qs a hjk a1 a2 h3 h4
def WC(K:AE)(F H:Hp)(D:AB)(c:MT)(elt:M)(tg:PV->c9->Υ c9)(ρ:c9)(ps r:List PV)(i m:Nat)(xs:List V)(H':Hp):Prop:=
 ∃F' done rest,i<=ps.length/\m=ps.length - i/\Ext F H F' H'/\F' D=ζ/\o0 K F' done xs/\done.length<=i/\a9I c elt tg ρ (ps.drop i)=ξ rest/\done++rest=r
theorem b9a{K:AE}{F H:Hp}{D:AB}{c:MT}{elt:M}{tg:PV->c9->Υ c9}{g:TG}{σ:L2.St}{ρ:c9}{k:Nat}{ps r:List PV}{i m:Nat}{xs:List V}{H':Hp}{p:PV}{x:V}
 (T:b4H K ρ.length g tg) (en:M6 K F H σ ρ) (hD:H D=ζ) (hsz:ps.length<=AL) (W:WC K F H D c elt tg (ρ++AV k ζ) ps r i m xs H') (hx:H' D=ξ (.lst xs)) (ep:ps[i]?=ξ p) (rx:J7 K F p x):
 g x (σ++AV k ζ) H' λσ4 H4=>(∀(j:Nat) v,(σ++AV k ζ)[j]?=ξ (ξ v)->σ4[j]?=ξ (ξ v))/\tMT K c σ4 H4 λb H5=>if b=true then tM K elt σ4 H5 λv H6=>H6 D=ξ (.lst xs)/\xs.length<AL/\∃m',m'<m/\WC K F H D c elt tg (ρ++AV k ζ) ps r (i+1) m' (xs++[v]) (upd H6 D (.lst (xs++[v])))
  else H5 D=ξ (.lst xs)/\∃m',m'<m/\WC K F H D c elt tg (ρ++AV k ζ) ps r (i+1) m' xs H5:=by
 obtain⟨F',done,rest,hi,hm,ex,fD,rl,dl,hc,hr⟩:=W
 have hk:i<ps.length:=(Av.mp ep).1
 have hd:ps.drop i=p::ps.drop (i+1):=by
  rw [List.drop_eq_getElem_cons hk]
  congr 1
  exact(Av.mp ep).2
 rw [hd] at hc
 unfold a9I at hc
 obtain⟨ρ1,e1,hc⟩:=bind_some hc
 obtain⟨b,e2,hc⟩:=bind_some hc
 have en':=(en.ext ex).more k
 refine T F' H' _ _ ρ1 p x _ en' (J7.mono ex.f _ rx) e1 λσ4 en4 keep=>⟨λj v e=> ?_, ?_⟩
 ·by_cases hj:j<ρ.length
  ·rw [keep j hj];exact e
  ·rw [List.getElem?_append_right (by rw [en.len];lia),List.getElem?_replicate] at e
   split at e<;>cases e
 refine⟨F',ρ1,b,en4,e2,λF5 H5 x5=> ?_⟩
 have ex5:=ex.trans x5
 have fD5:F5 D=ζ:=x5.nw D _ fD hx (λ_ h=>nomatch h)
 cases b with
 |false=>
  rw [if_neg BB] at hc
  refine b18 ⟨x5.h _ _ hx,ps.length - (i+1),by lia,F5,done,rest,by lia,rfl,ex5,fD5,o0.mono x5.f _ rl,by lia,hc,hr⟩
 |true=>
  rw [if_pos rfl] at hc
  obtain⟨q,e3,hc⟩:=bind_some hc
  obtain⟨rt,e4,hc⟩:=bind_some hc
  cases hc
  obtain⟨re,e5,e6⟩:=bind_some e3
  refine b19 ⟨F5,ρ1,re,en4.ext x5,e5,λv F6 H6 o6=> ?_⟩
  obtain⟨F7,o7⟩:=o6.toVal e6
  have hx6:H6 D=ξ (.lst xs):=o6.x.h _ _ (x5.h _ _ hx)
  have fD7:F7 D=ζ:=o7.x.nw D _ fD5 (x5.h _ _ hx) (λ_ h=>nomatch h)
  have ex7:=ex5.trans o7.x
  have hlen:=rl.length
  refine⟨hx6,by lia,ps.length - (i+1),by lia,F7,done++[q],rt,by lia,rfl,⟨ex7.f,λa o z=> ?_,λa o z=> ?_,ex7.nw,ex7.nf⟩,fD7,o0.append (o0.mono (x5.f.trans o7.x.f) _ rl) ⟨v,[],rfl,o7.rep,rfl⟩,by simp;lia,e4,by rw [List.append_assoc];exact hr⟩
  ·rw [m4 (v6 z hD)];exact ex7.h _ _ z
  ·rw [m4 (v6 z fD7)];exact ex7.fh _ _ z
theorem c0D{K:AE}{F H:Hp}{D:AB}{c:MT}{elt:M}{tg:PV->c9->Υ c9}{ρ:c9}{ps r:List PV}{m:Nat}{xs:List V}{H':Hp}(hD:H D=ζ)(W:WC K F H D c elt tg ρ ps r ps.length m xs H')(hx:H' D=ξ (.lst xs)):∃F',B4 K F H F' H' (.ref D) (.own r):=by
 obtain⟨F',done,rest,hi,hm,ex,fD,rl,dl,hc,hr⟩:=W;rw [List.drop_length] at hc;cases hc;rw [Af] at hr;subst hr;exact⟨F',ex,⟨D,xs,rfl,fD,hx,rl⟩,λ_ _ _ e=>by cases e;exact hD⟩
structure Src(K:AE)(F0 F H:Hp)(J:It)(ps:List PV):Prop where
 st:∀i H',m5 H H'->ps.length<=i->J.stop i H'
 go:∀i p H',m5 H H'->ps[i]?=ξ p->J.go i H'
 yd:∀i p x H' H'',m5 H H'->ps[i]?=ξ p->J.yld i H' x H''->H''=H'/\J7 K F p x
def SI(K:AE)(mi:MI)(wi:TI):Prop:=∀F H σ ρ ps (R:It->Hp->Prop),M6 K F H σ ρ->mi ρ=ξ ps->(∀F1 H1 J,Ext F H F1 H1->Src K F F1 H1 J ps->R J H1)->wi σ H R
abbrev EI(X:Cx)(tg iter:AF)(mi:MI):Prop:=∃wi,PI X tg iter wi/\SI X.K mi wi
section
variable {X:Cx}{tg:AF}
def a1Z(m:M):MI:=λρ=>(m ρ).bind λr=>PyData.items? r.rd
theorem b6J{l:AF}{m:M}(h:EE X l m):EI X tg l (a1Z m):=⟨_,b7l h,λF H σ ρ ps R en e k=>by
 obtain⟨r,e1,e2⟩:=bind_some e;refine⟨F,ρ,r,en,e1,λv F1 H1 o1=> ?_⟩;obtain⟨a,xs,rfl,hq,rl⟩:=a0l o1.x.fh o1.rep e2;have hlen:=rl.length;rcases hq with hq|hq
 ·refine⟨a,rfl,.inl ⟨⟨xs,hq⟩,k F1 H1 _ o1.x ⟨λi H2 s h=>⟨xs,Y1 s hq,by lia⟩,λi p H2 s h=> ?_,λi p x H2 H3 s h y=> ?_⟩⟩⟩
  ·obtain⟨v,ev,_⟩:=rl.get h;exact⟨xs,v,Y1 s hq,ev⟩
  ·obtain⟨v,ev,rv⟩:=rl.get h;obtain⟨e,y⟩:=y;have:=y xs (Y1 s hq);rw [ev] at this;cases this;exact⟨e,rv⟩
 ·refine⟨a,rfl,.inr ⟨⟨xs,hq⟩,k F1 H1 _ o1.x ⟨λi H2 s h=>⟨xs,A7 s hq,by lia⟩,λi p H2 s h=> ?_,λi p x H2 H3 s h y=> ?_⟩⟩⟩
  ·obtain⟨v,ev,_⟩:=rl.get h;exact⟨xs,v,A7 s hq,ev⟩
  ·obtain⟨v,ev,rv⟩:=rl.get h;obtain⟨e,y⟩:=y;have:=y xs (A7 s hq);rw [ev] at this;cases this;exact⟨e,rv⟩⟩
theorem c4q{K:AE}{F0 F H:Hp}{lo hi:Int}:Src K F0 F H (Itr lo (hi - lo).toNat) (K4 lo hi):=by
 have hl:=R9 lo hi;refine⟨λi H2 s h=> ?_,λi p H2 s h=> ?_,λi p x H2 H3 s h y=> ?_⟩
 ·show(hi - lo).toNat<=i;lia
 ·have:=(Av.mp h).1;show i<(hi - lo).toNat;lia
 ·have hi':=(Av.mp h).1;rw [a8s (by lia)] at h
  cases h;obtain⟨e,y⟩:=y;exact⟨e,y⟩
theorem b3E{a:AF}{m:MA}{p rp:Pos}(hgl:Gl X "range")(hm:X.mg "range"=ζ)(ha:EA X [a] m)(hst:AK [a] X.env=[(false,eval a X.env)]:=by rfl):EI X tg (.Call (.Name "range" p) [a] [] rp) (a0V m):=⟨_,b3b hgl hm ha hst,λF H σ ρ ps R en e k=>by
 obtain⟨qs,e1,e2⟩:=bind_some e;refine⟨F,ρ,qs,en,e1,λvs F1 H1 x rl=> ?_⟩;split at e2
 ·rename_i j;split at e2
  ·rename_i c;have c:=a4J.mp c;cases e2;obtain⟨v,r,rfl,rv,rr⟩:=rl;cases rv;cases rr;have hz:(j - 0).toNat=j.toNat:=by lia
   refine⟨j,rfl,c.1,c.2,k F1 H1 _ x ?_⟩;have z:=c4q (K:=X.K) (F0:=F) (F:=F1) (H:=H1) (lo:=0) (hi:=j);rw [hz] at z;exact z
  ·cases e2
 ·cases e2⟩
abbrev EC(X:Cx)(ifs:List AF)(c:MT):Prop:=PCs X ifs (tMT X.K c)
theorem a5y:EC X [] a5a:=λpins s σ H Q I ⟨F,ρ,b,en,e,k⟩=>by
 cases e;exact c4e pins s σ H Q I (k F H (Ext.refl en.fh))
theorem b89{mi:MI}{wi:TI}{g:TG}{c:MT}{elt:M}{t:PV->c9->Υ c9}{N:List Str}{k:Nat}(hi:SI X.K mi wi)(T:∀n,n=N.length->b4H X.K n g t){σ:L2.St}{H:Hp}{Q:VK}(hl:σ.length=N.length)(h:tM X.K (a30 k mi t c elt) σ H Q):c2K wi g (tMT X.K c) (tM X.K elt) k σ H Q:=by
 obtain⟨F,ρ,r,en,e,kk⟩:=h;obtain⟨ps,e1,e⟩:=bind_some e;split at e
 ·rename_i hsz;obtain⟨rs,e2,e⟩:=bind_some e;cases e;refine hi F H σ ρ ps _ en e1 λF1 H1 J x1 S D hD=> ?_;have en1:=en.ext x1;have T':b4H X.K ρ.length g t:=T _ (by rw [<-en.len,hl])
  refine⟨WC X.K F1 H1 D c elt t (ρ++AV k ζ) ps rs,⟨ps.length,F1,[],rs,Nat.zero_le _,rfl,Ext.layH x1.fh hD,x1.fh.free hD,rfl,AN _,e2,rfl⟩,λi m xs H2 W hx=> ?_⟩;have W':=W;obtain⟨F',done,rest,hi',hm,ex,fD,rl,dl,hc,hr⟩:=W';have sF:m5 H1 H2:=ex.h
  by_cases hlt:i<ps.length
  ·refine .inr ⟨S.go i ps[i] H2 sF (by simp [hlt]),λx H3 y=> ?_⟩
   obtain⟨e3,rx⟩:=S.yd i ps[i] x H2 H3 sF (by simp [hlt]) y
   subst e3;exact b9a T' en1 hD hsz W hx (by simp [hlt]) rx
  ·have e3:i=ps.length:=by lia
   subst e3;refine .inl ⟨S.st _ H2 sF (AN _), ?_⟩;obtain⟨F2,o⟩:=c0D hD W hx;exact kk _ F2 H2 (B4.trans x1 o)
 ·cases e
theorem a2X{elt iter:AF}{ifs:List AF}{scope:Scope}{N0 ys:List Str}{mi:MI}{g:TG}{c:MT}{m:M}{t:PV->c9->Υ c9}{pos:Pos}(hx:∀e s,X.xe e s->False)(hc:X.calm=true)(S:a3A X.N N0 ys X.env scope)(hi:EI X tg iter mi)
 (hg:∀C fp pins s H,PG (a2i X N0 scope ys C fp pins s H) tg g) (T:∀n,n=X.N.length->b4H X.K n g t) (ht:∀C fp pins s H,EC (a2i X N0 scope ys C fp pins s H) ifs c) (he:∀C fp pins s H,EE (a2i X N0 scope ys C fp pins s H) elt m)
 (hs:∀x,foldedSetIterable iter X.env x=pure x:=by intro _;rfl):EE X (.ListComp elt [⟨tg,iter,ifs,0⟩] scope pos) (a30 ys.length mi t c m):=by
 obtain⟨wi,h1,h2⟩:=hi
 intro pins s σ H Q I h
 exact c4g hx hc S h1 hg ht he hs pins s σ H Q I (b89 (N:=X.N) h2 T I.len h)
end
def a42:List PV->Υ (List Str)
 |[]=>ξ []
 | .str x::r=>(a42 r).map (x::·)
 |_=>ζ
theorem b1P:∀xs:List Str,a42 (xs.map .str)=ξ xs
 |[]=>rfl
 |x::xs=>by rw [AG];simp only [a42,b1P xs,Ar]
theorem a7w{K:AE}{H:Hp}:∀{ps:List PV} {ys:List Str} {xs:List V} {us:List AA},a42 ps=ξ ys->o0 K H ps xs->v7 xs us->StrsAre us ys
 |[],_,_,_,h,r,v=>by cases h;cases r;cases v;exact .nil
 |p::ps,ys,_,_,h,⟨x,r,e,hp,t⟩,v=>by
  subst e;cases p with
  |str z=>
   simp only [a42] at h;cases q:a42 ps with
   |none=>rw [q] at h;cases h
   |some zs=>
    rw [q] at h;cases h;cases hp;cases v with
    |cons a b=>
     obtain⟨tk,rfl⟩:=a;exact .cons z tk (a7w q t b)
  |_=>simp [a42] at h
def T7(x y:d4):Υ d4:=match x with
 | .v (.str z)=>(match PyData.items? y.rd with
   |some ps=>(a42 ps).bind λys=>if(ys.map (·.length)).sum+ys.length*z.length<=16777216 then ξ (.v (.str (Txt.join z ys))) else ζ
   |none=>ζ)
 |_=>ζ
section
variable {X:Cx}
theorem c31:MtR X "str.join" (λx xs H Q=>∃F y rx ry rz,xs=[y]/\m5 F H/\U1 X.K F H x rx/\U1 X.K F H y ry/\T7 rx ry=ξ rz/\∀v F' H',B4 X.K F H F' H' v rz->Q v H'):=by
 intro pins s σ H x xs v us Q I rx rv h;obtain⟨F,y,ra,rb,rz,rfl,s0,h1,h2,h3,k⟩:=h;obtain⟨u,rfl,ru⟩:=a5f rv;unfold T7 at h3;split at h3
 ·rename_i z;split at h3
  ·rename_i ps e;obtain⟨ys,e2,h3⟩:=bind_some h3;split at h3
   ·rename_i c;cases h3;cases h1;obtain⟨t,rfl⟩:=rx;obtain⟨a,xs,rfl,hq,r⟩:=a0l s0 h2 e;cases ru;rcases hq with hq|hq
    ·obtain⟨its,rv,pl,hz⟩:=I.list hq;exact join_list pl.isList (by simpa using a7w e2 r rv) c λt' k'=>⟨.str _,H,I.tok _,⟨_,rfl⟩,k _ F H (B4.here s0 rfl)⟩
    ·obtain⟨its,rv,pl,hz⟩:=I.tuple hq;exact join_tuple pl (by simpa using a7w e2 r rv) c λt' k'=>⟨.str _,H,I.tok _,⟨_,rfl⟩,k _ F H (B4.here s0 rfl)⟩
   ·cases h3
  ·cases h3
 ·cases h3
theorem a4y{o e:AF}{m n:M}{apos cpos:Pos}(ho:EE X o m)(ha:EE X e n)
 (hbase:attributeBase o "join" X.env (eval o X.env)=eval o X.env:=by rfl)
 (hfew:((backTo cpos (AK [e] X.env)).all (λx=> !x.1)&&(backToKw cpos (keywordEach [] X.env)).all (λx=>x.1.isSome)
  && decide ([e].length+([]:List Keyword).length+(if([]:List Keyword).isEmpty then 0 else 1)<30))=true:=by rfl)
 (hline:(apos.endLine==cpos.line)=true:=by rfl) (hs:AK [e] X.env=(false,eval e X.env)::AK [] X.env:=by rfl) (hplain:(backTo cpos (AK [] X.env)).any (·.1)=false:=by rfl):
 EE X (.Call (.Attribute o "join" apos) [e] [] cpos) (m2 T7 m n):=
 B9 (b5W PySem.F.plainAttrs_str PySem.F.slot_str_join PySem.F.type_str_join c31 ho (J3 ha a0d hs) hbase hfew hline hs hplain) λσ H Q h0=>A1 h0 λF ρ r he hm k=>by
  ext z
  refine⟨F,ρ,rx,he,e1,λv F1 H1 o1=>⟨?_,⟨F1,ρ,ry,he.ext o1.x,e2,λu F2 H2 o2=>⟨F2,u,rx,ry,r,rfl,o2.x.fh,o1.rep.ext o2.x,o2.rep,hm,λz F3 H3 o3=>k z F3 H3 (B4.trans (o1.x.trans o2.x) o3)⟩⟩⟩⟩;unfold T7 at hm;split at hm
  ·cases o1.rep;rfl
  ·cases hm
end
def cut{α:Type}(xs:List α)(lo hi:Υ Int):List α:=(xs.drop (HT.sIx xs.length 0 lo)).take (HT.sIx xs.length xs.length hi - HT.sIx xs.length 0 lo)
theorem a7J(n d:Nat)(hd:d<=n)(o:Υ Int):(match o with|none=>(d:Int)|some i=>max 0 (min (if i<0 then i+n else i) n))=((HT.sIx n d o:Nat):Int):=by
 cases o with
 |none=>rfl
 |some i=>unfold HT.sIx;dsimp only;split<;>lia
theorem c3i(n:Nat)(lo hi:Υ Int):Builtin.Str.strSliceIndices lo hi 1 n=(Ab (HT.sIx n n hi - HT.sIx n 0 lo)).map (HT.sIx n 0 lo+·):=by
 have h1:=a7J n 0 (Nat.zero_le _) lo;have h2:=a7J n n (AN _) hi;have key:∀a b:Int,a=((HT.sIx n 0 lo:Nat):Int)->b=((HT.sIx n n hi:Nat):Int)->sliceRange a b 1=(Ab (HT.sIx n n hi - HT.sIx n 0 lo)).map (HT.sIx n 0 lo+·):=λa b ha hb=>by rw [ha,hb,sliceRange_one]
 refine key _ _ ?_ ?_
 ·cases lo with
  |none=>rfl
  |some i=>exact h1
 ·cases hi with
  |none=>rfl
  |some i=>exact h2
theorem c4y(z:Str)(lo hi:Υ Int):Txt.slice z lo hi=⟨(cut z.cps.toList lo hi).toArray⟩:=by
 have hz:z.cps.toList.length=z.length:=by simp [Str.length]
 unfold Txt.slice;rw [c3i,pick_run z.cps];split
 ·rename_i c;have c':HT.sIx z.length z.length hi - HT.sIx z.length 0 lo=z.length:=by
   simpa using c
  have hle:=HT.sIx_le z.length z.length (AN _) hi;unfold cut;rw [hz,c'];have:HT.sIx z.length 0 lo=0\/z.length=0:=by lia
  cases z with
  |mk a=>
   congr 1
   rcases this with h|h
   ·rw [h,List.drop_zero];have:a.toList.length=(⟨a⟩:Str).length:=hz;rw [<-this,List.take_length]
   ·have h0:a.toList=[]:=List.length_eq_zero_iff.mp (by rw [<-h];exact hz)
    have:a= #[]:=by
     apply Array.ext';rw [h0]
    subst this;simp
 ·unfold cut;rw [hz]
theorem b2k(items:Array AA)(lo hi:Υ Int):slicePick items lo hi ζ=(cut items.toList lo hi).toArray:=by
 have hz:items.toList.length=items.size:=by simp
 unfold slicePick cut;rw [hz];have key:∀a b:Int,a=((HT.sIx items.size 0 lo:Nat):Int)->b=((HT.sIx items.size items.size hi:Nat):Int)->(List.filterMap (items[·]?) (sliceRange a b 1)).toArray=((items.toList.drop (HT.sIx items.size 0 lo)).take (HT.sIx items.size items.size hi - HT.sIx items.size 0 lo)).toArray:=λa b ha hb=>by rw [ha,hb,sliceRange_one,pick_run]
 refine key _ _ ?_ ?_
 ·cases lo with
  |none=>rfl
  |some i=>exact a7J items.size 0 (Nat.zero_le _) (ξ i)
 ·cases hi with
  |none=>rfl
  |some i=>exact a7J items.size items.size (AN _) (ξ i)
theorem o0.cut{K:AE}{H:Hp}{ps:List PV}{xs:List V}(r:o0 K H ps xs)(lo hi:Υ Int):o0 K H (PU.cut ps lo hi) (PU.cut xs lo hi):=by
 unfold PU.cut;rw [r.length];exact(r.drop _).take _
theorem b3A{α:Type}(xs:List α)(lo hi:Υ Int):(cut xs lo hi).length<=xs.length:=by
 unfold cut;rw [List.length_take,List.length_drop];lia
theorem a6I{prog:AJ}{w:AH}{A:AM}{E:AA->AC->Prop}{s:AC}{t sl:AB}{items:Array AA}{vl vu:AA}{lo hi:Υ Int}{Q:AA->AC->Prop}(ht:IsTup s.heap t items)(hs:s.heap.IsSliceOf sl vl vu .none)(pl:IsPart vl lo)(pu:IsPart vu hi)
 (hw:HT.sIx items.size 0 lo=0/\HT.sIx items.size items.size hi=items.size)
 (h:Q (.ref t) s):AI (model prog w) A (getItem (.ref t) (.ref sl)) Q E s:=by
 obtain⟨os,hos,hcs,hds⟩:=id hs
 have hTs:s.TypeIs (.ref sl) "slice":=⟨os,hos,hcs⟩
 unfold getItem
 try with_reducible refine wpAny_holding ?_
 first|refine AO (Ae ?_)|skip
 refine AO (wpAny_sequenceKey ht.typeIs (by decide) ?_)
 refine AO (wpAny_callSpecial?_slot (name:=AQ "__getitem__") ht.typeIs PyProof.Rows.slot_tuple_getitem
  (wpAny_call_entry PyProof.Rows.slot_tuple_getitem ht.typeIs entry_tuple_getitem ?_ (args_tuple_getitem _ _)))
 show AI _ _ (Builtin.Tuple.tupleItemsOf (.ref t)>>=_) _ _ s
 refine AO (tupleItemsOf_ ht ?_)
 refine AO (wpAny_typeOf hTs ?_)
 rw [if_pos (by decide)]
 refine AO (HT.sliceApplied_gen hs pl pu ?_)
 have hno:(((HT.sIx items.size 0 lo:Nat):Int)==0 &&(1:Int)==1 &&(HT.sIx items.size items.size hi - HT.sIx items.size 0 lo)==items.size)=true:=by
  rw [hw.1,hw.2];simp
 show AI _ _ (if(((HT.sIx items.size 0 lo:Nat):Int)==0 &&(1:Int)==1 &&(HT.sIx items.size items.size hi - HT.sIx items.size 0 lo)==items.size)=true then _ else _) _ _ s
 rw [if_pos hno]
 refine AO (AO (m:=typeOf (.ref t)) (wpAny_typeOf ht.typeIs (Ae ?_)))
 rw [if_pos (by decide)]
 wp_walk
 exact⟨_,rfl,Ae h⟩
theorem c4x{X:Cx}:SlR X (λx lo hi H Q=>∃a xs,x= .ref a/\SqT X.K H a xs/\(HT.sIx xs.length 0 lo=0/\HT.sIx xs.length xs.length hi=xs.length)/\Q (.ref a) H):=by
 ext w
 refine⟨"tuple",_,PyProof.Rows.slot_tuple_getitem.lookup,ht.typeIs, ?_⟩;exact a6I ht hs pl pu (by rw [hlen];exact hw) ⟨.ref a,H,I,rfl,q⟩
theorem b9d{α:Type}{xs:List α}{lo hi:Υ Int}(h:HT.sIx xs.length 0 lo=0/\HT.sIx xs.length xs.length hi=xs.length):cut xs lo hi=xs:=by
 unfold cut;rw [h.1,h.2,List.drop_zero,Nat.sub_zero,List.take_length]
section
variable {X:Cx}
theorem b6X{h:Heap}{sl:AB}{vl vu:AA}{lo hi:Υ Int}(hs:h.IsSliceOf sl vl vu .none)(pl:IsPart vl lo)(pu:IsPart vu hi):∃l u:Υ (Int×Tok),h.IsSlice sl l u ζ/\l.map (·.1)=lo/\u.map (·.1)=hi:=by
 obtain⟨o,ho,hc,hd⟩:=hs;cases pl with
 |none=>
  cases pu with
  |none=>exact⟨ζ,ζ,⟨o,ho,hc,hd⟩,rfl,rfl⟩
  |int j t=>exact⟨ζ,ξ (j,t),⟨o,ho,hc,hd⟩,rfl,rfl⟩
 |int i t=>
  cases pu with
  |none=>exact⟨ξ (i,t),ζ,⟨o,ho,hc,hd⟩,rfl,rfl⟩
  |int j t'=>exact⟨ξ (i,t),ξ (j,t'),⟨o,ho,hc,hd⟩,rfl,rfl⟩
theorem c6A:SlR X (λx lo hi H Q=>∃z,x= .str z/\z.length<=AL/\Q (.str (Txt.slice z lo hi)) H):=by
 intro pins s σ H x v vl vu lo hi sl Q I rx hs pl pu h;obtain⟨z,rfl,hz,q⟩:=h;obtain⟨t,rfl⟩:=rx;obtain⟨l,u,hs',e1,e2⟩:=b6X hs pl pu;subst e1 e2;exact⟨"str",_,PySem.F.slot_str_getitem.lookup,typeIs_str _ _ _,wpAny_getItem_str_slice hs' rfl (post_val_or_str ⟨Nat.le_trans (Txt.slice_le z _ _) hz,λt' k=>⟨.str _,H,I.tok _,⟨_,rfl⟩,q⟩⟩)⟩
theorem c6z:SlR X (λx lo hi H Q=>∃a xs,x= .ref a/\SqL X.K H a xs/\∀p,H p=ζ->Q (.ref p) (upd H p (.lst (PU.cut xs lo hi)))):=by
 intro pins s σ H x v vl vu lo hi sl Q I rx hs pl pu h;obtain⟨a,xs,rfl,hx,q⟩:=h;cases rx;obtain⟨its,r,pl',hz⟩:=I.list hx;have hlen:=r.length;refine⟨"list",_,list_getitem_lookup,pl'.isList.typeIs, ?_⟩;refine wpAny_getItem_list_slice pl'.isList hs pl pu .none (by simp) ?_ (by rw [Aj];lia)
 rw [b2k];refine⟨.ref s.heap.objs.size,_,I.laid (t':=s.toks) (o:= .lst (PU.cut xs lo hi)) (λb ob q=>Am _ q) (AN _) ?_,rfl,q _ (I.hok.fresh (AN _))⟩;refine⟨Nat.le_trans (b3A xs lo hi) hz,PU.cut its lo hi,0, ?_,At _ rfl⟩;unfold PU.cut;rw [hlen];exact(r.drop _).take _
def gSl(x:d4)(lo hi:Υ Int):Υ d4:=match x with
 | .v (.str z)=>if z.length<=AL then ξ (.v (.str ⟨(cut z.cps.toList lo hi).toArray⟩)) else ζ
 | .v (.tuple ps)=>ξ (.v (.tuple (cut ps lo hi)))
 | .v (.list ps)=>ξ (.own (cut ps lo hi))
 | .ow (.lst ps)=>ξ (.own (cut ps lo hi))
 | .bo (.lst ps)=>ξ (.own (cut ps lo hi))
 |_=>ζ
def rSl(K:AE):V->Υ Int->Υ Int->Hp->VK->Prop:=λx lo hi H Q=>∃F rx rz,m5 F H/\U1 K F H x rx/\gSl rx lo hi=ξ rz/\∀v F' H',B4 K F H F' H' v rz->Q v H'
theorem slm:SlR X (rSl X.K):=by
 intro pins s σ H x v vl vu lo hi sl Q I rx hs pl pu h;obtain⟨F,ra,rz,s0,h1,h2,k⟩:=h;have lst:∀ps,PyData.items? ra.rd=ξ ps->(∃a xs,x= .ref a/\SqL X.K H a xs/\o0 X.K F ps xs)->rz= .own (cut ps lo hi)->∃T id,typeLookup (.type T) "__getitem__"=pure (ξ (.builtin id))/\s.TypeIs v T/\AI (model X.prog X.w) X.A (getItem v (.ref sl)) (EP X pins σ Q) X.xe s:=λps e ⟨a,xs,e1,hq,rl⟩ e2=>by
  subst e2;exact c6z pins s σ H x v vl vu lo hi sl Q I rx hs pl pu ⟨a,xs,e1,hq,λp hp=>k _ _ _ (B4.lst s0 hp (rl.cut lo hi))⟩
 unfold gSl at h2;split at h2
 ·rename_i z;split at h2
  ·rename_i c;cases h2;cases h1;refine c6A pins s σ H _ v vl vu lo hi sl Q I rx hs pl pu ⟨z,rfl,c, ?_⟩;rw [c4y];exact k _ F H (B4.here s0 rfl)
  ·cases h2
 ·rename_i ps;cases h2
  by_cases c:HT.sIx ps.length 0 lo=0/\HT.sIx ps.length ps.length hi=ps.length
  ·obtain⟨a,xs,rfl,hq,rl⟩:=h1;have hlen:=rl.length;refine c4x pins s σ H _ v vl vu lo hi sl Q I rx hs pl pu ⟨a,xs,rfl,A7 s0 hq.sq,by rw [hlen];exact c, ?_⟩
   rw [b9d c] at k;exact k _ F H (B4.here s0 ⟨a,xs,rfl,hq,rl⟩)
  ·obtain⟨a,xs,rfl,hq,rl⟩:=h1;have hlen:=rl.length;refine c6B pins s σ H _ v vl vu lo hi sl Q I rx hs pl pu ⟨a,xs,rfl,A7 s0 hq.sq,by rw [hlen];exact c,λp hp=> ?_⟩
   exact k _ _ _ (B4.tup s0 hp (rl.cut lo hi))
 ·rename_i ps;cases h2;obtain⟨a,xs,e1,hq,rl⟩:=h1;exact lst ps rfl ⟨a,xs,e1,Y1 s0 hq,rl⟩ rfl
 ·rename_i ps;cases h2;obtain⟨a,xs,e1,_,hq,rl⟩:=h1;exact lst ps rfl ⟨a,xs,e1,SqL.of hq,rl⟩ rfl
 ·rename_i ps;cases h2;obtain⟨a,xs,e1,_,hq,rl⟩:=h1;exact lst ps rfl ⟨a,xs,e1,SqL.of hq,rl⟩ rfl
 ·cases h2
abbrev MO:=c9->Υ (Υ Int)
def tMO(K:AE)(m:MO):TO:=λσ H Q=>∃F ρ o,M6 K F H σ ρ/\m ρ=ξ o/\∀F' H',Ext F H F' H'->Q o H'
abbrev EO(X:Cx)(e:Υ AF)(m:MO):Prop:=PO X e (tMO X.K m)
def P6:MO:=λ_=>ξ ζ
def b8e:d4->Υ (Υ Int)
 | .v (.int i)=>ξ (ξ i)
 |_=>ζ
def A2(m:M):MO:=λρ=>(m ρ).bind b8e
theorem a0x:EO X ζ P6:=λpins s σ H Q I ⟨F,ρ,o,en,e,k⟩=>by
 cases e;exact c4h pins s σ H Q I (k F H (Ext.refl en.fh))
theorem G0{e:AF}{m:M}(h:EE X e m):EO X (ξ e) (A2 m):=λpins s σ H Q I ⟨F,ρ,o,en,e1,k⟩=>by
 obtain⟨r,e2,e3⟩:=bind_some e1;refine c4i h pins s σ H Q I ⟨F,ρ,r,en,e2,λv F1 H1 o1=> ?_⟩;unfold b8e at e3;split at e3
 ·cases e3;exact⟨_,o1.rep,k F1 H1 o1.x⟩
 ·cases e3
def F9(m:M)(lo hi:MO):M:=λρ=>(m ρ).bind λr=>(lo ρ).bind λl=>(hi ρ).bind λh=>gSl r l h
theorem J8{e:AF}{lo hi:Υ AF}{m:M}{ml mh:MO}{pos p2:Pos}(he:EE X e m)(hl:EO X lo ml)(hh:EO X hi mh):EE X (.Subscript e (.Slice lo hi ζ p2) pos) (F9 m ml mh):=
 B9 (c17 slm he hl hh) λσ H Q h0=>A1 h0 λF ρ r en e k=>by
  obtain⟨ra,e1,e⟩:=bind_some e;obtain⟨l,e2,e⟩:=bind_some e;obtain⟨h,e3,e⟩:=bind_some e;exact⟨F,ρ,ra,en,e1,λv F1 H1 o1=>⟨F1,ρ,l,en.ext o1.x,e2,λF2 H2 x2=>⟨F2,ρ,h,(en.ext o1.x).ext x2,e3,λF3 H3 x3=>⟨F3,ra,r,x3.fh,(o1.rep.ext x2).ext x3,e,λz F4 H4 o4=>k z F4 H4 (B4.trans ((o1.x.trans x2).trans x3) o4)⟩⟩⟩⟩
end
def Its(x:Str):It:=⟨λi _=>i<x.cps.size,λi H v H'=>H'=H/\∃c,x.cps[i]?=ξ c/\v= .str ⟨#[c]⟩,λi _=>x.cps.size<=i⟩
theorem b1V{P:AJ}{w:AH}{K:AE}{tg:AF}(b:Bool)(it:AB)(x:Str)(t:Tok):b6t P w K tg (Its x) [it] it (λi h=>h.IsStrIter it (if b then "str_ascii_iterator" else "str_iterator") x t i) where
 mem:=by simp
 obj:=λi h st c hb=>by
  have e:c=it:=by simpa using hb
  subst e;obtain⟨o,e,c,d⟩:=st;exact⟨o,e,λv z=>by rw [d] at z;cases z⟩
 keep:=λi h h' st k=>let ⟨o,e,r⟩:=st;⟨o,k it (by simp) o e,r⟩
 item:=by
  ext h
  ext o
  have hg:i<x.cps.size:=hg;have hx:x.cps[i]?=ξ x.cps[i]:=by simp [hg]
  have fin:∀h':Heap,h'.IsStrIter it (if b then "str_ascii_iterator" else "str_iterator") x t (i+1)->Heap.SameBut it s.heap h'->∃u,ξ (Value.str ⟨#[x.cps[i]]⟩ s.toks)=ξ u/\
   AI (model X.prog X.w) X.A (letOwnedTupleGo tg (.ref it) u) (λ_ s2=>∃y H',m6 X pins σ H' s2/\z7 y u/\(Its x).yld i H y H'/\s2.heap.IsStrIter it (if b then "str_ascii_iterator" else "str_iterator") x t (i+1)/\∀b∈[it],H' b=ζ) E {s with heap:=h',toks:=s.toks+1}:=λh' st' sb=>by
   have I1:m6 X pins σ H {s with heap:=h',toks:=s.toks+1}:=I.turned (λb o hb e=>(sb.2 b hb).trans e) f0 f1 f3 f4 f5
   obtain⟨o,e,c,d⟩:=id st'
   refine⟨_,rfl,b8d (s:={s with heap:=h',toks:=s.toks+1}) (n:=if b then "str_ascii_iterator" else "str_iterator") e c d (by cases b<;>decide) ⟨.str ⟨#[x.cps[i]]⟩,H,I1,⟨_,rfl⟩,⟨rfl,_,hx,rfl⟩,st',λb hb=>(hf b hb).1⟩⟩
  cases b with
  |true=>exact wpAny_pyNext_ascii_item st hx λh' a b=>fin h' a b
  |false=>exact wpAny_pyNext_wide_item st hx λh' a b=>fin h' a b
 done:=by
   ext h
   ext o
   have hg:x.cps.size<=i:=hg;have hx:x.cps[i]?=ζ:=by simp [hg]
   cases b with
   |true=>exact wpAny_pyNext_ascii_end (I.ok.hd hc) st hx λh' eb=>⟨rfl,I.turned (t':=s.toks) (λb o hb e=>eb b o hb e) f0 f1 f3 f4 f5⟩
   |false=>exact wpAny_pyNext_wide_end (I.ok.hd hc) st hx λh' eb=>⟨rfl,I.turned (t':=s.toks) (λb o hb e=>eb b o hb e) f0 f1 f3 f4 f5⟩
 self:=λ_ _ _ _ _ st h=>by
  cases b with
  |true=>exact wpAny_pyIter_striter_ascii st h
  |false=>exact wpAny_pyIter_striter_wide st h
section
variable {X:Cx}{tg:AF}
def c7U(tl:TE):TI:=λσ H R=>tl σ H λx H1=>∃z,x= .str z/\R (Its z) H1
theorem c6l{l:AF}{tl:TE}(hl:PE X l tl):PI X tg l (c7U tl):=by
 ext ab
 obtain⟨z,e,q⟩:=q1;subst e;obtain⟨t,rfl⟩:=r1;have fin:∀b:Bool,PIE X pins σ tg R (.ref s1.heap.objs.size) {s1 with heap:=s1.heap.push {cls:= .type (if b then "str_ascii_iterator" else "str_iterator"),data:= .fields #[.str z t,.int 0 0]}}:=λb=>by
  refine⟨s1.heap.objs.size,[s1.heap.objs.size],_,_,H1,rfl,I1.kept (t':=s1.toks) λb o e=>Am _ e,b1V b _ z t,⟨_,At _ rfl,rfl,rfl⟩,λc hb=> ?_,q⟩;have e:c=s1.heap.objs.size:=by simpa using hb
  subst e;exact I1.fpOk (AN _) (I1.hok.fresh (AN _))
 cases ha:z.cps.all (· <128)
 ·exact wpAny_pyIter_wide ha (fin false)
 ·exact wpAny_pyIter_ascii ha (fin true)
structure c6Q(K:AE)(F:Hp)(J:It)(ps:List PV):Prop where
 st:∀i H',m5 F H'->ps.length<=i->J.stop i H'
 go:∀i p H',m5 F H'->ps[i]?=ξ p->J.go i H'
 yd:∀i p x H' H'',m5 F H'->ps[i]?=ξ p->J.yld i H' x H''->H''=H'/\J7 K F p x
def SIF(K:AE)(mi:MI)(wi:TI):Prop:=∀F H σ ρ ps (R:It->Hp->Prop),M6 K F H σ ρ->mi ρ=ξ ps->(∀F1 H1 J,Ext F H F1 H1->c6Q K F1 J ps->R J H1)->wi σ H R
abbrev EIF(X:Cx)(tg iter:AF)(mi:MI):Prop:=∃wi,PI X tg iter wi/\SIF X.K mi wi
theorem EIF.ei{iter:AF}{mi:MI}(h:EIF X tg iter mi):EI X tg iter mi:=by
 obtain⟨wi,h1,h2⟩:=h;exact⟨wi,h1,λF H σ ρ ps R en e k=>h2 F H σ ρ ps R en e λF1 H1 J x S=>k F1 H1 J x ⟨λi H' s=>S.st i H' (x.fh.trans s),λi p H' s=>S.go i p H' (x.fh.trans s),λi p y H' H'' s=>S.yd i p y H' H'' (x.fh.trans s)⟩⟩
def a7f(m:M):MI:=λρ=>(m ρ).bind λr=>match r with
 | .v (.str z)=>ξ (z.cps.toList.map λc=> .str ⟨#[c]⟩)
 |_=>ζ
theorem b70{l:AF}{m:M}(h:EE X l m):EIF X tg l (a7f m):=⟨_,c6l h,λF H σ ρ ps R en e k=>by
 obtain⟨r,e1,e2⟩:=bind_some e;refine⟨F,ρ,r,en,e1,λv F1 H1 o1=> ?_⟩;split at e2
 ·rename_i z;cases e2;cases o1.rep;refine⟨z,rfl,k F1 H1 _ o1.x ⟨λi H2 s h=> ?_,λi p H2 s h=> ?_,λi p x H2 H3 s h y=> ?_⟩⟩
  ·have h:z.cps.size<=i:=by simpa using h
   exact h
  ·have:=(Av.mp h).1;have h:i<z.cps.size:=by simpa using this
   exact h
  ·obtain⟨e,c,hc,rfl⟩:=y;refine⟨e, ?_⟩;rw [Az,Array.getElem?_toList,hc] at h;cases h
   rfl
 ·cases e2⟩
theorem c05{K:AE}{F:Hp}{J:It}{ps:List PV}{g:TG}{tb:TS}{D:a2O}{σ:L2.St}{H:Hp}(S:c6Q K F J ps)(Pv:Nat->L2.St->Hp->Prop)(h0:Pv 0 σ H)(hl:∀i σ H,Pv i σ H->m5 F H)
 (hs:∀i p x σ H,ps[i]?=ξ p->J7 K F p x->Pv i σ H->g x σ H λσ2 H2=>tb {D with nx:=Pv (i+1),ct:=Pv (i+1),bk:=D.nx} σ2 H2) (hd:∀σ H,Pv ps.length σ H->D.nx σ H):
 ∃W:Nat->Nat->L2.St->Hp->Prop,(∃m,W 0 m σ H)/\∀i m σ H,W i m σ H->
  (J.stop i H/\D.nx σ H)\/(J.go i H/\∃N:L2.St->Hp->Prop,(∀σ' H',N σ' H'->∃m',m'<m/\W (i+1) m' σ' H')/\∀x H',J.yld i H x H'->g x σ H' λσ2 H2=>tb {D with nx:=N,ct:=N,bk:=D.nx} σ2 H2):=by
 refine⟨λi m σ H=>m=ps.length - i/\i<=ps.length/\Pv i σ H,⟨ps.length,by simp,Nat.zero_le _,h0⟩, ?_⟩
 rintro i m σ H ⟨rfl,hi,p⟩
 have q:=hl i σ H p
 by_cases hlt:i<ps.length
 ·have e:ps[i]?=ξ ps[i]:=by simp [hlt]
  refine .inr ⟨S.go i ps[i] H q e,Pv (i+1),λσ' H' p'=>⟨ps.length - (i+1),by lia,rfl,hlt,p'⟩,λx H' y=> ?_⟩
  obtain⟨e2,rx⟩:=S.yd i ps[i] x H H' q e y
  subst e2
  exact hs i ps[i] x σ _ e rx p
 ·have e:i=ps.length:=by lia
  subst e
  exact .inl ⟨S.st _ H q (AN _),hd σ H p⟩
theorem c3t{iter:AF}{body:List Stmt}{mi:MI}{g:TG}{t:PV->c9->Υ c9}{b:MS}{pos:Pos}(hp:PassesOwn (model X.prog X.w) X.A X.env X.xe)(hc:X.calm=true)(hi:EIF X tg iter mi)(hg:PG X tg g)(T:b82 X.K g t)(hb:ESs X body b)
 (hs:∀x,foldedSetIterable iter X.env x=pure x:=by intro _;rfl):ES X (.For tg iter body [] pos) (X1 mi t b):=by
 obtain⟨wi,h1,h2⟩:=hi
 exact G9 (b1x hp hc h1 hg hb hs) λD σ H h0=>L8 h0 λF0 H0 F ρ fl so e fin=>by
  obtain⟨ps,e1,e⟩:=bind_some e;refine h2 F H σ ρ ps _ so.e e1 λF1 H1 J x S=> ?_;have fin1:=fin.later x.f;refine c05 S (PvL X.K F0 H0 F1 b t ps fl) ⟨F1,ρ,PU.m5.refl F1,so.ext x,e⟩ (λi σ H ⟨F2,_,s,so2,_⟩=>s.trans so2.e.fh) (λi p y σ H ep rp hp=> ?_) (λσ H hp=>a5K fin1 hp);exact a3W T fin1 ep hp λF2 s=>J7.mono s _ rp
def a0t:List PV->Υ (List Bool)
 |[]=>ξ []
 | .bool b::r=>(a0t r).map (b::·)
 |_=>ζ
theorem a9G:∀bs:List Bool,a0t (bs.map .bool)=ξ bs
 |[]=>rfl
 |b::bs=>by rw [AG];simp only [a0t,a9G bs,Ar]
theorem a9H{K:AE}{H:Hp}:∀{ps:List PV} {bs:List Bool} {xs:List V} {us:List AA},a0t ps=ξ bs->o0 K H ps xs->v7 xs us->us=bs.map Value.bool
 |[],_,_,_,h,r,v=>by cases h;cases r;cases v;rfl
 |p::ps,bs,_,_,h,⟨x,r,e,hp,t⟩,v=>by
  subst e;cases p with
  |bool z=>
   simp only [a0t] at h;cases q:a0t ps with
   |none=>rw [q] at h;cases h
   |some zs=>
    rw [q] at h;cases h;cases hp;cases v with
    |cons a b=>rw [a9H q t b,show _=_ from a];rfl
  |_=>simp [a0t] at h
def c1d(x:d4):Υ d4:=match x.rd with
 | .list ps=>(a0t ps).map λbs=> .v (.bool (bs.all id))
 |_=>ζ
theorem b95(bs:List Bool):(Ab bs.length).all (λi=>bs.getD i false)=bs.all id:=by
 rw [Bool.eq_iff_iff,List.all_eq_true,List.all_eq_true];constructor
 ·intro h b hb;obtain⟨i,hi,rfl⟩:=List.getElem_of_mem hb;have:=h i (List.mem_range.mpr hi)
  simpa [List.getD,hi] using this
 ·intro h i hi;have hi:=List.mem_range.mp hi;have:=h bs[i] (List.getElem_mem _)
  simpa [List.getD,hi] using this
theorem b96(bs:List Bool):(Ab bs.length).any (λi=>bs.getD i false)=bs.any id:=by
 rw [Bool.eq_iff_iff,List.any_eq_true,List.any_eq_true];constructor
 ·rintro⟨i,hi,h⟩;have hi:=List.mem_range.mp hi;exact⟨bs[i],List.getElem_mem _,by simpa [List.getD,hi] using h⟩
 ·rintro⟨b,hb,h⟩;obtain⟨i,hi,rfl⟩:=List.getElem_of_mem hb;exact⟨i,List.mem_range.mpr hi,by simpa [List.getD,hi] using h⟩
theorem b6z{pins:List (AB×Obj)}{σ:L2.St}{H:Hp}{s:AC}{a:AB}{xs:List V}{ps:List PV}{bs:List Bool}{F:Hp}(hc:X.calm=true)(I:m6 X pins σ H s)(hq:SqL X.K H a xs)(r:o0 X.K F ps xs)(e:a0t ps=ξ bs){E:AA->AC->Prop}{Q:AA->AC->Prop}(c:Bool)
 (h:∀h' tk,(∀b o,b∉[s.heap.objs.size]->(s.heap.push {cls:= .type "list_iterator",data:= .fields #[.ref a,.int 0 0]}).get? b=ξ o->h'.get? b=ξ o)->Q (.bool (if c then bs.all id else bs.any id)) {s with heap:=h',toks:=tk}):
 AI (model X.prog X.w) X.A.in1 (pyIter (.ref a)) (λit s₂=>∃I fp wr n P St tr,it= .ref I/\Walks X.prog X.w X.A.in1 I fp wr n P St/\St 0 s₂.heap/\TruthOf X.prog X.w X.A.in1 P tr/\
  ∀h' tk,(∀b o,b∉wr->s₂.heap.get? b=ξ o->h'.get? b=ξ o)->Q (.bool (if c then(Ab n).all tr else(Ab n).any tr)) {s₂ with heap:=h',toks:=tk}) E s:=by
 obtain⟨its,rv,pl,hz⟩:=I.list hq
 have eb:=a9H e r rv
 have hlt:a<s.heap.objs.size:=by obtain⟨_,e,_⟩:=pl.isList;exact Ag e
 refine wpAny_pyIter_list pl.isList ?_
 refine⟨s.heap.objs.size,[s.heap.objs.size,a],[s.heap.objs.size],its.toArray.size,_,_,λi=>bs.getD i false,rfl,Walks.list (by show X.A.handled=ζ;exact I.ok.hd hc) s.heap.objs.size a (As hlt) its.toArray,⟨⟨_,At _ rfl,rfl,rfl⟩,pl.isList.push _⟩,λi v s' Q E hv hQ=> ?_,λh' tk hk=> ?_⟩
 ·rw [eb] at hv
  have hv:(bs.map Value.bool)[i]?=ξ v:=by simpa using hv
  rw [Az] at hv
  cases q:bs[i]? with
  |none=>rw [q] at hv;cases hv
  |some z=>
   rw [q] at hv;cases hv
   have:bs.getD i false=z:=by simp [List.getD,q]
   have hQ:Q (bs.getD i false) s':=hQ
   rw [this] at hQ
   exact Ae hQ
 ·have hn:its.toArray.size=bs.length:=by rw [eb];simp
  rw [hn,b95,b96]
  exact h h' tk hk
theorem c5m(hc:X.calm=true):T4 X (.builtin "all") (rC1 X.K c1d):=by
 ext d
 obtain⟨u,rfl,ru⟩:=a5f rv;unfold c1d at h2;split at h2
 ·rename_i ps ep;cases e:a0t ps with
  |none=>rw [e] at h2;cases h2
  |some bs=>
   rw [e] at h2;cases h2;obtain⟨a,xs,rfl,hq,r⟩:=a0l (ps:=ps) s0 h1 (by rw [ep];rfl)
   have hq:SqL X.K H a xs:=by
    have rr:=h1.rd s0;rw [ep] at rr;obtain⟨a',xs',e1,hq',rl⟩:=rr;cases e1;rcases hq with hq|hq
    ·exact hq
    ·exact(a5P I hq' hq).elim
   cases ru;exact call_all_walk (b6z hc I hq r e true λh' tk hk=>⟨.bl _,H,I.turned (it:=s.heap.objs.size) (λb o hb e=>hk b o (by simpa using hb) (Am _ e)) (I.hok.fresh (AN _)) (Nat.ne_of_gt I.lt) (.inr I.sz) (λx c e=>by obtain⟨v,z⟩:=I.cell x c e;exact As z.lt) (λp hp=>As (Ag (I.pin p hp).1)),rfl,k _ F H (B4.here s0 rfl)⟩)
 ·cases h2
end
def b3K:d4->d4->Υ d4
 | .v (.int i),.v (.int j)=>ξ (.v (.bool (decide (i<j))))
 | .v (.str i),.v (.str j)=>ξ (.v (.bool (decide (i.cps.toList<j.cps.toList))))
 |_,_=>ζ
def a2s:d4->d4->Υ d4
 | .v (.int i),.v (.int j)=>ξ (.v (.bool (decide (i<=j))))
 | .v (.str i),.v (.str j)=>ξ (.v (.bool (!decide (j.cps.toList<i.cps.toList))))
 |_,_=>ζ
section
variable {X:Cx}
theorem b4f:OpM X (compareOp .Lt) b3K:=by
 ext b
 unfold b3K at h3;split at h3
 ·cases h3;cases h1;cases h2;exact c7i pins s σ H _ _ v u Q I rx ry ⟨_,_,rfl,rfl,k _ F H (B4.here s0 rfl)⟩
 ·cases h3;cases h1;cases h2;exact b9Z pins s σ H _ _ v u Q I rx ry ⟨_,_,rfl,rfl,k _ F H (B4.here s0 rfl)⟩
 ·cases h3
theorem a1q:OpM X (compareOp .LtE) a2s:=by
 ext b
 unfold a2s at h3;split at h3
 ·cases h3;cases h1;cases h2;exact c7h pins s σ H _ _ v u Q I rx ry ⟨_,_,rfl,rfl,k _ F H (B4.here s0 rfl)⟩
 ·cases h3;cases h1;cases h2;obtain⟨t,rfl⟩:=rx;obtain⟨t',rfl⟩:=ry;exact PySem.P.le_str ⟨.bl _,H,I,rfl,k _ F H (B4.here s0 rfl)⟩
 ·cases h3
def a1U(neg:Bool)(x y:d4):Υ d4:=match x,y with
 | .v (.bool a),.v (.bool b)=>ξ (.v (.bool (if neg then !(a==b) else a==b)))
 |x,y=>c5y neg x y
theorem c1w{a b:Bool}{M:Model}{A:AM}{E:AA->AC->Prop}{s:AC}{Q:AA->AC->Prop}(h:Q (.bool (a==b)) s):AI M A (compareOp .Is (.bool a) (.bool b)) Q E s:=by
 refine wpAny_is_plain (by cases a<;>cases b<;>rfl) ?_
 have e:(Value.bool a==Value.bool b)=(a==b):=by cases a<;>cases b<;>rfl
 rw [e];exact h
theorem Y9:OpM X (compareOp .Is) (a1U false):=by
 ext b
 unfold a1U at h3;split at h3
 ·cases h3;cases h1;cases h2;cases rx;cases ry;exact c1w ⟨.bl _,H,I,rfl,k _ F H (B4.here s0 rfl)⟩
 ·exact c4a pins s σ H x y v u Q I rx ry ⟨F,_,_,rz,s0,h1,h2,h3,k⟩
def b5c:d4->d4->Υ d4
 | .v (.str z),.v (.int k)=>if okC (λk n=>0<=k/\k<=1000000/\n*k<=16777216) k z.length=true then ξ (.v (.str ⟨(AV k.toNat z.cps.toList).flatten.toArray⟩)) else ζ
 | .ow (.lst ps),.v (.int k)=>if okC (λk n=>0<=k/\k<=1000000/\n*k<=16777216) k ps.length=true then ξ (.own (AV k.toNat ps).flatten) else ζ
 |x,y=>c5z x y
theorem b0X(xs:List Nat):∀(m:Nat) (acc:Array Nat),(AV m xs.toArray).foldl (· ++·) acc=acc++(AV m xs).flatten.toArray
 |0,acc=>by simp
 |m+1,acc=>by
  rw [Ac,List.foldl_cons,b0X xs m,Ac,List.flatten_cons];apply Array.ext';simp
theorem c4N{z:Str}{k:Int}(h0:0<=k):Txt.mul z k=⟨(AV k.toNat z.cps.toList).flatten.toArray⟩:=by
 unfold Txt.mul
 by_cases h1:k<1
 ·have:k=0:=by lia
  subst this
  rfl
 ·rw [if_neg h1]
  by_cases h2:(k==1||z.length==0)=true
  ·rw [if_pos h2];rw [Bool.or_eq_true] at h2;cases z with
   |mk a=>
    rcases h2 with h2|h2
    ·have:k=1:=by simpa using h2
     subst this;show(⟨a⟩:Str)=_
     congr 1
     apply Array.ext';simp
    ·have ha:a.size=0:=by simpa [Str.length] using h2
     have:a= #[]:=Array.eq_empty_of_size_eq_zero ha;subst this
     congr 1
     apply Array.ext';simp
  ·rw [if_neg h2];have e:z.cps=z.cps.toList.toArray:=by simp
   congr 1
   rw [e,b0X];simp
theorem b1A{K:AE}{H:Hp}{ps:List PV}{xs:List V}(r:o0 K H ps xs):∀m:Nat,o0 K H (AV m ps).flatten (AV m xs).flatten
 |0=>rfl
 |m+1=>by
  rw [Ac,Ac,List.flatten_cons,List.flatten_cons];exact r.append (b1A r m)
theorem c11:OpM X (binaryOp .Mult) b5c:=by
 ext b
 unfold b5c at h3;split at h3
 ·rename_i z n;split at h3
  ·rename_i c;obtain⟨c0,c1,c2⟩:=a28.mp c;cases h3;cases h1;cases h2;obtain⟨t,rfl⟩:=rx;obtain⟨t',rfl⟩:=ry;have hz:z.length*n.toNat<=AL:=by
    rw [sizeLine_eq];have:((z.length*n.toNat:Nat):Int)=z.length*n:=by rw [Int.natCast_mul,Int.toNat_of_nonneg c0]
    lia
   refine SB.mul ⟨?_,λh4 h5 h6=> ?_,λh4 h5=> ?_⟩ λt' k'=>⟨.str _,H,I.tok _,⟨_,rfl⟩, ?_⟩
   ·have e1:¬n< -(2 ^ 63:Int):=by lia
    have e2:¬n>=2 ^ 63:=by lia
    simp [e1,e2]
    lia
   ·have h7:(2 ^ 63 - 1:Int)/ n<z.length:=h6;have h8:(2 ^ 63 - 1:Int)<(z.length:Int)*n:=by
     have:=Int.lt_mul_of_ediv_lt (a:=(2 ^ 63 - 1:Int)) (b:=(z.length:Int)) (c:=n) (by lia) h7
     exact this
    lia
   ·unfold Builtin.Str.tooLong;rw [decide_eq_false (by lia)]
   ·rw [c4N c0];exact k _ F H (B4.here s0 rfl)
  ·cases h3
 ·rename_i ps n;split at h3
  ·rename_i c;obtain⟨c0,c1,c2⟩:=a28.mp c;cases h3;cases h2;obtain⟨a,xs,rfl,fa,hq,rl⟩:=h1;have hlen:=rl.length;have hz:xs.length*n.toNat<=AL:=by
    rw [sizeLine_eq,hlen];have:((ps.length*n.toNat:Nat):Int)=ps.length*n:=by rw [Int.natCast_mul,Int.toNat_of_nonneg c0]
    lia
   exact c54 pins s σ H _ _ v u Q I rx ry ⟨a,n,xs,rfl,rfl,hq,by lia,by lia,hz,λp hp=>k _ _ _ (B4.lst s0 hp (b1A rl _))⟩
  ·cases h3
 ·exact c10 pins s σ H x y v u Q I rx ry ⟨F,_,_,rz,s0,h1,h2,h3,k⟩
def b00(x:d4):Υ d4:=match x with
 | .v (.str z)=>if z.length<=AL then ξ (.own (z.cps.toList.map λc=> .str ⟨#[c]⟩)) else ζ
 |x=>c1j x
theorem b4R(hc:X.calm=true):T4 X (.type "list") (rC1 X.K b00):=by
 intro pins s σ H xs us Q I rv h;obtain⟨F,x,rx,rz,e0,s0,h1,h2,k⟩:=h;unfold b00 at h2;split at h2
 ·rename_i z;split at h2
  ·rename_i c;cases h2;cases h1;subst e0;obtain⟨u,rfl,t,rfl⟩:=a5f rv;refine call_list_str (I.ok.hd hc) z t (λh' tk acc' c' kp e ia=> ?_) (by exact c)
   obtain⟨ia1,ia2⟩:=ia;have hv:v7 (z.cps.toList.map λc=>V.str ⟨#[c]⟩) acc'.toList:=by
    have key:∀(cs:List Nat) (us:List AA),us.length=cs.length->(∀(i:Nat) v,us[i]?=ξ v->∃c u,cs[i]?=ξ c/\v= .str ⟨#[c]⟩ u)->v7 (cs.map λc=>V.str ⟨#[c]⟩) us:=by
     intro cs
     induction cs with
     |nil=>
      intro us h1 h2;have:us=[]:=List.length_eq_zero_iff.mp h1;subst this;exact .nil
     |cons c cs ih=>
      intro us h1 h2;cases us with
      |nil=>cases h1
      |cons w us=>
       obtain⟨c',u,e1,e2⟩:=h2 0 w rfl;simp at e1;subst e1;exact .cons ⟨u,e2⟩ (ih us (by simpa using h1) λi v hv=>by simpa using h2 (i+1) v (by simpa using hv))
    refine key _ _ (by simpa using ia1) λi v hv=> ?_
    have hv':acc'[i]?=ξ v:=by simpa using hv
    obtain⟨c,u,e1,e2⟩:=ia2 i v hv';exact⟨c,u,by simpa using e1,e2⟩
   have hlen:(z.cps.toList.map λc=>V.str ⟨#[c]⟩).length<=AL:=by rw [AZ];simpa [Str.length] using c
   refine⟨.ref s.heap.objs.size,_,I.laid (t':=tk) kp (AN _) (show Q1 X.prog X.w _ h' _ (.lst (z.cps.toList.map λc=>V.str ⟨#[c]⟩)) from⟨hlen,acc'.toList,c',hv,by rw [e]⟩),rfl,k _ _ _ (B4.lst s0 (I.hok.fresh (AN _)) ?_)⟩
   have:∀cs:List Nat,o0 X.K F (cs.map λc=>PyData.str ⟨#[c]⟩) (cs.map λc=>V.str ⟨#[c]⟩):=by
    intro cs
    induction cs with
    |nil=>rfl
    |cons c cs ih=>exact⟨_,_,rfl,rfl,ih⟩
   exact this _
  ·cases h2
 ·exact c3f pins s σ H xs us Q I rv ⟨F,x,_,rz,e0,s0,h1,h2,k⟩
theorem o0.set{K:AE}{H:Hp}{p:PV}{v:V}(h:J7 K H p v):∀{ps:List PV} {xs:List V} (j:Nat),o0 K H ps xs->o0 K H (ps.set j p) (xs.set j v)
 |[],_,_,r=>by cases r;exact rfl
 |_::ps,_,0,⟨w,t,e,_,rl⟩=>by subst e;exact⟨v,t,rfl,h,rl⟩
 |q::ps,_,j+1,⟨w,t,e,hq,rl⟩=>by subst e;exact⟨w,_,rfl,hq,o0.set h j rl⟩
def c2t(i:Nat)(ρ:c9)(p:PV)(r:d4):Υ Fl:=match ρ[i]?,r with
 |some (ξ (.ow (.lst ps))),.v (.int z)=>(ixN ps.length z).bind λj=>ξ (.nx (ρ.set i (ξ (.own (ps.set j p)))))
 |_,_=>ζ
def b62(i:Nat)(mi mv:M):MS:=λρ=>((mv ρ).bind d4.toVal).bind λp=>(mi ρ).bind (c2t i ρ p)
theorem c0Z(i:Nat){x:Str}{p tp pos:Pos}{ie e:AF}{mi mv:M}(hx:PE X (.Name x p) (a2P i))(hi:EE X ie mi)(he:EE X e mv)
 (ha:∀v,assign (.Subscript (.Name x p) ie tp) X.env v=(do
  let ov<-holding [v] (eval (.Name x p) X.env)
  let iv<-holding [v,ov] (eval ie X.env)
  standAt tp
  holding [v,ov,iv] (setItem ov iv v)
  release [v,ov,iv] []):=by intro _;rfl)
 (hs:swapsWithSole [.Subscript (.Name x p) ie tp] e pos.line X.env=pure false:=by rfl) (hw:swappedStores [.Subscript (.Name x p) ie tp] e X.env=pure ζ:=by rfl)
 (h1:(assignEach [.Subscript (.Name x p) ie tp] X.env).map (·.2)=[assign (.Subscript (.Name x p) ie tp) X.env]:=by rfl):ES X (.Assign [.Subscript (.Name x p) ie tp] e pos) (b62 i mi mv):=
 G9 (c19 he (c6i hx hi c2w ha) hs hw h1) λD σ H h0=>L8 h0 λF0 H0 F ρ fl so e fin=>by
  ext ad
  obtain⟨ri,e4,e⟩:=bind_some e
  ext n
  unfold c2t at e;split at e
  ·rename_i ps z eo;obtain⟨j,e5,e⟩:=bind_some e;cases e;obtain⟨w,hw1,a,xs,rfl,fa,ha',rl⟩:=so2.e.at_ i _ eo;refine⟨.ref a,hw1,F2,ρ,_,so2.e,e4,λu F3 H3 o3=> ?_⟩;cases o3.rep;have so3:=so2.ext o3.x;have ha3:=o3.x.h _ _ ha';refine⟨a,xs,z,j,rfl,rfl,ha3,by rw [rl.length];exact e5, ?_⟩
   exact fin σ F3 _ (o2.x.f.trans o3.x.f) (so3.put eo hw1 (o0.set (J7.mono o3.x.f _ o2.rep) j (o0.mono o3.x.f _ rl)))
  ·cases e
end
theorem a32:fillsNumberSlot (.type "tuple") "mul"=pure false:=
 PySem.fillsNumberSlot_seq (id:="tuple.__mul__") (r:=ξ (.builtin "tuple.__rmul__")) PySem.F.slot_tuple_mul.lookup (by decide+kernel) PySem.F.slot_tuple_rmul.lookup (by decide+kernel)
theorem a8r:seqRepeat? (.type "tuple")=pure (ξ (.builtin "tuple.__mul__")):=by
 unfold seqRepeat?;rw [PySem.seqSlot_of (T:="tuple") (name:="__mul__") (id:="tuple.__mul__") PySem.F.slot_tuple_mul.lookup (by decide+kernel),PySem.seqSlot_of (T:="tuple") (name:="__rmul__") (id:="tuple.__rmul__") PySem.F.slot_tuple_rmul.lookup (by decide+kernel)]
 rfl
theorem a5E(a:Int)(t:Tok)(l:AB)(items:Array AA)(n:Nat)(dd:Υ AB)(sl:Array (Υ AA)):Meets (Builtin.«int.__rmul__» ⟨[.int a t,.ref l],[]⟩) (λ_ R s=>s.heap.get? l=ξ {cls:= .type "tuple",dict:=dd,data:= .seq items n,slots:=sl}/\R (.ok (.ret Value.notImplemented)) s):=
 .of_wp λprog w A R s h=>by obtain⟨hp,g,d,tk,os⟩:=s;obtain⟨hl,h⟩:=h;wp_walk;exact⟨_,rfl,h⟩
theorem b1U(l:AB)(items:Array AA)(n:Nat)(dd:Υ AB)(sl:Array (Υ AA))(x:Int)(u:Tok)(hc0:(decide (x< -(2 ^ 63))||decide (x>=2 ^ 63))=false)(hc1:(items.isEmpty||x==1)=false)(hc2:(decide (x<=0)||items.isEmpty)=false)(hc3:¬(items.size:Int)*x>(2 ^ 63 - 1)/ 8)(hc4:Builtin.Tuple.tupleTooMany ((items.size:Int)*x)=false)(hz:((AV x.toNat items).foldl (· ++·) #[]).size<=AL):
 Meets (Builtin.«tuple.__mul__» ⟨[.ref l,.int x u],[]⟩) (λ_ R s=>s.heap.get? l=ξ {cls:= .type "tuple",dict:=dd,data:= .seq items n,slots:=sl}/\R (.ok (.ret (Value.ref s.heap.objs.size))) {s with heap:=s.heap.push {cls:=Value.type "tuple",data:=Data.seq ((AV x.toNat items).foldl (· ++·) #[])},toks:=s.toks}):=
 .of_wp λprog w A R s h=>by
  obtain⟨hp,g,d,tk,os⟩:=s;obtain⟨hl,h⟩:=h
  wp_walk
  have ht:IsTup hp l items:=⟨_,hl,rfl,n,rfl⟩;rw [if_neg (by rw [hc0];exact BB)]
  wp_walk
  rw [if_neg hc3]
  wp_walk
  exact⟨_,rfl,h⟩
section
variable {X:Cx}
theorem c39:OpR X (binaryOp .Mult) (λx y H Q=>∃a xs n,x= .ref a/\y= .int n/\SqT X.K H a xs/\xs≠[]/\2<=n/\n<=1000000/\xs.length*n.toNat<=AL/\∀p,H p=ζ->Q (.ref p) (upd H p (.tup (AV n.toNat xs).flatten))):=by
 ext u
 obtain⟨a,xs,n,rfl,rfl,hx,hne,h1,h2,hz,q⟩:=h;cases rx;obtain⟨t,rfl⟩:=ry;obtain⟨its,r,ht,_⟩:=I.tuple hx;have hlen:its.toArray.size=xs.length:=by rw [Aj];exact r.length.symm
 have hie:its.toArray.isEmpty=false:=by
  cases its with
  |nil=>exact absurd (r.nil_iff.mp rfl) hne
  |cons _ _=>rfl
 have hnew:List.foldl (λx1 x2=>x1++x2) #[] (AV n.toNat its.toArray)=(AV n.toNat its).flatten.toArray:=by
  have:=a81 its n.toNat [];rw [AY] at this;exact this
 have hc:((xs.length*n.toNat:Nat):Int)=(xs.length:Int)*n:=by rw [Int.natCast_mul,Int.toNat_of_nonneg (by lia)]
 have hsl:=sizeLine_eq;obtain⟨⟨cls,dd,data,sl⟩,ho,hc',m,hd⟩:=id ht;simp only at hc' hd;subst hc' hd;have hzz:(List.foldl (λx1 x2=>x1++x2) #[] (AV n.toNat its.toArray)).size<=AL:=by
  rw [hnew,Aj,b3S,Nat.mul_comm,<-r.length];exact hz
 refine wpAny_binaryOp_repeat_ref (T:="tuple") (U:="int") (by decide) ht.typeIs (λs'=>typeIs_int s' n t) a32 F.fills_int_mul F.slot_int_rmul a8r F.slot_int_index.lookup
  (call_meets F.slot_int_rmul (typeIs_int s n t) F.entry_int_rmul (F.args_int_rmul_2 _ _) (a5E n t a its.toArray m dd sl)
   ⟨ho,rfl,ht.typeIs,call_meets PySem.F.slot_tuple_mul ht.typeIs PySem.F.entry_tuple_mul (PySem.F.args_tuple_mul_2 _ _) (b1U a its.toArray m dd sl n t ?_ ?_ ?_ ?_ ?_ hzz) ⟨ho, ?_⟩⟩)
 ·have e1:¬n< -(2 ^ 63:Int):=by lia
  have e2:¬n>=2 ^ 63:=by lia
  simp [e1,e2]
  lia
 ·rw [hie];have:n≠1:=by lia
  simp [this]
 ·rw [hie];have:¬n<=0:=by lia
  simp [this]
 ·rw [hlen,<-hc]
  lia
 ·rw [hlen,<-hc];unfold Builtin.Tuple.tupleTooMany;rw [decide_eq_false (by lia)]
 ·rw [hnew];refine⟨.ref s.heap.objs.size,_,I.laid (t':=s.toks) (o:= .tup (AV n.toNat xs).flatten) (λb ob q=>Am _ q) (AN _) ?_,rfl,q _ (I.hok.fresh (AN _))⟩;exact⟨by rw [b3S,Nat.mul_comm];exact hz,_,r.rep n.toNat,IsTup.new _ _⟩
def Q4:d4->d4->Υ d4
 | .v (.tuple ps),.v (.int k)=>if okC (λk n=>2<=k/\k<=1000000/\1<=n/\n*k<=16777216) k ps.length=true then ξ (.v (.tuple (AV k.toNat ps).flatten)) else ζ
 |x,y=>b5c x y
theorem G8:OpM X (binaryOp .Mult) Q4:=by
 ext b
 unfold Q4 at h3;split at h3
 ·rename_i ps n;split at h3
  ·rename_i c;obtain⟨c0,c1,c2,c3⟩:=a28.mp c;cases h3;cases h2;obtain⟨a,xs,rfl,hq,rl⟩:=h1;have hlen:=rl.length;have hz:xs.length*n.toNat<=AL:=by
    rw [sizeLine_eq,hlen];have:((ps.length*n.toNat:Nat):Int)=ps.length*n:=by rw [Int.natCast_mul,Int.toNat_of_nonneg (by lia)]
    lia
   refine c39 pins s σ H _ _ v u Q I rx ry ⟨a,xs,n,rfl,rfl,A7 s0 hq.sq, ?_,by lia,by lia,hz,λp hp=>k _ _ _ (B4.tup s0 hp (b1A rl _))⟩
   intro e;rw [e] at hlen;simp at hlen
   lia
  ·cases h3
 ·exact c11 pins s σ H x y v u Q I rx ry ⟨F,_,_,rz,s0,h1,h2,h3,k⟩
end
section
variable {prog:AJ}{w:AH}{A:AM}{E:AA->AC->Prop}{s:AC}
end
section
variable {prog:AJ}{w:AH}{A:AM}{E:AA->AC->Prop}{s:AC}{u:AA}{T gid:String}{fp:List AB}{n:Nat}{P:Nat->AA->Prop}{Sq:Heap->Prop}
end
section
variable {prog:AJ}{w:AH}{A:AM}{E:AA->AC->Prop}{s:AC}
end
section
variable {X:Cx}
end
def z5(kvs:Γ)(k:List m7):Υ PV:=(kvs.find? λkv=>decide (kv.1=k)).map (·.2)
def a11(kvs:Γ)(k:List m7)(v:PV):Γ:=
 if(kvs.any λkv=>decide (kv.1=k))=true then kvs.map (λkv=>if kv.1=k then(kv.1,v) else kv) else kvs++[(k,v)]
theorem E3.length{K:AE}{H:Hp}:∀{kvs:Γ} {ys:List (List m7×V)},E3 K H kvs ys->ys.length=kvs.length
 |[],_,h=>by cases h;rfl
 |(k,p)::r,_,⟨v,t,e,q,h⟩=>by subst e;rw [AU,AU,E3.length h]
theorem E3.any{K:AE}{H:Hp}{k:List m7}:∀{kvs:Γ} {ys:List (List m7×V)},E3 K H kvs ys->(ys.any λkv=>decide (kv.1=k))=(kvs.any λkv=>decide (kv.1=k))
 |[],_,h=>by cases h;rfl
 |(k',p)::r,_,⟨v,t,e,q,h⟩=>by subst e;rw [List.any_cons,List.any_cons,E3.any h]
theorem E3.val{K:AE}{H:Hp}{k:List m7}:∀{kvs:Γ} {ys:List (List m7×V)},E3 K H kvs ys->(∀p,z5 kvs k=ξ p->∃v,a2Q ys k=ξ v/\J7 K H p v)/\(z5 kvs k=ζ->a2Q ys k=ζ)
 |[],_,h=>by cases h;exact⟨λp e=>(nomatch e),λ_=>rfl⟩
 |(k',p)::r,_,⟨v,t,e,q,h⟩=>by
  subst e
  by_cases c:k'=k
  ·have e1:z5 ((k',p)::r) k=ξ p:=by simp [z5,List.find?_cons,c]
   have e2:a2Q ((k',v)::t) k=ξ v:=a4e c;rw [e1,e2];exact⟨λp' e'=>(by cases e';exact⟨v,rfl,q⟩),λe'=>(nomatch e')⟩
  ·have e1:z5 ((k',p)::r) k=z5 r k:=by simp [z5,List.find?_cons,c]
   have e2:a2Q ((k',v)::t) k=a2Q t k:=a4d c;rw [e1,e2];exact E3.val h
theorem E3.repl{K:AE}{H:Hp}{k:List m7}{p:PV}{v:V}(hp:J7 K H p v):∀{kvs:Γ} {ys:List (List m7×V)},E3 K H kvs ys->E3 K H (kvs.map λkv=>if kv.1=k then(kv.1,p) else kv) (ys.map λkv=>if kv.1=k then(kv.1,v) else kv)
 |[],_,h=>by cases h;exact rfl
 |(k',p')::r,_,⟨v',t,e,q,h⟩=>by
  subst e
  by_cases c:k'=k
  ·rw [AG,AG];simp only [if_pos c];exact⟨v,_,rfl,hp,E3.repl hp h⟩
  ·rw [AG,AG];simp only [if_neg c];exact⟨v',_,rfl,q,E3.repl hp h⟩
theorem E3.snoc{K:AE}{H:Hp}{k:List m7}{p:PV}{v:V}(hp:J7 K H p v):∀{kvs:Γ} {ys:List (List m7×V)},E3 K H kvs ys->E3 K H (kvs++[(k,p)]) (ys++[(k,v)])
 |[],_,h=>by cases h;exact⟨v,[],rfl,hp,rfl⟩
 |(k',p')::r,_,⟨v',t,e,q,h⟩=>by subst e;exact⟨v',_,rfl,q,E3.snoc hp h⟩
theorem E3.put{K:AE}{H:Hp}{k:List m7}{p:PV}{v:V}{kvs:Γ}{ys:List (List m7×V)}(r:E3 K H kvs ys)(hp:J7 K H p v):E3 K H (a11 kvs k p) (a1d ys k v):=by
 unfold a11 a1d;rw [r.any];split
 ·exact r.repl hp
 ·exact r.snoc hp
theorem B4.dct{K:AE}{F H:Hp}{a:AB}(s:m5 F H)(n:H a=ζ):B4 K F H F (upd H a (.dT [])) (.ref a) (.dct []):=
 ⟨Ext.layH s n,⟨a,[],rfl,s.free n,n6,rfl⟩,λ_ _ _ e=>by cases e;exact n⟩
section
variable {X:Cx}
def b8r:M:=λ_=>ξ (.dct [])
theorem b7Z{pos:Pos}:EE X (.Dict [] [] pos) b8r:=
 B9 c16 λσ H Q h0=>A1 h0 λF ρ r en e k=>by
  cases e;exact λd hd=>k _ _ _ (B4.dct en.fh hd)
def b0O(i:Nat)(ρ:c9)(p:PV)(k:List m7):Υ Fl:=match ρ[i]? with
 |some (ξ (.ow (.dct kvs)))=>if kvs.length<AL then ξ (.nx (ρ.set i (ξ (.dct (a11 kvs k p))))) else ζ
 |_=>ζ
def b1i(i:Nat)(mk:MA)(mv:M):MS:=λρ=>((mv ρ).bind d4.toVal).bind λp=>(mk ρ).bind λks=>if ks.length<=AL then(Z9 ks).bind (b0O i ρ p) else ζ
theorem b71(i:Nat){x:Str}{p tp tp2 pos:Pos}{es:List AF}{e:AF}{x1}{mk:MA}{mv:M}(hu:X.A.units+64<cLine)(hx:PE X (.Name x p) (a2P i))(hi:EA X es mk)(he:EE X e mv)
 (hs:swapsWith e (ξ (.Subscript (.Name x p) (.Tuple es x1 tp) tp2)) pos.line X.env=pure false:=by rfl):ES X (.Assign [.Subscript (.Name x p) (.Tuple es x1 tp) tp2] e pos) (b1i i mk mv):=
 G9 (b4h (by lia) hx (b7k hi) he hs) λD σ H h0=>L8 h0 λF0 H0 F ρ fl so e fin=>by
  ext ad
  obtain⟨ks,e4,e⟩:=bind_some e;split at e
  ·rename_i hz;obtain⟨k,e5,e⟩:=bind_some e
   ext n
   unfold b0O at e;split at e
   ·rename_i kvs eo;split at e
    ·rename_i hl;cases e;obtain⟨w,hw1,a,xs,rfl,fa,ha',rl⟩:=so2.e.at_ i _ eo;refine⟨.ref a,hw1,F2,ρ,ks,so2.e,e4,λvs F3 H3 x3 rl3=>⟨by rw [rl3.length];exact hz,λb hb=> ?_⟩⟩
     have ev:=a4K e5 rl3;have so3:=(so2.ext x3).ext (Ext.lay (o:= .tup vs) x3.fh hb);have ha3:=x3.h _ _ ha';have hne:a≠b:=λh=>by subst h;rw [hb] at ha3;cases ha3
     have ha4:upd H3 b (.tup vs) a=ξ (.dT xs):=by rw [m4 hne];exact ha3
     refine⟨a,_,rfl,b3r.t (k:=k) ha4 (by rw [n6,ev]) (by rw [rl.length];exact hl), ?_⟩
     have up:m5 F2 (upd F3 b (.tup vs)):=x3.f.trans (P9 (x3.fh.free hb));exact fin σ _ _ (o2.x.f.trans up) (so3.putD eo hw1 ((E3.mono up _ rl).put (J7.mono up _ o2.rep)))
    ·cases e
   ·cases e
  ·cases e
def b4W(i:Nat)(ρ:c9)(k:List m7):Υ d4:=match ρ[i]? with
 |some (ξ (.ow (.dct kvs)))=>(z5 kvs k).map .v
 |_=>ζ
end
section
variable {prog:AJ}{w:AH}{A:AM}{E:AA->AC->Prop}{s:AC}
end
section
variable {X:Cx}{pins:List (AB×Obj)}{σ:L2.St}{H:Hp}{s:AC}{a:AB}{A:AM}{E:AA->AC->Prop}
end
section
variable {X:Cx}
end
def c1t:AA->Bool
 | .int _ _=>true
 |_=>false
theorem b1f{K:AE}{a:AB}{o:Obj}:K.lookup a=ξ o->∃b,(b,o)∈K:=by
 induction K with
 |nil=>intro h;cases h
 |cons p r ih=>
  intro h;obtain⟨b,u⟩:=p;rw [List.lookup_cons] at h;split at h
  ·cases h;exact⟨b,Ak ..⟩
  ·obtain⟨c,hc⟩:=ih h;exact⟨c,Al _ hc⟩
theorem b7K:∀{k:List m7} {us:List AA},v7 (k.map kV) us->k.any Sum.isLeft=true->us.any c1t=true
 |[],_,_,h=>by cases h
 |k::ks,_,r,h=>by
  rw [AG] at r;cases r with
  |cons r1 r2=>
   rw [List.any_cons] at h ⊢;cases k with
   |inl i=>obtain⟨t,rfl⟩:=(show ∃t,_=Value.int i t from r1);rfl
   |inr x=>
    have:=b7K r2 (by simpa using h)
    rw [this,Bool.or_true]
theorem E3.isSome{K:AE}{H:Hp}{k:List m7}{kvs:Γ}{ys:List (List m7×V)}(r:E3 K H kvs ys):(a2Q ys k).isSome=(z5 kvs k).isSome:=by
 cases hv:z5 kvs k with
 |none=>rw [(r.val (k:=k)).2 hv];rfl
 |some p=>
  obtain⟨v,e,_⟩:=(r.val (k:=k)).1 p hv;rw [e];rfl
section
variable {X:Cx}
def c5o(neg:Bool)(i:Nat)(ρ:c9)(k:List m7):Υ d4:=match ρ[i]? with
 |some (ξ (.ow (.dct kvs)))=>ξ (.v (.bool (if neg then !(z5 kvs k).isSome else(z5 kvs k).isSome)))
 |_=>ζ
theorem c42{t:TE}{m:M}(i:∀σ H Q,tM X.K m σ H Q->t σ H Q){σ:L2.St}{H:Hp}{Q:Bool->Hp->Prop}(h:tMT X.K (G2 m) σ H Q):tB t σ H Q:=by
 obtain⟨F,ρ,b,h1,h2,k⟩:=h;obtain⟨r,e1,e2⟩:=bind_some h2;exact i _ _ _ ⟨F,ρ,r,h1,e1,λv F1 H1 o=>⟨b,a37 o.rep e2,k F1 H1 o.x⟩⟩
def b08(r:d4):Υ Str:=match r with
 | .v (.str x)=>ξ x
 |_=>ζ
end
section
variable {prog:AJ}{w:AH}{A:AM}{E:AA->AC->Prop}{s:AC}
end
section
variable {X:Cx}
end
section
variable {prog:AJ}{w:AH}{A:AM}{E:AA->AC->Prop}{s:AC}
end
section
variable {X:Cx}
end
def S(l:List Nat):Str:=⟨l.toArray⟩
theorem c6O(a b:List Nat):S a++S b=S (a++b):=by
 show Str.append (S a) (S b)=_;simp [Str.append,S]
theorem a1L(a:List Nat):(S a).length=a.length:=by simp [S,Str.length]
theorem a7A(a:List Nat):(S a).cps.toList=a:=by simp [S]
theorem b7I{a b:List Nat}(h:S a=S b):a=b:=by
 have:=congrArg (λz:Str=>z.cps.toList) h
 simpa [S] using this
theorem c6P(a b:List Nat):(S a==S b)=(a==b):=by
 rw [Bool.eq_iff_iff];simp only [beq_iff_eq];exact⟨b7I,λh=>by rw [h]⟩
def a09(sep:List Nat):List (List Nat)->List Nat
 |[]=>[]
 |[x]=>x
 |x::y::r=>x++sep++a09 sep (y::r)
theorem b2Q(sep:List Nat):∀(ls:List (List Nat)) (acc:List Nat),(ls.foldl (λa p=>a++sep++p) acc)=if ls=[] then acc else acc++sep++a09 sep ls
 |[],acc=>rfl
 |[x],acc=>by simp [a09]
 |x::y::r,acc=>by
  rw [List.foldl_cons,b2Q sep (y::r)];simp [a09]
theorem b77(sep:List Nat):∀(ls:List (List Nat)) (acc:List Nat),(ls.map S).foldl (λa (p:Str)=>a++(S sep).cps++p.cps) acc.toArray=(ls.foldl (λa p=>a++sep++p) acc).toArray
 |[],acc=>rfl
 |x::r,acc=>by
  rw [AG,List.foldl_cons,List.foldl_cons];have:acc.toArray++(S sep).cps++(S x).cps=(acc++sep++x).toArray:=by simp [S]
  rw [this];exact b77 sep r (acc++sep++x)
theorem c5E(sep:List Nat)(ls:List (List Nat)):Txt.join (S sep) (ls.map S)=S (a09 sep ls):=by
 unfold Txt.join Builtin.Str.glued;cases ls with
 |nil=>rfl
 |cons x r=>
  show(⟨((r.map S).foldl (λacc (p:Str)=>acc++(S sep).cps++p.cps) (S x).cps)⟩:Str)=_;rw [show(S x).cps=x.toArray from rfl,b77,b2Q];cases r with
  |nil=>rfl
  |cons y r=>rw [if_neg (by simp)];simp [S,a09]
theorem b5e:∀ls:List (List Nat),a09 [] ls=ls.flatten
 |[]=>rfl
 |[x]=>by simp [a09]
 |x::y::r=>by simp [a09,b5e (y::r)]
theorem a9L:∀cs:List Nat,(cs.map λc=>[c]).flatten=cs
 |[]=>rfl
 |c::cs=>by simp [a9L cs]
theorem b6x{α:Type}{xs:List α}{i:Int}(h:0<=i):L2.atI xs i=xs[i.toNat]?:=by
 unfold L2.atI L2.ixN;rw [if_pos h]
 by_cases c:i<xs.length
 ·rw [if_pos c];rfl
 ·rw [if_neg c];have:xs.length<=i.toNat:=by lia
  rw [List.getElem?_eq_none_iff.mpr this];rfl
theorem b2s{α:Type}{xs:List α}{k:Nat}:L2.atI xs (k:Int)=xs[k]?:=by
 rw [b6x (by lia)];simp
theorem c1h{l:List Nat}{i:Int}{c:Nat}(hl:l.length<=16777216)(h:L2.atI l i=ξ c):l9 (.v (.str (S l))) (.v (.int i))=ξ (.v (.str (S [c]))):=by
 have hs:(S l).length<=AL:=by rw [a1L,sizeLine_eq];exact hl
 unfold l9;simp only [d4.rd,a7A,h,Ar,if_pos hs]
 rfl
theorem a3n{l k:List Nat}(h:l.length+k.length<=16777216):t7 (.v (.str (S l))) (.v (.str (S k)))=ξ (.v (.str (S (l++k)))):=by
 rw [c1c (by rw [a1L,a1L,sizeLine_eq];exact h),c6O]
theorem c3G{i j:Int}(h: -18446744073709551616<i/\i<18446744073709551616):b5c (.v (.int i)) (.v (.int j))=ξ (.v (.int (i*j))):=c5A h
theorem a67(i j:Int):b3K (.v (.int i)) (.v (.int j))=ξ (.v (.bool (decide (i<j)))):=ω
theorem c1i(i j:Int):a2s (.v (.int i)) (.v (.int j))=ξ (.v (.bool (decide (i<=j)))):=ω
theorem T8{i j:Int}(h: -18446744073709551616<i/\i<18446744073709551616):Q4 (.v (.int i)) (.v (.int j))=ξ (.v (.int (i*j))):=(show _=b5c (.v (.int i)) (.v (.int j)) from rfl).trans (c3G h)
theorem b9t{l:List PV}{k:Int}(h:(2<=k/\k<=1000)/\(1<=l.length/\l.length<=1000)):Q4 (.v (.tuple l)) (.v (.int k))=ξ (.v (.tuple (AV k.toNat l).flatten)):=by
 show(if okC (λk n=>2<=k/\k<=1000000/\1<=n/\n*k<=16777216) k l.length=true then _ else ζ)=_
 rw [if_pos];refine a28.mpr ⟨h.1.1,by lia,by lia, ?_⟩
 have h3:(l.length:Int)*k<=1000*1000:=Int.mul_le_mul (by lia) h.1.2 (by lia) (by lia)
 lia
theorem c3I(ps:List PV)(lo hi:Υ Int):gSl (.v (.tuple ps)) lo hi=ξ (.v (.tuple (cut ps lo hi))):=ω
theorem b6T(ps:List PV):b00 (.v (.tuple ps))=ξ (.own ps):=ω
theorem b6R(bs:List Bool):c1d (.own (bs.map .bool))=ξ (.v (.bool (bs.all id))):=by
 show(a0t _).map _=_;rw [a9G];rfl
theorem b5t{m:M}{ρ:c9}{l:List Nat}(h:m ρ=ξ (.v (.str (S l)))):a7f m ρ=ξ (l.map λc=> .str (S [c])):=by
 unfold a7f;rw [h,AD];show ξ ((S l).cps.toList.map _)=_;rw [a7A]
 rfl
theorem b63(i:Nat)(mi mv:M)(ρ:c9):b62 i mi mv ρ=((mv ρ).bind d4.toVal).bind λp=>(mi ρ).bind (c2t i ρ p):=ω
theorem c63{l:List Nat}{lo hi:Υ Int}(h:l.length<=16777216):gSl (.v (.str (S l))) lo hi=ξ (.v (.str (S (cut l lo hi)))):=by
 show(if(S l).length<=AL then ξ (d4.v (.str ⟨(cut (S l).cps.toList lo hi).toArray⟩)) else ζ)=_
 rw [if_pos (by rw [a1L,sizeLine_eq];exact h),a7A]
 rfl
def chK(g':d4->d4->Υ d4)(mc:M)(ρ:c9)(y z:d4):Υ d4:=(b1E z).bind λb=>if b=true then(mc ρ).bind λw=>g' y w else ξ (.v (.bool false))
theorem a1b(g g':d4->d4->Υ d4)(ma mb mc:M)(ρ:c9):a3t g g' ma mb mc ρ=(ma ρ).bind λx=>(mb ρ).bind λy=>(g x y).bind (chK g' mc ρ y):=ω
theorem b4P(g':d4->d4->Υ d4)(mc:M)(ρ:c9)(y:d4):chK g' mc ρ y (.v (.bool true))=(mc ρ).bind λw=>g' y w:=ω
theorem c6U(g':d4->d4->Υ d4)(mc:M)(ρ:c9)(y:d4):chK g' mc ρ y (.v (.bool false))=ξ (.v (.bool false)):=ω
abbrev row(l:List Nat):PV:= .str (S l)
def d9(rows:List (List Nat)):PV:= .tuple (rows.map row)
theorem b3J(rows:List (List Nat)):y9 (.v (d9 rows))=ξ (.v (.int rows.length)):=by
 show y9 (.v (.tuple _))=_;rw [b5a,AZ]
theorem c3r(a b:List Nat):η (row a) (row b)=(a==b):=by
 show η (.str (S a)) (.str (S b))=_;rw [show η (.str (S a)) (.str (S b))=(S a==S b) by simp only [η],c6P]
theorem b0T(a:List Nat)(n:Nat):y8 (row a) n=true:=by cases n<;>rfl
theorem b0S(n:Nat):∀rows:List (List Nat),J9 (rows.map row) n=true
 |[]=>rfl
 |a::r=>by rw [AG];simp [J9,b0T,b0S n r]
theorem Z6(rows:List (List Nat)):y8 (d9 rows) 50=true:=by
 show y8 (.tuple _) 50=true;simp only [y8];exact b0S 49 rows
theorem b47{body:MS}{tg:PV->c9->Υ c9}{I:Nat->c9->Prop}:∀{ps:List PV} {ρ:c9} (k:Nat),(∀(i:Nat) p,ps[i]?=ξ p->∀ρ,I (k+i) ρ->∃ρ1 ρ2,tg p ρ=ξ ρ1/\(body ρ1=ξ (.nx ρ2)\/body ρ1=ξ (.ct ρ2))/\I (k+i+1) ρ2)->I k ρ->∃ρ',O1 body tg ps ρ=ξ (.nx ρ')/\I (k+ps.length) ρ'
 |[],ρ,k,_,h=>⟨ρ,rfl,h⟩
 |p::ps,ρ,k,s,h=>by
  obtain⟨ρ1,ρ2,h1,h2,h3⟩:=s 0 p rfl ρ h;obtain⟨ρ',h4,h5⟩:=b47 (ps:=ps) (ρ:=ρ2) (k+1) (λi q hq ρ hi=>by
   have e:k+1+i=k+(i+1):=by lia
   rw [e] at hi ⊢;exact s (i+1) q (by simpa using hq) ρ hi) h3
  refine⟨ρ', ?_,by rw [AU];have e:k+(ps.length+1)=k+1+ps.length:=by lia
                   rw [e];exact h5⟩
  unfold O1;rw [h1];show(body ρ1).bind _=_;rcases h2 with h2|h2<;>rw [h2]<;>exact h4
theorem D1{body:MS}{tg:PV->c9->Υ c9}(I:Nat->c9->Prop){ps:List PV}{ρ:c9}(s:∀(i:Nat) p,ps[i]?=ξ p->∀ρ,I i ρ->∃ρ1 ρ2,tg p ρ=ξ ρ1/\(body ρ1=ξ (.nx ρ2)\/body ρ1=ξ (.ct ρ2))/\I (i+1) ρ2)(h:I 0 ρ):∃ρ',O1 body tg ps ρ=ξ (.nx ρ')/\I ps.length ρ':=by
 obtain⟨ρ',a,b⟩:=b47 (I:=I) 0 (λi p hp ρ hi=>by rw [Nat.zero_add] at hi ⊢;exact s i p hp ρ hi) h
 rw [Nat.zero_add] at b;exact⟨ρ',a,b⟩
theorem G4{body:MS}{tg:PV->c9->Υ c9}{I:c9->Prop}{p:PV}{ρ ρ1 ρ2:c9}(h1:tg p ρ=ξ ρ1)(h2:body ρ1=ξ (.nx ρ2))(h3:I ρ2):∃ρ1 ρ2,tg p ρ=ξ ρ1/\(body ρ1=ξ (.nx ρ2)\/body ρ1=ξ (.ct ρ2))/\I ρ2:=⟨ρ1,ρ2,h1,.inl h2,h3⟩
theorem W6{lo hi:Int}{i:Nat}{p:PV}(h:(K4 lo hi)[i]?=ξ p):p= .int (lo+i)/\lo+i<hi:=by
 have hi':=(Av.mp h).1;rw [R9] at hi';rw [a8s hi'] at h;cases h;exact⟨rfl,by lia⟩
theorem a6z(n:Nat):K4 0 (n:Int)=(Ab n).map λk=> .int (k:Nat):=by
 unfold K4;have e:((n:Int) - 0).toNat=n:=by lia
 rw [e];exact List.map_congr_left λk _=>by simp
theorem b9I(k:Nat)(it:MI)(tg:PV->c9->Υ c9)(c:MT)(elt:M)(ρ:c9):a30 k it tg c elt ρ=(it ρ).bind λps=>if ps.length<=AL then(a9I c elt tg (ρ++AV k ζ) ps).bind λr=>ξ (.own r) else ζ:=ω
theorem b2F{α:Type}{ι f:α->PV}{elt:M}{tg:PV->c9->Υ c9}{ρ:c9}:∀{xs:List α},(∀x∈xs,∃ρ1,tg (ι x) ρ=ξ ρ1/\(elt ρ1).bind d4.toVal=ξ (f x))->a9I a5a elt tg ρ (xs.map ι)=ξ (xs.map f)
 |[],_=>rfl
 |x::xs,h=>by
  obtain⟨ρ1,h1,h2⟩:=h x Ak;rw [AG,AG];unfold a9I;rw [h1,AD];show((elt ρ1).bind d4.toVal).bind _=_;rw [h2,AD,b2F λy hy=>h y (Al _ hy),AD]
theorem a0m{α:Type}{ι f:α->PV}{k:Nat}{it:MI}{elt:M}{tg:PV->c9->Υ c9}{ρ:c9}(xs:List α)(h1:it ρ=ξ (xs.map ι))(h2:xs.length<=16777216)
 (h:∀x∈xs,∃ρ1,tg (ι x) (ρ++AV k ζ)=ξ ρ1/\(elt ρ1).bind d4.toVal=ξ (f x)):a30 k it tg a5a elt ρ=ξ (.own (xs.map f)):=by
 rw [b9I,h1,AD,if_pos (by rw [AZ,sizeLine_eq];exact h2),b2F h,AD]
theorem F8(m:M)(ρ:c9):a0c m ρ=((m ρ).bind d4.toVal).bind PyData.items?:=ω
theorem k6(m:M)(lo hi:MO)(ρ:c9):F9 m lo hi ρ=(m ρ).bind λr=>(lo ρ).bind λl=>(hi ρ).bind λh=>gSl r l h:=ω
theorem k7(m:M)(ρ:c9):A2 m ρ=(m ρ).bind b8e:=ω
theorem n8(ρ:c9):P6 ρ=ξ ζ:=ω
theorem u4(i:Int):b8e (.v (.int i))=ξ (ξ i):=ω
theorem a5N{m:M}{ρ:c9}{r:d4}{ps:List PV}(h:m ρ=ξ r)(h2:PyData.items? r.rd=ξ ps):a1Z m ρ=ξ ps:=by
 unfold a1Z;rw [h,AD,h2]
theorem b20{m:M}{ρ:c9}{n:Nat}(h:m ρ=ξ (.v (.int n)))(hn:n<4611686018427387904):a0V (a6 m b9) ρ=ξ ((Ab n).map λk=> .int (k:Nat)):=by
 have e:a6 m b9 ρ=ξ [.int n]:=by rw [b6,h];rfl
 rw [M5,e,AD,a1r (j:=(n:Int)) ⟨by lia,by lia⟩,a6z]
theorem a66{sep:List Nat}{rows:List (List Nat)}{y:d4}(h:PyData.items? y.rd=ξ (rows.map row))(hl:(rows.map (·.length)).sum+rows.length*sep.length<=16777216):T7 (.v (.str (S sep))) y=ξ (.v (row (a09 sep rows))):=by
 have e1:a42 (rows.map row)=ξ (rows.map S):=by
  have:rows.map row=(rows.map S).map PyData.str:=by rw [Ay];rfl
  rw [this,b1P]
 have e2:((rows.map S).map (·.length))=rows.map (·.length):=by rw [Ay];exact List.map_congr_left λa _=>a1L a
 unfold T7;simp only [h,e1,AD,e2,AZ,a1L,if_pos hl,c5E]
theorem b6V(ps:List PV):b3L (.bor ps)=ξ (.v (.tuple ps)):=ω
theorem B5{i:Nat}{m:M}{ρ:c9}{r:d4}{p:PV}{ps:List PV}(h1:m ρ=ξ r)(h2:r.toVal=ξ p)(h3:ρ[i]?=ξ (ξ (.own ps)))(h:ps.length<16777216):D6 i m ρ=ξ (.nx (ρ.set i (ξ (.own (ps++[p]))))):=by
 unfold D6;rw [h1,AD,h2,AD,h3];simp only [sizeLine_eq,if_pos h]
theorem Q7(p:d4)(ρ:c9):a0J 0 (ξ p::ρ)=ξ (.rt p):=ω
theorem Q8(n:Nat)(r:Υ d4)(ρ:c9):a0J (n+1) (r::ρ)=a0J n ρ:=ω
theorem a0p(k:List m7)(v:PV)(D:Γ)(k':List m7):z5 ((k,v)::D) k'=if k=k' then ξ v else z5 D k':=by
 unfold z5;rw [List.find?_cons]
 by_cases h:k=k'
 ·simp [h]
 ·simp [h]
theorem b6g(k:List m7)(v:PV)(k':List m7):∀D:Γ,z5 (D++[(k,v)]) k'=if(z5 D k').isSome=true then z5 D k' else if k=k' then ξ v else ζ
 |[]=>by rw [AY,a0p];rfl
 |(a,b)::D=>by
  rw [Aa,a0p,a0p,b6g k v k' D]
  by_cases h:a=k'
  ·simp [h]
  ·simp [h]
theorem b7L(k:List m7):∀D:Γ,(D.any λkv=>decide (kv.1=k))=(z5 D k).isSome
 |[]=>rfl
 |(a,b)::D=>by
  rw [List.any_cons,b7L k D,a0p]
  by_cases h:a=k
  ·simp [h]
  ·simp [h]
theorem b3o(k:List m7)(v:PV)(k':List m7):∀D:Γ,z5 (D.map λkv=>if kv.1=k then(kv.1,v) else kv) k'=if k=k' then(z5 D k').map (λ_=>v) else z5 D k'
 |[]=>by simp [z5]
 |(a,b)::D=>by
  rw [AG];have ih:=b3o k v k' D
  by_cases h:a=k
  ·simp only [h,if_true];rw [a0p,a0p,ih]
   by_cases h2:k=k'
   ·simp [h2]
   ·simp [h2]
  ·simp only [h,if_false];rw [a0p,a0p,ih]
   by_cases h2:a=k'
   ·have:¬k=k':=λz=>h (h2.trans z.symm);simp [h2,this]
   ·simp [h2]
theorem a4c(D:Γ)(k:List m7)(v:PV)(k':List m7):z5 (a11 D k v) k'=if k=k' then ξ v else z5 D k':=by
 unfold a11;rw [b7L];cases h:(z5 D k).isSome with
 |true=>
  rw [if_pos rfl,b3o]
  by_cases h2:k=k'
  ·subst h2;rw [if_pos rfl,if_pos rfl];obtain⟨x,hx⟩:=Option.isSome_iff_exists.mp h;rw [hx];rfl
  ·rw [if_neg h2,if_neg h2]
 |false=>
  rw [if_neg BB,b6g]
  by_cases h2:k=k'
  ·subst h2;rw [h];simp
  ·simp only [if_neg h2];cases h3:z5 D k'<;>simp
theorem a8o(D:Γ)(k:List m7)(v:PV):(a11 D k v).length<=D.length+1:=by
 unfold a11;split
 ·rw [AZ];lia
 ·rw [AW,List.length_singleton];lia
theorem b0P{i:Nat}{ρ:c9}{p:PV}{k:List m7}{D:Γ}(h:ρ[i]?=ξ (ξ (.ow (.dct D))))(hl:D.length<16777216):b0O i ρ p k=ξ (.nx (ρ.set i (ξ (.ow (.dct (a11 D k p)))))):=by
 unfold b0O;rw [h];show(if D.length<AL then _ else ζ)=_
 rw [if_pos (by rw [sizeLine_eq];exact hl)]
theorem c0J{i:Nat}{ρ:c9}{k:List m7}{D:Γ}{p:PV}(h:ρ[i]?=ξ (ξ (.ow (.dct D))))(hv:z5 D k=ξ p):b4W i ρ k=ξ (.v p):=by
 unfold b4W;rw [h];show(z5 D k).map _=_;rw [hv];rfl
theorem c3X{i:Nat}{ma:MA}{mv:M}{ρ:c9}{a b:Int}{r:d4}{p:PV}{D:Γ}(h1:mv ρ=ξ r)(h2:r.toVal=ξ p)(h3:ma ρ=ξ [.int a,.int b])(h:ρ[i]?=ξ (ξ (.ow (.dct D))))(hl:D.length<16777216):
 b1i i ma mv ρ=ξ (.nx (ρ.set i (ξ (.ow (.dct (a11 D [.inl a,.inl b] p)))))):=by
 unfold b1i
 rw [h1,AD,h2,AD,h3,AD,if_pos (by rw [sizeLine_eq];simp),show Z9 [.int a,.int b]=ξ [.inl a,.inl b] from rfl,AD,b0P h hl]
theorem b2Z(ρ:c9):b8r ρ=ξ (.ow (.dct [])):=ω
theorem a8S(i:Nat)(ρ:c9)(c:a2c):c3b i ρ (.ow c)=ξ (.nx (ρ.set i (ξ (.ow c)))):=ω
theorem a3N{ps:List PV}{n:Nat}(h:∀p∈ps,y8 p n=true):J9 ps n=true:=by
 induction ps with
 |nil=>rfl
 |cons p ps ih=>simp [J9,h p Ak,ih λq hq=>h q (Al _ hq)]
theorem c3H(a b:List Nat):gNe (.v (row a)) (.v (row b))=ξ (.v (.bool (!(a==b)))):=by
 rw [b01 (x:= .v (row a)) (y:= .v (row b)) ⟨b0T a 50,b0T b 50⟩,b7r,b7r,c3r]
def Df0(K:AE)(x:Str)(st:Stmt):Prop:=∃f fd,PySem.W.nsIn K mainGlobals x=ξ (ξ (.ref f))/\Fun K x x st f fd
def Df(K:AE)(mg:Str->Υ AA)(x:Str)(st:Stmt):Prop:=∃f fd,Fun K x x st f fd/\mg x=ξ (.ref f)
theorem b4V{K:AE}{x:Str}{st:Stmt}{f:AB}{oc:AA}{od an:Υ AB}{osl:Array (Υ AA)}{kV doc pm cdv ct:AA}(a:PySem.W.nsIn K mainGlobals x=ξ (ξ (.ref f)))
 (l:K.lookup f=ξ ⟨oc,od,.func (PySem.W.fnOf x x (O3 st) (C3 st) (d6 st) .none kV doc pm an cdv ct),osl⟩) (c:PySem.W.codeIn K cdv x=true) (k:PySem.W.keepIn K (.ref f)=true):Df0 K x st:=⟨_,_,a,c1b l c k⟩
theorem Df0.to{K:AE}{h:Heap}{mg:Str->Υ AA}{x:Str}{st:Stmt}(d:Df0 K x st)(X:K.In h)(G:h.Ns mainGlobals mg):Df K mg x st:=by obtain⟨f,fd,a,F⟩:=d;exact⟨f,fd,F,PySem.W.mg_of X G a⟩
theorem mkS{N P:List Str}{sc:Scope}(h1:sc.kind= .function:=by rfl)(h2:sc.isCoroutine=false:=by rfl)(h3:sc.isGenerator=false:=by rfl)(h4:N.Nodup:=by decide+kernel)(h5:N.take P.length=P:=by rfl)
 (h6:∀x∈P,sc.names.lookup x=ξ .local\/sc.names.lookup x=ξ .cell:=by decide+kernel) (h7:∀y∈sc.names,y.2≠.free:=by decide+kernel):i4 N P sc:=⟨h1,h2,h3,h4,h5,h6,h7⟩
section
variable {P:AJ}{w:AH}{K:AE}{mg:Str->Υ AA}{base:Heap}
theorem j6{x:Str}{st:Stmt}{N ps:List Str}{k:Nat}{m:MS}(D:Df K mg x st)(S:i4 N ps (d6 st))
 (hi:∀(kV doc pm:AA) (an:Υ AB) (cdv ct:AA) (us:List AA),us.length=ps.length->bindArgs (PySem.W.fnOf x x (O3 st) (C3 st) (d6 st) .none kV doc pm an cdv ct) ⟨us,[]⟩=pure (ps.zip us))
 (hb:∀(f:AB) (cdv:AA) (A:AM) (outer:List Env) (s:AC) (H:Hp) (E:XK),W9 k (A.deeper (envOfC x (d6 st) s.heap.objs.size f cdv))->ESs (a5q CX0 P w K mg base N x (d6 st) f cdv A outer s H E).nox (C3 st) m):
 g8 P w K mg base x ps (k+1) (k4 (N.length - ps.length) m):=
 let ⟨f,fd,F,hm⟩:=D
 ⟨f,fd,c04 F S (hb f),hm,F.kp,F.binds hi⟩
theorem c3Q{fa:AB}{st:Stmt}{x:Str}{k:Nat}{g:Λ}(D:Df K mg "law" st)(hfa:mg "law"=ξ (.ref fa))
 (hi:∀(kV doc pm:AA) (an:Υ AB) (cdv ct v:AA),bindArgs (PySem.W.fnOf "law" "law" (O3 st) (C3 st) (d6 st) .none kV doc pm an cdv ct) ⟨[v],[]⟩=pure [(x,v)])
 (main:∀ns:List Int,ns.length<=63->g [.list (ns.map .int)]=ξ (.v (.bool true)))
 (H:∀(base:Heap) (f:AB) (fd:FuncData),K.In base->Fun K "law" "law" st f fd->a1v P w K mg base CX0 k f fd [x] (spP K 1 g)):
 ∃fd:FuncData,(∀(s:AC) (v:AA),BindsTo s fd ⟨[v],[]⟩ [(x,v)])/\∀base:Heap,K.In base->base.Ns mainGlobals mg->a1v P w K mg base CX0 k fa fd [x] (b57 K):=by
 obtain⟨f,fd,F,hm⟩:=D
 have e:=hfa.symm.trans hm
 cases e
 refine⟨fd,λs v=> ?_,λbase kb _=>(H base _ fd kb F).imp (c3R main)⟩
 obtain⟨oc,od,kV,doc,pm,an,cdv,ct,osl,rfl,lk,hcd⟩:=F.ex
 exact .of_eq (hi kV doc pm an cdv ct v)
end
theorem el1{C:List AA->Prop}(h:∀a,C [a])(us:List AA)(e:us.length=1):C us:=by
 obtain⟨a,rfl⟩:=List.length_eq_one_iff.mp e;exact h a
theorem elS{n:Nat}{us:List AA}(e:us.length=n+1):∃a t,us=a::t/\t.length=n:=by
 cases us with
 |nil=>cases e
 |cons a t=>exact⟨a,t,rfl,Nat.succ.inj e⟩
theorem el2{C:List AA->Prop}(h:∀a b,C [a,b])(us:List AA)(e:us.length=2):C us:=by
 obtain⟨a,t,rfl,z⟩:=elS e;exact el1 (C:=λt=>C (a::t)) (h a) t z
theorem el3{C:List AA->Prop}(h:∀a b c,C [a,b,c])(us:List AA)(e:us.length=3):C us:=by
 obtain⟨a,t,rfl,z⟩:=elS e;exact el2 (C:=λt=>C (a::t)) (h a) t z
theorem el4{C:List AA->Prop}(h:∀a b c d,C [a,b,c,d])(us:List AA)(e:us.length=4):C us:=by
 obtain⟨a,t,rfl,z⟩:=elS e;exact el3 (C:=λt=>C (a::t)) (h a) t z
section
variable {K:AE}{F:Hp}
end
section
variable {X:Cx}
end
section
variable {P:AJ}{w:AH}{K:AE}{mg:Str->Υ AA}{base:Heap}
end
section
variable {X:Cx}
end
def a9X(A:AM)(s:AC)(u v:AA)(b:Bool):Prop:=∀(prog:AJ) (w:AH) (E:AA->AC->Prop) (Q:AA->AC->Prop),Q (.bool b) s->AI (model prog w) A (richCompare .Lt u v) Q E s
section
open PySem.AutoSeq1 (wpAny_loadPart')
theorem b4r(l b:AB)(xs ys:Array AA)(n n2:Nat)(dd dd2:Υ AB)(sl sl2:Array (Υ AA))(e:Nat->Bool)(c:Bool):
 Meets (Builtin.«tuple.__lt__» ⟨[.ref l,.ref b],[]⟩)
  (λA R s=>(s.heap.get? l=ξ {cls:= .type "tuple",dict:=dd,data:= .seq xs n,slots:=sl}/\s.heap.get? b=ξ {cls:= .type "tuple",dict:=dd2,data:= .seq ys n2,slots:=sl2})/\
   (∀j (h1:j<xs.size) (h2:j<ys.size),SeqAt.EqAt A.in1 s xs[j] ys[j] (e j))/\(∀j (h1:j<xs.size) (h2:j<ys.size),(∀k,k<j->e k=true)->e j=false->a9X A.in1 s xs[j] ys[j] c)/\
   ((∀k,k<min xs.size ys.size->e k=true)->c=decide (xs.size<ys.size))/\R (.ok (.ret (.bool c))) s):=
 .of_wp λprog w A R s h=>by
  obtain⟨hp,g,d,tk,os⟩:=s;obtain⟨⟨hl,hb⟩,he,hlt,hce,h⟩:=h;have f2:=AutoSeq1.sub_tuple_tuple;have hZ:(xs.toList.zip ys.toList).length=min xs.size ys.size:=by simp
  wp_walk using wpAny_loadPart' hl,wpAny_loadPart' hb,wpAny_forIn_list _ (λrest b s'=>b.1=ζ/\s'=⟨hp,g,d,tk,os⟩/\∃i,i<=min xs.size ys.size/\rest=(xs.toList.zip ys.toList).drop i/\∀k,k<i->e k=true) _
  case turn=>
   rintro⟨y,x⟩ rest b s' ⟨hb',rfl,i,hi,hz,hR⟩;have hlt':i<(xs.toList.zip ys.toList).length:=by
    rcases Nat.lt_or_ge i (xs.toList.zip ys.toList).length with h'|h'
    ·exact h'
    ·rw [List.drop_of_length_le h'] at hz;cases hz
   have hm:i<min xs.size ys.size:=by lia
   have h1:i<xs.size:=by lia
   have h2:i<ys.size:=by lia
   rw [List.drop_eq_getElem_cons hlt'] at hz;injection hz with hyx hrest
   have hy:y=xs[i]:=by simpa using congrArg Prod.fst hyx
   have hx:x=ys[i]:=by simpa using congrArg Prod.snd hyx
   subst hy hx;refine AO (he i h1 h2 prog w _ _ ?_);cases hq:e i with
   |true=>
    wp_walk
    exact⟨rfl,rfl,i+1,by lia,hrest,λk hk=>by
     rcases Nat.lt_or_ge k i with h'|h'
     ·exact hR k h'
     ·rw [show k=i by lia];exact hq⟩
   |false=>
    have hl3:=hlt i h1 h2 hR hq;show AI _ A.in1 (rule _>>=λ_=>richCompare .Lt xs[i] ys[i]>>=λv=>ret v>>=λq=>pure (ForInStep.done (ξ q,()))) _ _ _;refine AO (wpAny_rule ?_);refine AO (hl3 prog w _ _ ?_);refine AO (Ae ?_);refine Ae ?_;exact Ae ⟨_,rfl,h⟩
  case fin=>
   rintro⟨b1,b2⟩ s' ⟨hb',rfl,i,hi,hz,hR⟩;simp only at hb';subst hb';have hge:min xs.size ys.size<=i:=by
    rcases Nat.lt_or_ge i (xs.toList.zip ys.toList).length with h'|h'
    ·rw [List.drop_eq_getElem_cons h'] at hz;cases hz
    ·lia
   wp_walk
   refine⟨_,rfl, ?_⟩;rw [hce λk hk=>hR k (by lia)] at h
   exact h
  case h=>
   exact⟨rfl,rfl,0,by lia,rfl,λk hk=>by lia⟩
variable {A:AM}{s:AC}
theorem a9X.tuples{l b:AB}{xs ys:Array AA}{e:Nat->Bool}{c:Bool}(hl:s.heap.IsTuple l xs)(hb:s.heap.IsTuple b ys)(hu:A.units<cLine)
 (he:∀j (h1:j<xs.size) (h2:j<ys.size),SeqAt.EqAt A.in1 s xs[j] ys[j] (e j)) (hlt:∀j (h1:j<xs.size) (h2:j<ys.size),(∀k,k<j->e k=true)->e j=false->a9X A.in1 s xs[j] ys[j] c)
 (hce:(∀k,k<min xs.size ys.size->e k=true)->c=decide (xs.size<ys.size)):a9X A s (.ref l) (.ref b) c:=λprog w E Q h=>by
 obtain⟨⟨c1,d1,t1,s1⟩,o1,e1,n1,k1⟩:=id hl
 obtain⟨⟨c2,d2,t2,s2⟩,o2,e2,n2,k2⟩:=id hb
 simp only at e1 k1 e2 k2
 subst e1 k1 e2 k2
 exact richCompare_meets_room (op:= .Lt) ⟨_,o1,rfl⟩ ⟨_,o2,rfl⟩ F.slot_tuple_lt F.entry_tuple_lt (F.args_tuple_lt_2 _ _) (b4r l b xs ys n1 n2 d1 d2 s1 s2 e c)
  ⟨⟨o1,o2⟩,he,hlt,hce,show Value.bool c≠Value.notImplemented/\Q (.bool c) s from⟨(λx=>nomatch x),h⟩⟩ hu
theorem a9X.ints(a b:Int)(t u:Tok):a9X A s (.int a t) (.int b u) (decide (a<b)):=λprog w E Q h=>wpAny_lt_int h
theorem a9X.strs(a b:Str)(t u:Tok):a9X A s (.str a t) (.str b u) (decide (a.cps.toList<b.cps.toList)):=λprog w E Q h=>lt_str h
end
mutual
def ltv:PV->PV->Υ Bool
 | .int i,.int j=>ξ (decide (i<j))
 | .str i,.str j=>ξ (decide (i.cps.toList<j.cps.toList))
 | .tuple ps,.tuple qs=>a73 ps qs
 |_,_=>ζ
def a73:List PV->List PV->Υ Bool
 |[],[]=>ξ false
 |[],_::_=>ξ true
 |_::_,[]=>ξ false
 |p::ps,q::qs=>if η p q=true then a73 ps qs else ltv p q
end
theorem b8p:∀{ps qs:List PV} {c:Bool},a73 ps qs=ξ c->∀j (p q:PV),ps[j]?=ξ p->qs[j]?=ξ q->(∀k,k<j->eAt ps qs k=true)->eAt ps qs j=false->ltv p q=ξ c
 |[],_,_,_,j,p,q,h1,_,_,_=>by simp at h1
 |_::_,[],_,_,j,p,q,_,h2,_,_=>by simp at h2
 |p'::ps,q'::qs,c,h,0,p,q,h1,h2,_,he=>by
  simp only [List.getElem?_cons_zero,Option.some.injEq] at h1 h2;subst h1 h2;rw [a73] at h;have:η p' q'=false:=by simpa [eAt] using he
  rw [this] at h
  simpa using h
 |p'::ps,q'::qs,c,h,j+1,p,q,h1,h2,hk,he=>by
  simp only [List.getElem?_cons_succ] at h1 h2;have h0:η p' q'=true:=by simpa [eAt] using hk 0 (by lia)
  rw [a73,if_pos h0] at h;refine b8p h j p q h1 h2 (λk hk'=> ?_) ?_
  ·simpa [eAt] using hk (k+1) (by lia)
  ·simpa [eAt] using he
theorem b5o:∀{ps qs:List PV} {c:Bool},a73 ps qs=ξ c->(∀k,k<min ps.length qs.length->eAt ps qs k=true)->c=decide (ps.length<qs.length)
 |[],[],c,h,_=>by simp [a73] at h;simp [h]
 |[],_::_,c,h,_=>by simp [a73] at h;simp [h]
 |_::_,[],c,h,_=>by simp [a73] at h;simp [h]
 |p::ps,q::qs,c,h,hk=>by
  have h0:η p q=true:=by simpa [eAt] using hk 0 (by simp)
  rw [a73,if_pos h0] at h;have:=b5o h λk hk'=>by simpa [eAt] using hk (k+1) (by simp at hk' ⊢;lia)
  simpa using this
section
variable {X:Cx}{pins:List (AB×Obj)}{σ:L2.St}{H:Hp}{s:AC}
theorem c5L(I:m6 X pins σ H s):∀(n:Nat) (A:AM) (p q:PV) (x y:V) (u w:AA) (c:Bool),A.units+n<cLine->y8 p n=true->y8 q n=true->ltv p q=ξ c->J7 X.K H p x->J7 X.K H q y->z7 x u->z7 y w->a9X A s u w c:=by
 intro n
 induction n with
 |zero=>
  intro A p q x y u w c hu hp hq hc rp rq rx ry;unfold ltv at hc;split at hc
  ·ext t
   exact .ints _ _ _ _
  ·ext t
   exact .strs _ _ _ _
  ·simp [y8] at hp
  ·cases hc
 |succ n ih=>
  intro A p q x y u w c hu hp hq hc rp rq rx ry;have hu0:A.units<cLine:=by lia
  have hu1:A.in1.units+n<cLine:=by rw [a87];lia
  unfold ltv at hc;split at hc
  ·ext t
   exact .ints _ _ _ _
  ·ext t
   exact .strs _ _ _ _
  ·rename_i ps qs;obtain⟨a,xs,rfl,hs,r⟩:=rp;cases rx;obtain⟨its,rv,pl,hz⟩:=I.tuple hs.sq;have okp:J9 ps n=true:=by simpa [y8] using hp
   obtain⟨b,ys,rfl,hs',r'⟩:=rq;cases ry;obtain⟨its2,rv',pl',hz'⟩:=I.tuple hs'.sq;have okq:J9 qs n=true:=by simpa [y8] using hq
   have hle:its.toArray.size=ps.length:=by rw [<-r.length,rv.length];simp
   have hle':its2.toArray.size=qs.length:=by rw [<-r'.length,rv'.length];simp
   have he:=b1X (A:=A.in1) (s:=s) r r' rv rv' λp q x y u w hp' hq' rp' rq' rx' ry'=>b6L I n A.in1 p q x y u w hu1 (O6 okp hp') (O6 okq hq') rp' rq' rx' ry';refine .tuples pl pl' hu0 he (λj h1 h2 hk hj=> ?_) λhk=> ?_
   ·have h1':j<its.length:=by simpa using h1
    have h2':j<its2.length:=by simpa using h2
    obtain⟨x,ex,rx⟩:=a8H rv h1';obtain⟨y,ey,ry⟩:=a8H rv' h2';obtain⟨p,ep,hp⟩:=r.getV ex;obtain⟨q,eq,hq⟩:=r'.getV ey;have:=ih A.in1 p q x y _ _ c hu1 (O6 okp (BA ep)) (O6 okq (BA eq)) (b8p hc j p q ep eq hk hj) hp hq rx ry
    simpa using this
   ·rw [hle,hle'];exact b5o hc λk hk'=>hk k (by rw [hle,hle'];exact hk')
  ·cases hc
end
section
variable {X:Cx}
end
section
variable {prog:AJ}{w:AH}{A:AM}{R:Result->AC->Prop}{I:AB}{fp wr:List AB}{n:Nat}{P:Nat->AA->Prop}{St:Nat->Heap->Prop}
def Kpt(h₀ h:Heap):Prop:=∀b o,h₀.get? b=ξ o->h.get? b=ξ o
theorem b9N(s₀:AC)(h₀:Heap)(W:Walks prog w A.in1 I fp wr n P St)(bt:Nat->Nat->Bool)(hwr:∀b∈wr,h₀.get? b=ζ)
 (hcmp:∀h tk,Kpt h₀ h->∀i j vi vj,P i vi->P j vj->a9X A.in1 {s₀ with heap:=h,toks:=tk} vi vj (bt i j)) (S:AB) (hSf:S∉fp) (hS0:h₀.get? S=ζ):
 ∀(k j:Nat) (h:Heap) (tk:Tok) (vb:AA) (c:Nat),n - (j+1)=k->j+1<=n->Kpt h₀ h->St (j+1) h->P (argBest bt j) vb->
  h.get? S=ξ {cls:= .type "list",dict:=ζ,data:= .seq #[vb,vb] c,slots:= #[]}->(∀v h' tk',P (argBest bt (n - 1)) v->Kpt h₀ h'->R (.ok (.ret v)) {s₀ with heap:=h',toks:=tk'})->
  codeAny (model prog w) A (.builtin "min.loop" ⟨[.ref I,.none,.ref S],[]⟩) R {s₀ with heap:=h,toks:=tk}:=by
 have hSw:S∉wr:=λz=>hSf (W.sub _ z)
 have nm:(toString "min"++toString ".loop":String)="min.loop":=by decide
 have kp:∀{h h':Heap},Kpt h₀ h->(∀b o,b∉wr->h.get? b=ξ o->h'.get? b=ξ o)->Kpt h₀ h':=λa b' b o e=>b' b o (λz=>by rw [hwr b z] at e;cases e) (a b o e)
 have ku:∀{h:Heap} {f:Obj->Obj},Kpt h₀ h->Kpt h₀ (h.update S f):=λa b o e=>(Heap.get?_update_other _ _ (λz:S=b=>by rw [<-z,hS0] at e;cases e)).trans (a b o e)
 intro k
 induction k with
 |zero=>
  intro j h tk vb c hk hj hK hst hPb hS hR
  have hin:j+1=n:=by lia
  refine codeAny_builtin PySem.F.entry_min_loop ?_
  rw [Around.under_plainId PySem.F.plain_min_loop _]
  show AI _ A.in1 (seqItems? (.ref S)>>=_) _ _ {s₀ with heap:=h,toks:=tk}
  refine AO (wpAny_seqItems hS rfl ?_)
  show AI _ A.in1 (tryCatch (pyNext (.ref I)) _>>=_) _ _ {s₀ with heap:=h,toks:=tk}
  refine AO (wpAny_tryCatch (W.done {s₀ with heap:=h,toks:=tk} _ _ (hin▸hst) λh' tk' hk'=> ?_))
  have hS':=hk' S _ hSw hS
  show AI _ A.in1 (updateSeq S (λ_=> #[])>>=_) _ _ {s₀ with heap:=h',toks:=tk'}
  refine AO (wpAny_updateSeq hS' rfl (AO (wpAny_letGo (Ae ?_))))
  exact hR vb _ tk' (by rw [<-hin];exact hPb) (ku (kp hK hk'))
 |succ k ih=>
  intro j h tk vb c hk hj hK hst hPb hS hR
  have hlt:j+1<n:=by lia
  refine codeAny_builtin PySem.F.entry_min_loop ?_
  rw [Around.under_plainId PySem.F.plain_min_loop _]
  show AI _ A.in1 (seqItems? (.ref S)>>=_) _ _ {s₀ with heap:=h,toks:=tk}
  refine AO (wpAny_seqItems hS rfl ?_)
  show AI _ A.in1 (tryCatch (pyNext (.ref I)) _>>=_) _ _ {s₀ with heap:=h,toks:=tk}
  refine AO (wpAny_tryCatch (W.item (j+1) {s₀ with heap:=h,toks:=tk} _ _ hlt hst λv h' tk' hP hst' hk'=> ?_))
  have hS':=hk' S _ hSw hS
  have hK':=kp hK hk'
  show AI _ A.in1 (tryCatch (holding [v,v] (richCompare .Lt v vb>>=_)) _>>=_) _ _ {s₀ with heap:=h',toks:=tk'}
  refine AO (wpAny_tryCatch (wpAny_holding (AO (hcmp h' tk' hK' (j+1) (argBest bt j) v vb hP hPb prog w _ _ ?_))))
  refine AO (wpAny_holding (wpAny_truthy_bool (AO (wpAny_letGo (Ae ?_)))))
  cases hb:bt (j+1) (argBest bt j) with
  |true=>
   simp only [if_true]
   refine AO (wpAny_updateSeq hS' rfl (AO (wpAny_letGo ?_)))
   rw [nm]
   refine Ae ⟨plainId_quiet PySem.F.plain_min_loop _,ih (j+1) _ tk' v _ (by lia) hlt (ku hK') (W.frame _ _ _ hst' λb hbf o e=> ?_) (by simp only [argBest,hb,if_true];exact hP) (Heap.get?_update_self _ hS' rfl) hR⟩
   exact(Heap.get?_update_other _ _ (λz:S=b=>hSf (by rw [z];exact hbf))).trans e
  |false=>
   simp only [BF,if_false]
   refine AO (wpAny_letGo ?_)
   rw [nm]
   exact Ae ⟨plainId_quiet PySem.F.plain_min_loop _,ih (j+1) _ tk' vb c (by lia) hlt hK' hst' (by simp only [argBest,hb,BF,if_false];exact hPb) hS' hR⟩
theorem b66(s₀:AC)(h₀:Heap)(W:Walks prog w A.in1 I fp wr n P St)(bt:Nat->Nat->Bool)(hwr:∀b∈wr,h₀.get? b=ζ)
 (hcmp:∀h tk,Kpt h₀ h->∀i j vi vj,P i vi->P j vj->a9X A.in1 {s₀ with heap:=h,toks:=tk} vi vj (bt i j)) (S:AB) (hSf:S∉fp) (hS0:h₀.get? S=ζ) (hn:0<n)
 {h:Heap} {tk:Tok} {c:Nat} (hK:Kpt h₀ h) (hst:St 0 h) (hS:h.get? S=ξ {cls:= .type "list",dict:=ζ,data:= .seq #[] c,slots:= #[]})
 (hR:∀v h' tk',P (argBest bt (n - 1)) v->Kpt h₀ h'->R (.ok (.ret v)) {s₀ with heap:=h',toks:=tk'}):codeAny (model prog w) A (.builtin "min.loop" ⟨[.ref I,.none,.ref S],[]⟩) R {s₀ with heap:=h,toks:=tk}:=by
 have hSw:S∉wr:=λz=>hSf (W.sub _ z)
 have nm:(toString "min"++toString ".loop":String)="min.loop":=by decide
 refine codeAny_builtin PySem.F.entry_min_loop ?_
 rw [Around.under_plainId PySem.F.plain_min_loop _]
 show AI _ A.in1 (seqItems? (.ref S)>>=_) _ _ {s₀ with heap:=h,toks:=tk}
 refine AO (wpAny_seqItems hS rfl ?_)
 show AI _ A.in1 (tryCatch (pyNext (.ref I)) _>>=_) _ _ {s₀ with heap:=h,toks:=tk}
 refine AO (wpAny_tryCatch (W.item 0 {s₀ with heap:=h,toks:=tk} _ _ hn hst λv h' tk' hP hst' hk'=> ?_))
 have hS':=hk' S _ hSw hS
 have hK':Kpt h₀ h':=λb o e=>hk' b o (λz=>by rw [hwr b z] at e;cases e) (hK b o e)
 show AI _ A.in1 (updateSeq S (λ_=> #[v,v])>>=_) _ _ {s₀ with heap:=h',toks:=tk'}
 refine AO (wpAny_updateSeq hS' rfl ?_)
 rw [nm]
 refine Ae ⟨plainId_quiet PySem.F.plain_min_loop _,b9N s₀ h₀ W bt hwr hcmp S hSf hS0 _ 0 _ tk' v _ rfl hn (λb o e=>(Heap.get?_update_other _ _ (λz:S=b=>by rw [<-z,hS0] at e;cases e)).trans (hK' b o e)) (W.frame _ _ _ hst' λb hbf o e=> ?_) hP (Heap.get?_update_self _ hS' rfl) hR⟩
 exact(Heap.get?_update_other _ _ (λz:S=b=>hSf (by rw [z];exact hbf))).trans e
end
section
variable {prog:AJ}{w:AH}{A:AM}{E:AA->AC->Prop}{s:AC}
theorem b9M{l:AB}{vs:Array AA}{Q:AA->AC->Prop}(hh:A.handled=ζ)(hl:s.heap.IsList l vs)(hn:0<vs.size)(bt:Nat->Nat->Bool)
 (hcmp:∀h tk,Kpt s.heap h->∀(i j:Nat) (vi vj:AA),vs[i]?=ξ vi->vs[j]?=ξ vj->a9X A.in1 {s with heap:=h,toks:=tk} vi vj (bt i j))
 (h:∀v h' tk,vs[argBest bt (vs.size - 1)]?=ξ v->Kpt s.heap h'->Q v {s with heap:=h',toks:=tk}):AI (model prog w) A (call (.builtin "min") [.ref l]) Q E s:=by
 have nm:(toString "min"++toString ".loop":String)="min.loop":=by decide
 have hlt:l<s.heap.objs.size:=by obtain⟨_,e,_⟩:=hl;exact Ag e
 refine call_function_tree PySem.F.kind_min PySem.F.plain_min PySem.F.entry_min (PySem.F.args_min1 _) ?_
 show AI _ A.in1 (Builtin.Builtins.bindParams "min" ["key","default"] 0 ⟨[],[]⟩>>=_) _ _ s
 refine AO (wpAny_of_eq (show Builtin.Builtins.bindParams "min" ["key","default"] 0 ⟨[],[]⟩=pure [ζ,ζ] from rfl) (AO (Ae ?_)))
 refine AO (wpAny_pyIter_list hl ?_)
 refine AO (wpAny_newObj_type ?_)
 rw [nm]
 have no:∀b,s.heap.objs.size<=b->s.heap.get? b=ζ:=λb hb=>by
  cases q:s.heap.get? b with
  |none=>rfl
  |some o=>exact absurd (Aw (Ag q) hb) (Nat.lt_irrefl _)
 have sz:∀o,(s.heap.push o).objs.size=s.heap.objs.size+1:=λo=>Heap.size_push _ _
 refine Ae ⟨plainId_quiet PySem.F.plain_min_loop _,b66 s s.heap (Walks.list (A:=A.in1) hh s.heap.objs.size l (As hlt) vs) bt (λb hb=>no b (by rw [List.mem_singleton.mp hb];exact AN _)) hcmp _ (λz=> ?_) (no _ (by show _<=(s.heap.push _).objs.size;rw [sz];lia)) hn (λb o e=>Am _ (Am _ e))
  ⟨⟨_,Am _ (At _ rfl),rfl,rfl⟩,(hl.push _).push _⟩ (At _ rfl) λv h' tk' hP hK=>h v h' tk' hP hK⟩
 have z':(s.heap.push {cls:= .type "list_iterator",data:= .fields #[.ref l,.int 0 0]}).objs.size∈[s.heap.objs.size,l]:=z
 rw [sz] at z'
 simp only [An,List.not_mem_nil,or_false] at z'
 rcases z' with z'|z'
 ·exact Nat.succ_ne_self _ z'
 ·rw [<-z'] at hlt
  exact absurd hlt (Nat.not_lt.mpr (Nat.le_succ _))
end
def btV(ps:List PV)(i j:Nat):Bool:=match ps[i]?,ps[j]? with
 |some p,ξ q=>(ltv p q).getD false
 |_,_=>false
def b5b(x:d4):Υ d4:=match x.rd with
 | .list ps=>if J9 ps 50=true/\0<ps.length/\(ps.all λp=>ps.all λq=>(ltv p q).isSome)=true then(ps[argBest (btV ps) (ps.length - 1)]?).map .v else ζ
 |_=>ζ
section
variable {X:Cx}
theorem c3g(hu:X.A.units+64<cLine)(hc:X.calm=true):T4 X (.builtin "min") (rC1 X.K b5b):=by
 ext d
 have hh:X.A.handled=ζ:=I.ok.hd hc;unfold b5b at h2;split at h2
 ·rename_i ps e;split at h2
  ·rename_i c;obtain⟨c1,c2,c3⟩:=c;cases hq:ps[argBest (btV ps) (ps.length - 1)]? with
   |none=>rw [hq] at h2;cases h2
   |some p=>
    rw [hq] at h2;cases h2;have rr:=h1.rd s0;rw [e] at rr;obtain⟨a,xs,rfl,hs,r⟩:=rr;obtain⟨u,rfl,ru⟩:=a5f rv;cases ru;obtain⟨its,rvv,pl,hz⟩:=I.list hs;obtain⟨a',xs',ea,hs',rF⟩:=a0l s0 h1 (show PyData.items? rx.rd=ξ ps by rw [e];rfl)
    cases ea;have ex':xs=xs':=by
     rcases hs' with hs'|hs'
     ·exact I.list_inj hs hs'
     ·exfalso
      obtain⟨_,_,⟨o',ho',hc',_⟩,_⟩:=I.tuple hs';obtain⟨o,ho,hc,_⟩:=pl.isList;rw [ho] at ho';cases ho';rw [hc] at hc';exact absurd hc' (by decide)
    subst ex';have hle:its.length=ps.length:=by rw [<-r.length,rvv.length]
    have at_:∀(i:Nat) (vi:AA),its.toArray[i]?=ξ vi->∃(p:PV) (x:V),ps[i]?=ξ p/\J7 X.K H p x/\z7 x vi/\J7 X.K F p x:=λi vi hi=>by
     have hi':its[i]?=ξ vi:=by simpa using hi
     obtain⟨hlt,e1⟩:=Av.mp hi';obtain⟨x,ex,rx⟩:=a8H rvv hlt;obtain⟨p,ep,hp⟩:=r.getV ex;obtain⟨p',ep',hp'⟩:=rF.getV ex;rw [ep] at ep';cases ep';rw [e1] at rx;exact⟨p,x,ep,hp,rx,hp'⟩
    refine b9M hh pl.isList (by simp;lia) (btV ps) (λh tk hK i j vi vj hi hj=> ?_) λv h' tk hv hK=> ?_
    ·obtain⟨p,x,ep,hp,rx,_⟩:=at_ i vi hi;obtain⟨q,y,eq,hq,ry,_⟩:=at_ j vj hj;have h3:=List.all_eq_true.mp (List.all_eq_true.mp c3 p (BA ep)) q (BA eq);obtain⟨b,hb⟩:=Option.isSome_iff_exists.mp h3;have:btV ps i j=b:=by simp [btV,ep,eq,hb]
     rw [this];exact c5L (I.kept (t':=tk) hK) 50 X.A.in1 p q x y _ _ b (by rw [a87];lia) (O6 c1 (BA ep)) (O6 c1 (BA eq)) hb hp hq rx ry
    ·obtain⟨q,y,eq,_,ry,hq'⟩:=at_ _ v hv;have:its.toArray.size=ps.length:=by simp [hle]
     rw [this,hq] at eq;cases eq;exact⟨y,H,I.kept (t':=tk) hK,ry,k _ F H (B4.here s0 hq')⟩
  ·cases h2
 ·cases h2
end
end PU
namespace TS
open PySem PyProof.Rows
section
variable {prog:AJ}{w:AH}{A:AM}{E:AA->AC->Prop}{s:AC}
variable {κ:SortKind}{S:Keyed->Prop}{R:Keyed->Keyed->Bool}
end
section
variable {prog:AJ}{w:AH}{A:AM}{E:AA->AC->Prop}{s:AC}
variable {κ:SortKind}{S:Keyed->Prop}{R:Keyed->Keyed->Bool}{a₀:Array Keyed}
end
section
variable {R:Keyed->Keyed->Bool}{W out la lb xs:List Keyed}
end
section
variable {prog:AJ}{w:AH}{A:AM}{E:AA->AC->Prop}{s:AC}
variable {κ:SortKind}{S:Keyed->Prop}{R:Keyed->Keyed->Bool}
section
variable {a b o:Array Keyed}{st st':SortSt}{i j mg u v x₀ x:Nat}
end
section
variable {a b:Array Keyed}{st st':SortSt}{x₀ x mg:Nat}
end
end
section
variable {R:Keyed->Keyed->Bool}{W out la lb xs:List Keyed}
end
section
variable {prog:AJ}{w:AH}{A:AM}{E:AA->AC->Prop}{s:AC}
variable {κ:SortKind}{S:Keyed->Prop}{R:Keyed->Keyed->Bool}
section
variable {a b o:Array Keyed}{st st':SortSt}{i j mg u v x₀ x:Nat}
end
section
variable {a b:Array Keyed}{st st':SortSt}{x₀ x mg:Nat}
end
end
section
variable {prog:AJ}{w:AH}{A:AM}{E:AA->AC->Prop}{s:AC}
variable {κ:SortKind}{S:Keyed->Prop}{R:Keyed->Keyed->Bool}{a₀:Array Keyed}
end
section
variable {R:Keyed->Keyed->Bool}{a b:Array Keyed}
end
section
variable {prog:AJ}{w:AH}{A:AM}{E:AA->AC->Prop}{s:AC}
variable {κ:SortKind}{S:Keyed->Prop}{R:Keyed->Keyed->Bool}{a₀:Array Keyed}
end
open PySem PySem.Spec PyProof.Rows
section
variable {prog:AJ}{w:AH}{A:AM}{E:AA->AC->Prop}{s:AC}
variable {κ:SortKind}{S:Keyed->Prop}{R:Keyed->Keyed->Bool}
end
open PySem PySem.Spec PyProof.Rows L2 PU
section
variable {prog:AJ}{w:AH}{A:AM}{E:AA->AC->Prop}{s:AC}
variable {κ:SortKind}{S:Keyed->Prop}{R:Keyed->Keyed->Bool}
end
end TS
namespace PU
open PySem PySem.Spec PyProof.Rows L2
section
variable {α:Type}{lt:α->α->Bool}
end
open PySem PySem.Spec PyProof.Rows L2 PySem.W
section
variable {prog:AJ}{w:AH}{A:AM}{E:AA->AC->Prop}{s:AC}
end
section
variable {X:Cx}{pins:List (AB×Obj)}{σ:L2.St}{F H:Hp}{s:AC}
end
section
variable {X:Cx}
end
def b0t(i:Nat)(m:M):MS:=λρ=>(m ρ).bind λr=>match r with
 | .ow (.lst qs)=>match ρ[i]? with
   |some (ξ (.ow (.lst ps)))=>if ps.length+qs.length<=AL then ξ (.nx (ρ.set i (ξ (.own (ps++qs))))) else ζ
   |_=>ζ
 |_=>ζ
section
variable {X:Cx}
theorem b9j(i:Nat){x:Str}{p apos cpos pos:Pos}{e:AF}{m:M}(hx:PE X (.Name x p) (a2P i))(ha:EE X e m)
 (hbase:attributeBase (.Name x p) "extend" X.env (eval (.Name x p) X.env)=eval (.Name x p) X.env:=by rfl)
 (hfew:((backTo cpos (AK [e] X.env)).all (λx=> !x.1)&&(backToKw cpos (keywordEach [] X.env)).all (λx=>x.1.isSome)
  && decide ([e].length+([]:List Keyword).length+(if([]:List Keyword).isEmpty then 0 else 1)<30))=true:=by rfl)
 (hline:(apos.endLine==cpos.line)=true:=by rfl) (hs:AK [e] X.env=(false,eval e X.env)::AK [] X.env:=by rfl) (hplain:(backTo cpos (AK [] X.env)).any (·.1)=false:=by rfl)
 (hsw:swapsWith (.Call (.Attribute (.Name x p) "extend" apos) [e] [] cpos) ζ pos.line X.env=pure false:=by rfl):
 ES X (.Expr (.Call (.Attribute (.Name x p) "extend" apos) [e] [] cpos) pos) (b0t i m):=
 G9 (a8m (b5W PySem.F.plainAttrs_list PySem.F.slot_list_extend PySem.F.type_list_extend b9O hx (J3 ha a0d hs) hbase hfew hline hs hplain) hsw) λD σ H h0=>L8 h0 λF0 H0 F ρ fl so e fin=>by
  ext aa
  ·rename_i qs;split at e
   ·rename_i ps eo;split at e
    ·rename_i c;cases e;obtain⟨v,h1,a,xs,rfl,fa,ha',rl⟩:=so.e.at_ i _ eo;refine⟨.ref a,h1,.inl ⟨rfl,xs,SqL.of ha'⟩,F,ρ,_,so.e,e1,λw F1 H1 o=> ?_⟩;obtain⟨b,zs,rfl,fb,hb,rb⟩:=o.rep;have so2:=so.ext o.x;refine⟨a,b,xs,zs,rfl,rfl,o.x.h _ _ ha',hb,by rw [rl.length,rb.length];exact c, ?_⟩
     exact fin σ F1 _ o.x.f (so2.put eo h1 ((o0.mono o.x.f _ rl).append rb))
    ·cases e
   ·cases e
  ·cases e
end
section
variable {prog:AJ}{w:AH}{A:AM}{E:AA->AC->Prop}{s:AC}{it d:AB}{i ep:Nat}{es:Array DictEntry}
end
end PU
namespace TS
open PySem PySem.Spec PyProof.Rows L2 PU
section
variable {prog:AJ}{w:AH}{A:AM}{E:AA->AC->Prop}{s:AC}
variable {κ:SortKind}{S:Keyed->Prop}{R:Keyed->Keyed->Bool}
end
end TS
namespace PU
open PySem PySem.Spec PyProof.Rows L2 PySem.W
section
variable {prog:AJ}{w:AH}{A:AM}{E:AA->AC->Prop}{s:AC}
end
section
variable {X:Cx}
end
open PySem PySem.Spec PyProof.Rows L2
section
variable {X:Cx}{pins:List (AB×Obj)}{σ:L2.St}{H:Hp}{s:AC}{a b:AB}{kvs:List (List m7×V)}{k:List m7}{v:V}{r:AA}{A:AM}{E:AA->AC->Prop}
end
section
variable {X:Cx}
end
def drp(F:Hp)(a:AB):Hp:=λb=>if b=a then ζ else F b
theorem X0{F:Hp}{a b:AB}(h:b≠a):drp F a b=F b:=by unfold drp;rw [if_neg h]
theorem a3K{F:Hp}{a:AB}:drp F a a=ζ:=by unfold drp;rw [if_pos rfl]
section
variable {K:AE}{F:Hp}{a:AB}{xs:List V}
theorem a3J{b:AB}(h:F b=ζ):drp F a b=ζ:=by
 unfold drp;split
 ·rfl
 ·exact h
end
section
variable {X:Cx}
end
section
variable {X:Cx}{tg:AF}
end
theorem b3T:typeLookup (.type "list") "keys"=pure ζ:=am_miss_of_fast (by decide+kernel)
section
variable {prog:AJ}{w:AH}{A:AM}{E:AA->AC->Prop}{s:AC}
theorem a7F{a:AB}{o:Obj}{xs:Array AA}{k:Nat}{name:Str}{Q:Υ AA->AC->Prop}
 (hx:s.heap.get? a=ξ o) (hc:o.cls= .type "list") (hdat:o.data= .seq xs k) (hd:o.dict=ζ) (hmiss:typeLookup (.type "list") name=pure ζ) (hname:(["__module__","__name__","__qualname__","__doc__","__annotations__"]:List Str).contains name=false) (hA:A.handled=ζ)
 (h:∀h' tk,(∀b ob,s.heap.get? b=ξ ob->h'.get? b=ξ ob)->Q ζ {s with heap:=h',toks:=tk}) (hsz:name.length+100<=AL:=by size_fits):
 AI (model prog w) A (getAttr? (.ref a) name) Q E s:=by
 obtain⟨c,dct,dat,sl⟩:=o
 simp only at hc hdat hd
 subst hc hdat hd
 obtain⟨hp,g,d,tk,os⟩:=s
 have hT:∀tk',(⟨hp,g,d,tk',os⟩:AC).TypeIs (.ref a) "list":=λ_=>⟨_,hx,rfl⟩
 have f1:=sub_AttributeError
 have f3:=F.slot_list_getattribute.lookup
 have f4:=F.slot_list_getattribute.bind (.ref a)
 have f5:=am_list_getattr_none
 unfold getAttr? getAttrBy? getAttrBy
 repeat (any_goals (first|assumption|exact hT _|((with_reducible show AI _ _ (call (Value.builtin "list.__getattribute__") _ _) _ _ _);refine call_meets F.slot_list_getattribute (hT _) am_entry_list_getattribute (F.args_list_getattribute_2 _ _) (meets_getattribute_miss_list a xs k sl name _ hmiss hname hsz) ⟨hx,hA,λh' tk' e hx'=> ?_⟩)|wp_step))
 obtain⟨t',u',he⟩:=hx'.there
 show AI _ _ (getattributeRaised _ _ _ _ _ _ _) _ _ _
 unfold getattributeRaised
 repeat (any_goals (first|assumption|wp_step))
 exact h _ _ hx'.keeps
end
theorem a3M:entryFor table "dict.update.loop"=ξ Builtin.«dict.update.loop»:=entryFor_of_tree (by kernel_rfl)
theorem W5:plainId "dict.update.loop"=true:=by decide+kernel
def b7q(kvs rest:List (List m7×V)):List (List m7×V):=rest.foldl (λd p=>a1d d p.1 p.2) kvs
section
variable {X:Cx}{pins:List (AB×Obj)}{σ:L2.St}{A:AM}{R:Result->AC->Prop}
end
section
variable {X:Cx}
end
def b3d(kvs rest:Γ):Γ:=rest.foldl (λd p=>a11 d p.1 p.2) kvs
theorem b3f{K:AE}{F:Hp}:∀{rest:Γ} {ws:List (List m7×V)} {kvs:Γ} {ys:List (List m7×V)},E3 K F kvs ys->E3 K F rest ws->E3 K F (b3d kvs rest) (b7q ys ws)
 |[],_,_,_,h,e=>by cases e;exact h
 |(k,p)::r,_,_,_,h,⟨v,t,e,q,z⟩=>by
  subst e;have g:=b3f (h.put (k:=k) q) z;exact g
section
variable {X:Cx}
end
open Builtin Builtin.Str
section
variable {prog:AJ}{w:AH}{A:AM}{E:AA->AC->Prop}{s:AC}{x y:Str}{t u:Tok}{Q:AA->AC->Prop}
end
section
variable {X:Cx}
def b9u(x:d4):Υ d4:=match x with
 | .v (.int i)=>if i.natAbs.log2<1920 then ξ (.v (.str (AQ (toString i)))) else ζ
 |_=>ζ
theorem b6D:T4 X (.type "str") (rC1 X.K b9u):=by
 ext d
 obtain⟨u,rfl,ru⟩:=a5f rv;unfold b9u at h2;split at h2
 ·rename_i i;split at h2
  ·rename_i c;cases h2;cases h1;obtain⟨t,rfl⟩:=ru;exact PySem.P.str_of_int c ⟨.str _,H,I.tok _,⟨_,rfl⟩,k _ F H (B4.here s0 rfl)⟩
  ·cases h2
 ·cases h2
def b8a(x:d4):Υ d4:=match x with
 | .v (.str z)=>if z.length<=640 then(PySem.intText? z).map λn=> .v (.int n) else ζ
 |_=>ζ
theorem c3e:T4 X (.type "int") (rC1 X.K b8a):=by
 ext d
 obtain⟨u,rfl,ru⟩:=a5f rv;unfold b8a at h2;split at h2
 ·rename_i z;split at h2
  ·rename_i c;cases hn:PySem.intText? z with
   |none=>rw [hn] at h2;cases h2
   |some n=>
    rw [hn] at h2;cases h2;cases h1;obtain⟨t,rfl⟩:=ru;exact PySem.W.KIN.call_text hn c ⟨.int n,H,I.tok _,⟨_,rfl⟩,k _ F H (B4.here s0 rfl)⟩
  ·cases h2
 ·cases h2
end
structure Chg(fs ex:List AB)(h h':Heap):Prop where
 keep:∀b o,h.get? b=ξ o->b∉fs->b∉ex->h'.get? b=ξ o
 slot:∀b o,h.get? b=ξ o->b∈fs->b∉ex->∃sl,h'.get? b=ξ {o with slots:=sl}
 size:h.objs.size<=h'.objs.size
structure ExT(h:Heap)(e C T:AB)(fl:AA)(dd:Υ AB):Prop where
 obj:∃oe vs,h.get? e=ξ oe/\oe.cls= .ref C/\oe.data= .fields vs/\vs[1]?=ξ (.ref T)/\oe.dict=dd
 ne:T≠e
 tb:∃oT ts,h.get? T=ξ oT/\oT.data= .fields ts/\ts[3]?=ξ fl
def Ex0(h:Heap)(e C:AB)(dd:Υ AB):Prop:=∃oe vs,h.get? e=ξ oe/\oe.cls= .ref C/\oe.data= .fields vs/\vs[1]?=ξ .none/\oe.dict=dd
theorem b9h(f:Array AA->Array AA)(o:Obj):(Obj.mapFields f o).dict=o.dict:=by
 obtain⟨c,d,dt,sl⟩:=o;cases dt<;>rfl
section
variable {M:Model}{A:AM}{E:AA->AC->Prop}{s:AC}{base:Heap}{env:Env}{outer:List Env}{L e C:AB}{dd:Υ AB}
theorem b24{oe:Obj}{vs:Array AA}{head:AA}{hadNext:Bool}{Q:Unit->AC->Prop}(hfr:A.frames=ξ (env::outer))(hl:s.heap.FunFrames base (env::outer))(hf:env.frame=ξ L)
 (he:s.heap.get? e=ξ oe) (hc:oe.cls= .ref C) (hd:oe.data= .fields vs) (hdn:oe.dict=dd) (hsz:1<vs.size)
 (k:∀T h',s.heap.objs.size<=T->ExT h' e C T (rawInt L) dd->Chg ((env::outer).filterMap (·.frame)) [e] s.heap h'->Q () {s with heap:=h'}):
 AI M A (do let a<-frameOf env;let pl<-entryPlaceOf L hadNext;let b<-EntryCells.newEntry head a .none (rawInt L) .none pl;setField (.ref e) 1 b) Q E s:=by
 have hef:e∉(env::outer).filterMap (·.frame):=λhm=>by
  obtain⟨_,o,ho,hnf⟩:=hl.mem hm;rw [he] at ho;cases ho;exact hnf vs hd
 refine AO (wpAny_frameOf_fun hfr hl hf λh₁ hs₁=> ?_)
 refine AO (wpAny_entryPlaceOf λpl hpl=> ?_)
 unfold EntryCells.newEntry newFields
 refine AO (wpAny_newObj_type ?_ (hpl.sizeOk5 _ _ _ _ _))
 generalize hT:({cls:= .type "traceback",dict:=ζ,data:= .fields ([head,.ref L,.none,rawInt L,.none]++(if pl.isEmpty then AV 6 Value.none else pl)).toArray}:Obj)=oT
 have he₁:h₁.get? e=ξ oe:=(hs₁.2.1 e hef).trans he
 have he₂:=Am (h:=h₁) oT he₁
 have hTe:h₁.objs.size≠e:=Nat.ne_of_gt (Ag he₁)
 have hd₃:=Obj.data_mapFields hd (·.setIfInBounds 1 (Value.ref h₁.objs.size))
 have he₃:=Heap.get?_update_self (Obj.mapFields (·.setIfInBounds 1 (Value.ref h₁.objs.size))) he₂ (Obj.isFreed_of_fields hd₃)
 have oth:∀b o,b≠e->h₁.get? b=ξ o->((h₁.push oT).update e (Obj.mapFields (·.setIfInBounds 1 (Value.ref h₁.objs.size)))).get? b=ξ o:=λb o hb hbo=>by
  rw [Heap.get?_update_other _ _ (Ne.symm hb)];exact Am _ hbo
 have hT3:((h₁.push oT).update e (Obj.mapFields (·.setIfInBounds 1 (Value.ref h₁.objs.size)))).get? h₁.objs.size=ξ oT:=by
  rw [Heap.get?_update_other _ _ (Ne.symm hTe)];exact At h₁ (by rw [<-hT];rfl)
 refine wpAny_setField he₂ hd hsz (k h₁.objs.size _ (Nat.le_of_eq hs₁.1.symm) ⟨⟨_,_,he₃,(Obj.cls_mapFields _ _).trans hc,hd₃,by simp [hsz],(b9h _ _).trans hdn⟩,hTe,oT,_,hT3,by rw [<-hT], ?_⟩ ⟨λb o hb hbf hbe=> ?_,λb o hb hbf hbe=> ?_, ?_⟩)
 ·rcases hpl with rfl|⟨_,_,_,_,_,_,_,rfl⟩<;>simp
 ·exact oth b o (λz=>hbe (by rw [z];exact List.mem_singleton.mpr rfl)) ((hs₁.2.1 b hbf).trans hb)
 ·obtain⟨sl,hs⟩:=hs₁.2.2 b o hb
  exact⟨sl,oth b _ (λz=>hbe (by rw [z];exact List.mem_singleton.mpr rfl)) hs⟩
 ·rw [Heap.size_update,Heap.size_push,hs₁.1];lia
theorem b69{Q:Unit->AC->Prop}(hfr:A.frames=ξ (env::outer))(hl:s.heap.FunFrames base (env::outer))(hf:env.frame=ξ L)(x:Ex0 s.heap e C dd)
 (k:∀T h',s.heap.objs.size<=T->ExT h' e C T (rawInt L) dd->Chg ((env::outer).filterMap (·.frame)) [e] s.heap h'->Q () {s with heap:=h'}):AI M A (noteFrame (.ref e) env) Q E s:=by
 obtain⟨oe,vs,he,hc,hd,h1,hdn⟩:=x
 unfold noteFrame
 simp only [hf]
 refine AO (wpAny_field he hd h1 ?_)
 rw [if_neg (by decide)]
 exact b24 hfr hl hf he hc hd hdn (Array.getElem?_eq_some_iff.mp h1).1 k
theorem b3F{fl:AA}{T:AB}{Q:Unit->AC->Prop}(x:ExT s.heap e C T fl dd)(fr:Υ AB)(k:∀h',ExT h' e C T (fr.elim .none λf=>rawInt f) dd->Chg [] [T] s.heap h'->h'.objs.size=s.heap.objs.size->Q () {s with heap:=h'}):AI M A (setFlight (.ref e) fr) Q E s:=by
 obtain⟨⟨oe,vs,he,hc,hd,h1,hdn⟩,hne,oT,ts,hT,hdT,h3⟩:=x;have hsz:=(Array.getElem?_eq_some_iff.mp h3).1;unfold setFlight;refine AO (wpAny_field he hd h1 ?_);rw [if_pos (show(Value.ref T !=Value.none)=true from by simp)]
 refine wpAny_setField hT hdT hsz (k _ ⟨⟨oe,vs, ?_,hc,hd,h1,hdn⟩,hne,_,_,Heap.get?_update_self _ hT (Obj.isFreed_of_fields (Obj.data_mapFields hdT _)),Obj.data_mapFields hdT _,by simp [hsz]⟩ ⟨λb o hb _ hbe=> ?_,(λb o _ hb=>nomatch hb), ?_⟩ ?_)
 ·rw [Heap.get?_update_other _ _ hne];exact he
 ·rw [Heap.get?_update_other _ _ (λz=>hbe (by rw [<-z];exact List.mem_singleton.mpr rfl))];exact hb
 ·rw [Heap.size_update];exact AN _
 ·rw [Heap.size_update]
theorem Chg.trans{fs ex ex':List AB}{h h1 h2:Heap}(x:Chg fs ex h h1)(y:Chg fs ex' h1 h2):Chg fs (ex++ex') h h2 where
 keep:=λb o e hf hx=>y.keep b o (x.keep b o e hf λz=>hx (BD _ z)) hf λz=>hx (Au _ z)
 slot:=λb o e hf hx=>by
  obtain⟨sl,e1⟩:=x.slot b o e hf λz=>hx (BD _ z);obtain⟨sl2,e2⟩:=y.slot b {o with slots:=sl} e1 hf λz=>hx (Au _ z)
  exact⟨sl2,e2⟩
 size:=Nat.le_trans x.size y.size
theorem Chg.more{fs fs' ex ex':List AB}{h h':Heap}(x:Chg fs ex h h')(hf:∀b∈fs,b∈fs')(he:∀b∈ex,b∈ex'):Chg fs' ex' h h' where
 keep:=λb o e h1 h2=>x.keep b o e (λz=>h1 (hf b z)) λz=>h2 (he b z)
 slot:=λb o e h1 h2=>by
  by_cases hb:b∈fs
  ·exact x.slot b o e hb λz=>h2 (he b z)
  ·exact⟨o.slots,x.keep b o e hb λz=>h2 (he b z)⟩
 size:=x.size
theorem Chg.funs{fs ex:List AB}{h h':Heap}{l:List Env}(x:Chg fs ex h h')(hl:h.FunFrames base l)(hx:∀b∈ex,∀o,h.get? b=ξ o->∃vs,o.data= .fields vs):h'.FunFrames base l:=
 hl.of_keeps λb o hb hnf=>by
  have hbx:b∉ex:=λz=>by
   obtain⟨vs,hd⟩:=hx b z o hb;exact hnf vs hd
  by_cases hbf:b∈fs
  ·obtain⟨sl,e⟩:=x.slot b o hb hbf hbx;exact⟨_,e,rfl⟩
  ·exact⟨o,x.keep b o hb hbf hbx,rfl⟩
theorem b25{fl:AA}{T:AB}{Q:Unit->AC->Prop}(hfr:A.frames=ξ (env::outer))(hl:s.heap.FunFrames base (env::outer))(hf:env.frame=ξ L)(x:ExT s.heap e C T fl dd)(hne:fl≠rawInt L)
 (k:∀T' h',s.heap.objs.size<=T'->ExT h' e C T' (rawInt L) dd->Chg ((env::outer).filterMap (·.frame)) [T,e] s.heap h'->Q () {s with heap:=h'}):AI M A (noteFrame (.ref e) env) Q E s:=by
 obtain⟨⟨oe,vs,he,hc,hd,h1,hdn⟩,hTe,oT,ts,hT,hdT,h3⟩:=x
 have hsz:=(Array.getElem?_eq_some_iff.mp h3).1
 unfold noteFrame
 simp only [hf]
 refine AO (wpAny_field he hd h1 ?_)
 rw [if_pos (show(Value.ref T !=Value.none)=true from by simp)]
 refine AO (wpAny_field hT hdT h3 ?_)
 rw [if_neg (by simpa using hne)]
 refine AO (wpAny_setField hT hdT hsz ?_)
 have c1:Chg ((env::outer).filterMap (·.frame)) [T] s.heap (s.heap.update T (Obj.mapFields (·.setIfInBounds 3 Value.none))):=⟨λb o hb _ hbe=>by
  rw [Heap.get?_update_other _ _ (λz=>hbe (by rw [<-z];exact List.mem_singleton.mpr rfl))];exact hb,λb o hb _ hbe=>⟨o.slots,by
  rw [Heap.get?_update_other _ _ (λz=>hbe (by rw [<-z];exact List.mem_singleton.mpr rfl))];exact hb⟩,by rw [Heap.size_update];exact AN _⟩
 have hl':=c1.funs hl λb hb o ho=>by
  rw [List.mem_singleton.mp hb,hT] at ho;cases ho;exact⟨ts,hdT⟩
 refine b24 (s:={s with heap:=s.heap.update T (Obj.mapFields (·.setIfInBounds 3 Value.none))}) hfr hl' hf (by rw [Heap.get?_update_other _ _ hTe];exact he) hc hd hdn (Array.getElem?_eq_some_iff.mp h1).1 λT' h' hT' x' c'=>k T' h' ?_ x' (c1.trans c')
 have:(s.heap.update T (Obj.mapFields (·.setIfInBounds 3 Value.none))).objs.size=s.heap.objs.size:=Heap.size_update ..
 rw [<-this];exact hT'
end
def CX1(P:AJ)(w:AH):CXT:=λouter H s E e s'=>∃a C T dd H',e= .ref a/\s'.os=s.os/\AllBare s'.gens/\Un (frs outer) [] H H' s.heap s'.heap/\HOk P w H' s'.heap/\
 s.heap.get? a=ζ/\s.heap.get? T=ζ/\H' a=ζ/\H' T=ζ/\ExT s'.heap a C T .none dd/\E (.ref C) dd H'
theorem ExT.thereT{h:Heap}{e C T:AB}{fl:AA}{dd:Υ AB}(x:ExT h e C T fl dd):∃o,h.get? T=ξ o:=by obtain⟨o,_,h1,_⟩:=x.tb;exact⟨o,h1⟩
theorem b3N{P:AJ}{w:AH}{H:Hp}{h h':Heap}{fs ex:List AB}(x:HOk P w H h)(c:Chg fs ex h h')(hf:∀b∈fs,H b=ζ)(he:∀b∈ex,H b=ζ):HOk P w H h':=λa o e=>
 (x a o e).stay (λb u hb q=>by
  have hn:∃z,H b=ξ z:=by
   rcases hb with rfl|hb
   ·exact⟨_,e⟩
   ·exact⟨_,hb⟩
  obtain⟨z,hz⟩:=hn;exact c.keep b u q (λm=>by rw [hf b m] at hz;cases hz) λm=>by rw [he b m] at hz;cases hz) (λ_ q=>q) λ_ _ q=>q
theorem c2U{fs ex fs':List AB}{H H1:Hp}{h h1 h2:Heap}(u:Un fs [] H H1 h h1)(c:Chg fs' ex h1 h2)(hfs:∀b∈fs',b∈fs\/h.objs.size<=b)(hex:∀b∈ex,h.get? b=ζ):Un fs [] H H1 h h2 where
 keep:=λb o e hn hf hx=>by
  have hlt:b<h.objs.size:=Ag e;refine c.keep b o (u.keep b o e hn hf hx) (λm=> ?_) λm=>by rw [hex b m] at e;cases e
  rcases hfs b m with h|h
  ·exact hf h
  ·exact Nat.lt_irrefl _ (Aw hlt h)
 slot:=λb o e hn hf hx=>by
  have hlt:b<h.objs.size:=Ag e;obtain⟨sl,e1⟩:=u.slot b o e hn hf hx
  by_cases hb:b∈fs'
  ·obtain⟨sl2,e2⟩:=c.slot b {o with slots:=sl} e1 hb λm=>by rw [hex b m] at e;cases e
   exact⟨sl2,e2⟩
  ·exact⟨sl,c.keep b _ e1 hb λm=>by rw [hex b m] at e;cases e⟩
 free:=u.free
 there:=λb o e hx=>by
  obtain⟨o1,e1⟩:=u.there b o e hx
  by_cases hb:b∈ex
  ·rw [hex b hb] at e;cases e
  ·by_cases hb2:b∈fs'
   ·obtain⟨sl,e2⟩:=c.slot b o1 e1 hb2 hb;exact⟨_,e2⟩
   ·exact⟨_,c.keep b o1 e1 hb2 hb⟩
 tups:=u.tups
 frzs:=u.frzs
 tbls:=u.tbls
section
variable {P:AJ}{w:AH}{K:AE}{mg:Str->Υ AA}{base:Heap}{N:List Str}{qual:Str}{scope:Scope}{f:AB}{cd:AA}{A:AM}{outer:List Env}{s:AC}{H:Hp}{E:XK}
theorem a1D{pins:List (AB×Obj)}{σ:L2.St}{H2:Hp}{s2:AC}{a C:AB}{dd:Υ AB}(I:m6 (a5q (CX1 P w) P w K mg base N qual scope f cd A outer s H E) pins σ H2 s2)(x:Ex0 s2.heap a C dd)(ha:s.heap.get? a=ζ)(hn:H2 a=ζ)(hE:E (.ref C) dd H2):
 (a5q (CX1 P w) P w K mg base N qual scope f cd A outer s H E).xe (.ref a) s2:=by
 show AI (model P w) _ (leaving (envOfC qual scope s.heap.objs.size f cd) (.ref a)) _ _ s2
 unfold leaving
 have hfree:∀b∈(envOfC qual scope s.heap.objs.size f cd::outer).filterMap (·.frame),H2 b=ζ:=I.stkFree
 refine AO (b69 I.ok.frames I.stack rfl x λT h1 hT x1 c1=> ?_)
 refine b3F x1 ζ λh2 x2 c2 _=> ?_
 have hTn:H2 T=ζ:=I.hok.fresh hT
 have c:Chg ((envOfC qual scope s.heap.objs.size f cd::outer).filterMap (·.frame)) ([a]++[T]) s2.heap h2:=c1.trans (c2.more (λb hb=>nomatch hb) λb hb=>hb)
 have hsz:s.heap.objs.size<=s2.heap.objs.size:=I.sz
 have hex:∀b∈[a]++[T],s.heap.get? b=ζ:=λb hb=>by
  rcases Aq.mp hb with h|h<;>rw [List.mem_singleton.mp h]
  ·exact ha
  ·exact Heap.get?_none_of_le (Nat.le_trans hsz hT)
 refine⟨a,C,T,dd,H2,rfl,I.os,I.bare,c2U I.base c (λb hb=> ?_) hex,b3N I.hok c hfree λb hb=> ?_,ha,Heap.get?_none_of_le (Nat.le_trans hsz hT),hn,hTn,x2,hE⟩
 ·rcases An.mp (I.stkSub b hb) with h|h
  ·exact .inr (by rw [h];exact I.ok.above)
  ·exact .inl h
 ·rcases Aq.mp hb with h|h<;>rw [List.mem_singleton.mp h]
  ·exact hn
  ·exact hTn
theorem b6Z:b0D (CX1 P w) (a5q (CX1 P w) P w K mg base N qual scope f cd A outer s H E) E:=by
 intro pins σ H1 s1 e s' I h;obtain⟨a,C,T,dd,H2,rfl,ho,hb,un,hok,ha,hT,hn,hTn,x,hE⟩:=h;have J:m6 (a5q (CX1 P w) P w K mg base N qual scope f cd A outer s H E) pins σ H2 s':=I.call' (ch:=[]) ho un hok hb λb z=>nomatch z;show AI (model P w) _ (leaving (envOfC qual scope s.heap.objs.size f cd) (.ref a)) _ _ s';unfold leaving;have hfree:∀b∈(envOfC qual scope s.heap.objs.size f cd::outer).filterMap (·.frame),H2 b=ζ:=J.stkFree;refine AO (b25 J.ok.frames J.stack rfl x (by simp [rawInt]) λT' h1 hT' x1 c1=> ?_)
 refine b3F x1 ζ λh2 x2 c2 _=> ?_;have hTn':H2 T'=ζ:=J.hok.fresh hT';have c:Chg ((envOfC qual scope s.heap.objs.size f cd::outer).filterMap (·.frame)) ([T,a]++[T']) s'.heap h2:=c1.trans (c2.more (λb hb=>nomatch hb) λb hb=>hb);have hsz:s.heap.objs.size<=s'.heap.objs.size:=J.sz;have back:∀b,s1.heap.get? b=ζ->s.heap.get? b=ζ:=λb hb=>by
  cases h:s.heap.get? b with
  |none=>rfl
  |some o=>
   obtain⟨o',e⟩:=I.base.there b o h (λz=>nomatch z);rw [hb] at e;cases e
 have mem:∀b∈[T,a]++[T'],b=T\/b=a\/b=T':=λb hb=>by simpa using hb
 obtain⟨oT,hoT⟩:=x.thereT;refine⟨a,C,T',dd,H2,rfl,J.os,J.bare,c2U J.base c (λb hb=> ?_) (λb hb=> ?_),b3N J.hok c hfree λb hb=> ?_,back a ha,Heap.get?_none_of_le (Nat.le_trans hsz hT'),hn,hTn',x2,hE⟩
 ·rcases An.mp (J.stkSub b hb) with h|h
  ·exact .inr (by rw [h];exact J.ok.above)
  ·exact .inl h
 ·rcases mem b hb with rfl|rfl|rfl
  ·exact back _ hT
  ·exact back _ ha
  ·exact Heap.get?_none_of_le (Nat.le_trans hsz hT')
 ·rcases mem b hb with rfl|rfl|rfl
  ·exact hTn
  ·exact hn
  ·exact hTn'
end
theorem b6p{P:AJ}{w:AH}{H:Hp}{h:Heap}{a:AB}:∀{o:HO},Q1 P w H h a o->∃ob,h.get? a=ξ ob
 | .lst _,⟨_,_,_,_,e⟩=>⟨_,e⟩
 | .tup _,⟨_,_,_,o,e,_⟩=>⟨_,e⟩
 | .dK _,⟨_,_,_,_,o,_,_,e,_⟩=>⟨_,e⟩
 | .dT _,⟨_,_,_,_,o,_,_,e,_⟩=>⟨_,e⟩
 | .set _ _,⟨o,_,_,_,e,_⟩=>⟨_,e⟩
 | .ins _ _ _,⟨_,_,_,e,_⟩=>⟨_,e⟩
 | .own _,⟨_,e⟩=>⟨_,e⟩
 | .xd _,⟨_,⟨_,_,_,e,_⟩,_⟩=>⟨_,e⟩
 | .rng _ _,⟨_,_,_,e⟩=>⟨_,e⟩
 | .frz _ _,⟨e,_⟩=>⟨_,e⟩
 | .tbl _,e=>⟨_,e⟩
 | .met _ _,e=>⟨_,e⟩
 | .ext _,⟨_,e,_⟩=>e
def b1k:List AA:=[.type "ValueError",.type "Exception",.type "BaseException",.type "object"]
def c0p(C:AB)(h:Heap):Prop:=∃tl N nm q bs hdct sn sub ab col dd k0 k1 k2 k3 k5,
 h.get? C=ξ (excClassObj nm q C N bs tl hdct sn sub ab col dd k0 k1 k2 k3 k5 "ValueError.__new__")/\OwnTail h b1k tl
def c5b(C:AB)(h:Heap):Prop:=∃tl N nm q bs hdct sn sub ab col dd k0 k1 k2 k3 k5 mN,
 h.get? C=ξ (excClassObj nm q C N bs tl hdct sn sub ab col dd k0 k1 k2 k3 k5 "ValueError.__new__")/\h.Ns N mN/\mN "__init__"=ζ/\OwnTail h b1k tl
section
variable {X:Cx}{x:Str}{C:AB}{np cpos pos:Pos}{e₀:AF}{rest:List AF}{t:TA}{W:Hp->Prop}
theorem c2a(hc:X.calm=true)(hx0:X.ex=[])(hg:Gl X x)(hm:X.mg x=ξ (.ref C))(hX:c5b C X.base)(ha:PA X (e₀::rest) t)
 (hxe:∀(pins:List (AB×Obj)) (σ:L2.St) (H:Hp) (s:AC) (a:AB),m6 X pins σ H s->Ex0 s.heap a C ζ->X.s₀.heap.get? a=ζ->H a=ζ->W H->X.xe (.ref a) s)
 (he:Ψ e₀ rest X.env:=by rfl) (hplain:Φ₁ cpos rest X.env:=by rfl) (hdb:Δ x:=by decide):
 PS X (.Raise (ξ (.Call (.Name x np) (e₀::rest) [] cpos)) ζ pos) (λ_ σ H=>t σ H λvs H1=>vs.length<=AL/\W H1):=by
 intro pins s σ H D I h
 obtain⟨tl,N,nm,q,bs,hdct,sn,sub,ab,col,dd,k0,k1,k2,k3,k5,mN,hC,hN,hni,T⟩:=hX
 have FB:=F.excBase_ValueError
 refine wpAny_Raise_call_subT (C:=C) (nm:=nm) (q:=q) (N:=N) (bs:=bs) (bm:=tl) (hdct:=hdct) (sn:=sn) (sub:=sub) (ab:=ab) (col:=col) (dd:=dd) (k0:=k0) (k1:=k1) (k2:=k2) (k3:=k3) (k5:=k5)
  FB (mN:=mN) (T.hasType FB.hasBase) (I.ok.hd hc) (by rw [he];show(false||(backTo cpos (AK rest X.env)).any (·.1))=false;rw [hplain];rfl) hni (a71 I hg hm ⟨rfl, ?_⟩ hdb)
 have hA:=ha cpos pins s σ H _ I h
 rw [he] at hA ⊢
 refine Calls.evalArgs_plain (R1 hA λus s2 h0=>a6k h0 λvs H2 I2 r2 hl q2=>⟨rfl,by rw [<-r2.length];exact hl,I2.bk _ _ hC,hN.keeps I2.bk,T.keeps I2.bk,λh' a hmk=> ?_⟩)
 obtain⟨tt,h1,_,_⟩:=hmk.there
 have hn:H2 a=ζ:=by
  cases h:H2 a with
  |none=>rfl
  |some o=>
   obtain⟨ob,e⟩:=b6p (I2.hok a o h);rw [hmk.new] at e;cases e
 have h0:X.s₀.heap.get? a=ζ:=by
  cases h:X.s₀.heap.get? a with
  |none=>rfl
  |some o=>
   obtain⟨o',e⟩:=I2.base.there a o h (λz=>by rw [hx0] at z;cases z)
   rw [hmk.new] at e;cases e
 have I3:m6 X pins σ H2 {s2 with heap:=h'}:=I2.kept (t':=s2.toks) hmk.keeps
 exact hxe pins σ H2 {s2 with heap:=h'} a I3 ⟨_,_,h1,rfl,rfl,rfl,rfl⟩ h0 hn q2
end
theorem c4P{fs ex0 ex fs':List AB}{H H1:Hp}{h h1 h2:Heap}(u:Un fs ex0 H H1 h h1)(c:Chg fs' ex h1 h2)(hfs:∀b∈fs',b∈fs\/h.objs.size<=b)(hex:∀b∈ex,h.get? b=ζ):Un fs ex0 H H1 h h2 where
 keep:=λb o e hn hf hx=>by
  have hlt:b<h.objs.size:=Ag e;refine c.keep b o (u.keep b o e hn hf hx) (λm=> ?_) λm=>by rw [hex b m] at e;cases e
  rcases hfs b m with h|h
  ·exact hf h
  ·exact Nat.lt_irrefl _ (Aw hlt h)
 slot:=λb o e hn hf hx=>by
  obtain⟨sl,e1⟩:=u.slot b o e hn hf hx
  by_cases hb:b∈fs'
  ·obtain⟨sl2,e2⟩:=c.slot b {o with slots:=sl} e1 hb λm=>by rw [hex b m] at e;cases e
   exact⟨sl2,e2⟩
  ·exact⟨sl,c.keep b _ e1 hb λm=>by rw [hex b m] at e;cases e⟩
 free:=u.free
 there:=λb o e hx=>by
  obtain⟨o1,e1⟩:=u.there b o e hx
  by_cases hb:b∈ex
  ·rw [hex b hb] at e;cases e
  ·by_cases hb2:b∈fs'
   ·obtain⟨sl,e2⟩:=c.slot b o1 e1 hb2 hb;exact⟨_,e2⟩
   ·exact⟨_,c.keep b o1 e1 hb2 hb⟩
 tups:=u.tups
 frzs:=u.frzs
 tbls:=u.tbls
theorem Chg.any{fs ex:List AB}{h h':Heap}(c:Chg fs ex h h'){b:AB}{o:Obj}(e:h.get? b=ξ o)(hb:b∉ex):∃sl,h'.get? b=ξ {o with slots:=sl}:=by
 by_cases hf:b∈fs
 ·exact c.slot b o e hf hb
 ·exact⟨o.slots,c.keep b o e hf hb⟩
section
variable {X:Cx}{pins:List (AB×Obj)}{σ:L2.St}{H:Hp}{s:AC}
theorem m6.chg{h':Heap}{ex:List AB}(I:m6 X pins σ H s)(c:Chg (frs X.stack) ex s.heap h')(h0:∀b∈ex,X.s₀.heap.get? b=ζ)(hn:∀b∈ex,H b=ζ)
 (hL:∀b∈ex,b≠X.env.locals) (hc:∀b∈ex,∀x z,X.env.cells.lookup x=ξ z->z≠b) (hp:∀b∈ex,∀p∈X.pn++pins,p.1≠b):m6 X pins σ H {s with heap:=h'} where
 ok:=I.ok
 os:=I.os
 bare:=I.bare
 base:=c4P I.base c (λb hb=>by
  rcases An.mp (I.stkSub b hb) with h|h
  ·exact .inr (by rw [h];exact I.ok.above)
  ·exact .inl h) h0
 loc:=by
  obtain⟨m,⟨o,es,ep,ho,hd,r⟩,hm⟩:=I.loc;obtain⟨sl,e⟩:=c.any ho λz=>hL _ z rfl;refine⟨m,⟨_,es,ep,e,hd,r⟩,λi x v h1 h2 h3=> ?_⟩;obtain⟨u,ru,hk⟩:=hm i x v h1 h2 h3;refine⟨u,ru, ?_⟩;rcases hk with hk|⟨hk,z,hz,oz,hoz,hdz⟩
  ·exact .inl hk
  ·obtain⟨sl2,e2⟩:=c.any hoz λm=>hc _ m x z hz rfl;exact .inr ⟨hk,z,hz,_,e2,hdz⟩
 cell:=λx z hz=>by
  obtain⟨v,oz,hoz,hdz⟩:=I.cell x z hz;obtain⟨sl2,e2⟩:=c.any hoz λm=>hc _ m x z hz rfl;exact⟨v,_,e2,hdz⟩
 free:=I.free
 freeC:=I.freeC
 pin:=λp hpm=>by
  obtain⟨h1,h2,h3,h4,h5⟩:=I.pin p hpm;refine⟨c.keep _ _ h1 (λm=> ?_) λm=>hp _ m p hpm rfl,h2,h3,h4,h5⟩;rcases An.mp (I.stkSub _ m) with h|h
  ·exact h3 h
  ·exact h4 h
 hok:=b3N I.hok c (λb hb=>I.stkFree b hb) hn
 len:=I.len
end
structure XT where
 cls:Str
 fs:List (PV×PV)
def XF(K:AE)(F:Hp)(fs:List (PV×PV))(dd:Υ AB):Prop:=(fs=[]/\dd=ζ)\/∃d vs,dd=ξ d/\F d=ξ (.xd vs)/\fs≠[]/\b12 K F fs vs
inductive FX where
 |fl (f:Fl)|rz (c:XT) (ρ:c9)
abbrev MX:=c9->Υ FX
def c0k(K:AE)(mg:Str->Υ AA)(E:L2.St->XK)(F0 H0 F:Hp)(σ0:L2.St)(D:a2O):FX->Prop
 | .fl f=>Fin K F0 H0 F D f
 | .rz c ρ=>∃C,mg c.cls=ξ (.ref C)/\∀σ dd F' H',m5 F F'->SOk K F0 H0 F' H' σ ρ->XF K F' c.fs dd->E σ (.ref C) dd H'
theorem c0k.later{K:AE}{mg:Str->Υ AA}{E:L2.St->XK}{F0 H0 F F1:Hp}{σ0 σ1:L2.St}{D:a2O}(s:m5 F F1):∀{fx:FX},c0k K mg E F0 H0 F σ0 D fx->c0k K mg E F0 H0 F1 σ1 D fx
 | .fl _,h=>Fin.later s h
 | .rz _ _,⟨C,h1,h2⟩=>⟨C,h1,λσ a F' H' s' so hn=>h2 σ a F' H' (s.trans s') so hn⟩
def tMX(K:AE)(mg:Str->Υ AA)(E:L2.St->XK)(m:MX):TS:=λD σ H=>∃F0 H0 F ρ fx,SOk K F0 H0 F H σ ρ/\m ρ=ξ fx/\c0k K mg E F0 H0 F σ D fx
theorem b4q{K:AE}{mg:Str->Υ AA}{E:L2.St->XK}{m:MX}{D:a2O}{σ:L2.St}{H:Hp}{C:Prop}(h:tMX K mg E m D σ H)(k:∀F0 H0 F ρ fx,SOk K F0 H0 F H σ ρ->m ρ=ξ fx->c0k K mg E F0 H0 F σ D fx->C):C:=
 h.elim λa h=>h.elim λb h=>A1 h (k a b)
abbrev EX(X:Cx)(E:L2.St->XK)(st:Stmt)(m:MX):Prop:=PS X st (tMX X.K X.mg E m)
abbrev EXs(X:Cx)(E:L2.St->XK)(st:List Stmt)(m:MX):Prop:=PSs X st (tMX X.K X.mg E m)
def a6J(m:MS):MX:=λρ=>(m ρ).map .fl
def a76(m n:MX):MX:=λρ=>(m ρ).bind λfx=>match fx with
 | .fl (.nx ρ')=>n ρ'
 |f=>ξ f
def b68(c:MT)(m n:MX):MX:=λρ=>(c ρ).bind λb=>if b=true then m ρ else n ρ
def b9Q(c:Str)(ma:MA):MX:=λρ=>(ma ρ).bind λps=>if ps.length<=AL then ξ (.rz ⟨c,[]⟩ ρ) else ζ
section
variable {X:Cx}{E:L2.St->XK}
theorem c44{m:MS}{D:a2O}{σ:L2.St}{H:Hp}(h:tMX X.K X.mg E (a6J m) D σ H):tMS X.K m D σ H:=by
 obtain⟨F0,H0,F,ρ,fx,so,e,fin⟩:=h;unfold a6J at e;cases hm:m ρ with
 |none=>rw [hm] at e;cases e
 |some f=>rw [hm] at e;cases e;exact⟨F0,H0,F,ρ,f,so,hm,fin⟩
theorem c60{st:Stmt}{m:MS}(h:ES X st m):EX X E st (a6J m):=G9 h λ_ _ _ q=>c44 q
theorem c5v{st:List Stmt}{m:MS}(h:ESs X st m):EXs X E st (a6J m):=a0L h λ_ _ _ q=>c44 q
theorem a6l{st:Stmt}{m:MX}(h:EX X E st m):EXs X E [st] m:=a6u h
theorem a2p{st:Stmt}{rest:List Stmt}{m n:MX}(h1:EX X E st m)(h2:EXs X E rest n):EXs X E (st::rest) (a76 m n):=
 a0L (a35 h1 h2) λD σ H h0=>b4q h0 λF0 H0 F ρ fx so e fin=>by
  obtain⟨f1,e1,e⟩:=bind_some e;cases f1 with
  |rz c ρ1=>cases e;exact⟨F0,H0,F,ρ,.rz c ρ1,so,e1,fin⟩
  |fl f=>
   cases f with
   |nx ρ'=>exact⟨F0,H0,F,ρ,.fl (.nx ρ'),so,e1,λσ' F' H' s so'=>⟨F0,H0,F',ρ',fx,so',e,fin.later s⟩⟩
   |rt r=>cases e;exact⟨F0,H0,F,ρ,_,so,e1,fin⟩
   |bk r=>cases e;exact⟨F0,H0,F,ρ,_,so,e1,fin⟩
   |ct r=>cases e;exact⟨F0,H0,F,ρ,_,so,e1,fin⟩
theorem b42{c:AF}{a b:List Stmt}{mc:MT}{m n:MX}{pos:Pos}(hc:ET X c mc)(ha:EXs X E a m)(hb:EXs X E b n):EX X E (.If c a b pos) (b68 mc m n):=
 G9 (b8y hc ha hb) λD σ H h0=>b4q h0 λF0 H0 F ρ fx so e fin=>by
  obtain⟨b,e1,e⟩:=bind_some e;refine⟨F,ρ,b,so.e,e1,λF1 H1 x=> ?_⟩;cases b with
  |true=>exact b19 ⟨F0,H0,F1,ρ,fx,so.ext x,e,fin.later x.f⟩
  |false=>exact b18 ⟨F0,H0,F1,ρ,fx,so.ext x,e,fin.later x.f⟩
end
def spX(K:AE)(mg:Str->Υ AA)(n:Nat)(g:List PV->Υ (d4 ⊕ XT)):Sp:=λvs H Q E=>∃F ps r,m5 F H/\o0 K F ps vs/\ps.length=n/\g ps=ξ r/\(match r with
 | .inl r=>∀v F' H',B4 K F H F' H' v r->Q v H'
 | .inr c=>∃C,mg c.cls=ξ (.ref C)/\∀dd F' H',Ext F H F' H'->XF K F' c.fs dd->E (.ref C) dd H')
def a4l(CX:CXT)(X:Cx)(E:L2.St->XK):Prop:=∀(pins:List (AB×Obj)) (σ:L2.St) (H:Hp) (s:AC) (e:AA) (s':AC),m6 X pins σ H s->CX X.stack H s (E σ) e s'->X.xe e s'
section
variable {X:Cx}{E:L2.St->XK}{CX:CXT}
theorem c14{k:Nat}{f:AB}{fd:FuncData}{ps:List Str}{sp:Sp}{x:Str}{p pos:Pos}{e:AF}{es:List AF}{t:TA}(F:a1v X.prog X.w X.K X.mg X.base CX k f fd ps sp)(hr:W9 k X.A)(hg:Gl X x)(hm:X.mg x=ξ (.ref f))(hk:PySem.W.keepIn X.K (.ref f)=true)(hb:a44 X.K fd ps [])(hx:a4l CX X E)
 (ha:PA X (e::es) t) (hdb:Δ x:=by decide) (he:Ψ e es X.env:=by rfl) (hpl:Φ₁ pos es X.env:=by rfl):
 PE X (.Call (.Name x p) (e::es) [] pos) (λσ H Q=>t σ H λvs H1=>sp vs H1 Q (E σ)):=by
 intro pins s σ H Q I h
 refine wpAny_Call_Name_kw (a71 I hg hm ?_ hdb)
 refine PySem.W.callWith_K (h₀:=X.base) I.ok.mod.kin hk (R1 (ha pos pins s σ H _ I h) λus s1 h0=>u8 h0 λvs H1 I1 r q=>⟨I1.kIn, ?_⟩) he hpl
 have hl:(us++[]).length=ps.length:=by rw [Af,<-r.length];exact F.len _ _ _ _ q
 have hb':=hb s1 us I1.kIn hl
 rw [Af] at hb'
 refine wpAny_call (codeAny_mono (F.run X.A X.stack s1 H1 ⟨us,[]⟩ us vs Q (E σ) hr I1.env0 hb' r q) λr s' hq=> ?_)
 cases r with
 |error e=>exact hx pins σ H1 s1 e s' I1 hq
 |ok fl=>
  cases fl with
  |ret u=>exact I1.after hq
  |next=>exact False.elim hq
  |brk=>exact False.elim hq
  |cont=>exact False.elim hq
def c0z(g:List PV->Υ (d4 ⊕ XT))(m:MA):c9->Υ (d4 ⊕ XT):=λρ=>(m ρ).bind g
def b22(i:Nat)(g:List PV->Υ (d4 ⊕ XT))(m:MA):MX:=λρ=>(c0z g m ρ).bind λr=>match r with
 | .inl r=>if r.nb=true then ξ (.fl (.nx (ρ.set i (ξ r)))) else ζ
 | .inr c=>ξ (.rz c ρ)
theorem c3d{n:Nat}{g:List PV->Υ (d4 ⊕ XT)}{m:MA}{F0 H0 F H:Hp}{σ:L2.St}{ρ:c9}{Q:VK}{r:d4 ⊕ XT}(so:SOk X.K F0 H0 F H σ ρ)(hn:∀ρ ps,m ρ=ξ ps->ps.length=n)(e:c0z g m ρ=ξ r)
 (k:match r with
  | .inl r=>∀v F' H',B4 X.K F H F' H' v r->Q v H'
  | .inr c=>∃C,X.mg c.cls=ξ (.ref C)/\∀dd F' H',Ext F H F' H'->XF X.K F' c.fs dd->E σ (.ref C) dd H'):
 tMA X.K m σ H λvs H1=>spX X.K X.mg n g vs H1 Q (E σ):=by
 obtain⟨qs,e1,e2⟩:=bind_some e
 refine⟨F,ρ,qs,so.e,e1,λvs F1 H1 x rl=>⟨F1,qs,r,x.fh,rl,hn _ _ e1,e2, ?_⟩⟩
 cases r with
 |inl r=>exact λv F2 H2 o=>k v F2 H2 (B4.trans x o)
 |inr c=>
  obtain⟨C,h1,h2⟩:=k
  exact⟨C,h1,λa F2 H2 y hn=>h2 a F2 H2 (x.trans y) hn⟩
theorem c5u{k n i:Nat}{f:AB}{fd:FuncData}{ps:List Str}{g:List PV->Υ (d4 ⊕ XT)}{x y:Str}{p pos pos' pos2:Pos}{e:AF}{es:List AF}{m:MA}(hN:X.N.Nodup)
 (G:a1v X.prog X.w X.K X.mg X.base CX k f fd ps (spX X.K X.mg n g)) (hr:W9 k X.A) (hg:Gl X x) (hm:X.mg x=ξ (.ref f)) (hk:PySem.W.keepIn X.K (.ref f)=true) (hb:a44 X.K fd ps []) (hx:a4l CX X E) (hn:∀ρ ps,m ρ=ξ ps->ps.length=n) (ha:EA X (e::es) m)
 (hi:X.N[i]?=ξ y:=by rfl) (hy:Loc X.env.scope y:=by exact Or.inl rfl) (hs:swapsWith (.Call (.Name x p) (e::es) [] pos) (ξ (.Name y pos')) pos2.line X.env=pure false:=by rfl) (hf:X.fn y=true\/X.env.scope.names.lookup y=ξ .local:=by first|exact .inl rfl|exact .inr rfl|assumption)
 (hdb:Δ x:=by decide) (he:Ψ e es X.env:=by rfl) (hpl:Φ₁ pos es X.env:=by rfl):
 EX X E (.Assign [.Name y pos'] (.Call (.Name x p) (e::es) [] pos) pos2) (b22 i g m):=
 G9 (b4i hN hi hy (c14 (E:=E) G hr hg hm hk hb hx ha hdb he hpl) hs hf) λD σ H h0=>b4q h0 λF0 H0 F ρ fx so e fin=>by
  obtain⟨r,e1,e⟩:=bind_some e;refine c3d so hn e1 ?_;cases r with
  |inl r=>
   have e:(if r.nb=true then ξ (FX.fl (.nx (ρ.set i (ξ r)))) else ζ)=ξ fx:=e
   split at e
   ·rename_i c;cases e;exact λv F' H' o=>fin _ F' H' o.x.f (so.set o c i)
   ·cases e
  |inr c=>
   cases e;obtain⟨C,h1,h2⟩:=fin;exact⟨C,h1,λa F' H' y hn=>h2 σ a F' H' y.f (so.ext y) hn⟩
theorem a5A{E1:XK}{x:Str}{C:AB}{np cpos pos:Pos}{e₀:AF}{rest:List AF}{m:MA}(hc:X.calm=true)(hx0:X.ex=[])(hg:Gl X x)(hm:X.mg x=ξ (.ref C))(hX:c5b C X.base)(ha:EA X (e₀::rest) m)
 (hxe:∀(pins:List (AB×Obj)) (σ:L2.St) (H:Hp) (s:AC) (a:AB),m6 X pins σ H s->Ex0 s.heap a C ζ->X.s₀.heap.get? a=ζ->H a=ζ->E1 (.ref C) ζ H->X.xe (.ref a) s)
 (he:Ψ e₀ rest X.env:=by rfl) (hplain:Φ₁ cpos rest X.env:=by rfl) (hdb:Δ x:=by decide):
 EX X (λ_=>E1) (.Raise (ξ (.Call (.Name x np) (e₀::rest) [] cpos)) ζ pos) (b9Q x m):=
 G9 (c2a (W:=λH=>E1 (.ref C) ζ H) hc hx0 hg hm hX ha hxe he hplain hdb) λD σ H h0=>b4q h0 λF0 H0 F ρ fx so e fin=>by
  obtain⟨qs,e1,e⟩:=bind_some e;split at e
  ·rename_i c;cases e;obtain⟨C',h1,h2⟩:=fin;rw [hm] at h1;cases h1;refine⟨F,ρ,qs,so.e,e1,λvs F1 H1 y rl=>⟨by rw [rl.length];exact c,h2 σ ζ F1 H1 y.f (so.ext y) (.inl ⟨rfl,rfl⟩)⟩⟩
  ·cases e
end
def c0a(n:Nat)(body:MX)(ps:List PV):Υ (d4 ⊕ XT):=(body (ps.map (λp=>ξ (d4.v p))++AV n ζ)).bind λfx=>match fx with
 | .fl (.rt r)=>ξ (.inl r)
 | .fl (.nx _)=>ξ (.inl (.v .none))
 | .rz c _=>ξ (.inr c)
 |_=>ζ
theorem c5x{P:AJ}{w:AH}{K:AE}{mg:Str->Υ AA}{base:Heap}{x qual:Str}{st:Stmt}{f:AB}{fd:FuncData}{N ps:List Str}{k:Nat}{m:MX}(F:Fun K x qual st f fd)(S:i4 N ps (d6 st))
 (hb:∀(cdv:AA) (A:AM) (outer:List Env) (s:AC) (H:Hp) (E:XK),W9 k (A.deeper (envOfC qual (d6 st) s.heap.objs.size f cdv))->EXs (a5q (CX1 P w) P w K mg base N qual (d6 st) f cdv A outer s H E) (λ_=>E) (C3 st) m):
 a1v P w K mg base (CX1 P w) (k+1) f fd ps (spX K mg ps.length (c0a (N.length - ps.length) m)):=by
 obtain⟨oc,od,kV,doc,pm,an,cdv,ct,osl,rfl,lk,hcd⟩:=F.ex
 refine c4V lk hcd S (λvs H Q E h=> ?_) λA outer s H vs Q E hr h=> ?_
 ·obtain⟨_,qs,_,_,r,h2,_⟩:=h
  rw [r.length,h2]
 ·obtain⟨F1,qs,r,s1,rl,hl,e,k⟩:=h
  refine⟨_,hb cdv A outer s H E hr, ?_⟩
  unfold c0a at e
  obtain⟨fx,e1,e2⟩:=bind_some e
  have hv:vs.length=ps.length:=by rw [rl.length,hl]
  refine⟨F1,H,F1,_,fx, ?_,e1, ?_⟩
  ·have:=b58 (N.length - ps.length) s1 rl
   unfold L2.a3g
   rw [hv]
   exact this
  ·cases fx with
   |rz c ρ1=>
    cases e2
    obtain⟨C,h1,h2⟩:=k
    exact⟨C,h1,λ_ a F' H' _ so' hn=>h2 a F' H' so'.x hn⟩
   |fl f=>
    cases f with
    |rt q=>cases e2;exact λv F' H' o=>k v F' H' o
    |nx ρ=>cases e2;exact λσ' F' H' _ so=>k .non F' H' (B4.val so.x rfl)
    |bk ρ=>cases e2
    |ct ρ=>cases e2
def b0C(P:AJ)(w:AH)(K:AE)(mg:Str->Υ AA)(base:Heap)(x:Str)(ps:List Str)(k:Nat)(g:List PV->Υ (d4 ⊕ XT)):Prop:=
 ∃f fd,a1v P w K mg base (CX1 P w) k f fd ps (spX K mg ps.length g)/\mg x=ξ (.ref f)/\PySem.W.keepIn K (.ref f)=true/\a44 K fd ps []
def left(g:List PV->Υ (d4 ⊕ XT))(ps:List PV):Υ d4:=(g ps).bind λr=>match r with
 | .inl r=>ξ r
 | .inr _=>ζ
section
variable {X:Cx}
theorem c58:b0D (CX1 X.prog X.w) X E0:=λ_ _ _ _ _ _ _ h=>by
 obtain⟨_,_,_,_,_,_,_,_,_,_,_,_,_,_,_,h⟩:=h;exact False.elim h
theorem c3o{k k':Nat}{ps:List Str}{g:List PV->Υ (d4 ⊕ XT)}{x:Str}{p pos:Pos}{e:AF}{es:List AF}{m:MA}
 (d:b0C X.prog X.w X.K X.mg X.base x ps k g) (hr:W9 k' X.A) (hk:k<=k') (hg:Gl X x) (hn:∀ρ qs,m ρ=ξ qs->qs.length=ps.length) (ha:EA X (e::es) m)
 (hdb:Δ x:=by decide) (he:Ψ e es X.env:=by rfl) (hpl:Φ₁ pos es X.env:=by rfl):
 EE X (.Call (.Name x p) (e::es) [] pos) (f7 (left g) m):=by
 obtain⟨f,fd,G,h1,h2,h3⟩:=d
 refine B9 (a8i G (hr.mono hk) hg h1 h2 h3 .nil c58 ha hdb he hpl) λσ H Q h0=>A1 h0 λF ρ r he hm k=> ?_
 obtain⟨qs,e1,hm⟩:=bind_some hm
 obtain⟨r',e2,hm⟩:=bind_some hm
 cases r' with
 |inr c=>cases hm
 |inl r'=>
  cases hm
  refine⟨F,ρ,qs,he,e1,λvs F1 H1 x rl=> ?_⟩
  show spX X.K X.mg ps.length g (vs++[]) H1 Q E0
  rw [Af]
  exact⟨F1,qs,.inl r,x.fh,rl,hn _ _ e1,e2,λv F2 H2 o=>k v F2 H2 (B4.trans x o)⟩
end
section
variable {prog:AJ}{w:AH}{A:AM}{E:AA->AC->Prop}{s:AC}
end
set_option maxHeartbeats 3200000
section
variable {prog:AJ}{w:AH}{A:AM}{E:AA->AC->Prop}{s:AC}
end
set_option maxHeartbeats 1000000
section
variable {prog:AJ}{w:AH}{A:AM}{E:AA->AC->Prop}{s:AC}{it a:AB}{i ep:Nat}{es:Array (Int×AA)}
end
section
variable {prog:AJ}{w:AH}{A:AM}{E:AA->AC->Prop}{s:AC}{a:AB}{ep:Nat}{es:Array (Int×AA)}
end
section
variable {X:Cx}{pins:List (AB×Obj)}{σ:L2.St}{H:Hp}{s:AC}
end
open PySem PySem.Spec PyProof.Rows L2
def unE:List (PV×PV)->Υ (Γ)
 |[]=>ξ []
 |(.tuple ks,p)::r=>(Z9 ks).bind λk=>(unE r).map λt=>(k,p)::t
 |_::_=>ζ
theorem a24:∀k:List m7,Z9 (k.map kP)=ξ k
 |[]=>rfl
 | .inl i::k=>by
   rw [AG];unfold Z9;rw [a24 k]
   rfl
 | .inr x::k=>by
   rw [AG];unfold Z9;rw [a24 k]
   rfl
theorem b0x{K:AE}{F:Hp}:∀{es:List (PV×PV)} {xs:List (List m7×V)},a5j K F es xs->∃kvs,unE es=ξ kvs/\E3 K F kvs xs
 |[],_,h=>by cases h;exact⟨[],rfl,rfl⟩
 |(k,p)::es,_,⟨kk,v,t,e,z,q,h⟩=>by
  subst e;subst z;obtain⟨kvs,h1,h2⟩:=b0x h;refine⟨(kk,p)::kvs, ?_,v,t,rfl,q,h2⟩;unfold unE;rw [a24,h1]
  rfl
abbrev dv(kvs:Γ):PV:= .dict ((.tuple [],.none)::kvs.map λkv=>(PyData.tuple (kv.1.map kP),kv.2))
theorem b7B:∀kvs:Γ,unE (kvs.map λkv=>(PyData.tuple (kv.1.map kP),kv.2))=ξ kvs
 |[]=>rfl
 |(k,p)::r=>by
  rw [AG];unfold unE;rw [a24,b7B r]
  rfl
def dvw(i:Nat)(ρ:c9):Υ (Γ):=match ρ[i]? with
 |some (ξ (.v (.dict ((.tuple [],.none)::es))))=>unE es
 |_=>ζ
theorem c0Q{i:Nat}{ρ:c9}{kvs:Γ}(h:ρ[i]?=ξ (ξ (.v (dv kvs)))):dvw i ρ=ξ kvs:=by
 unfold dvw;rw [h];exact b7B kvs
theorem c0P{K:AE}{F H:Hp}{σ:L2.St}{ρ:c9}(en:M6 K F H σ ρ){i:Nat}{kvs:Γ}(h:dvw i ρ=ξ kvs):∃a xs,σ[i]?=ξ (ξ (.ref a))/\F a=ξ (.dT xs)/\E3 K F kvs xs:=by
 unfold dvw at h;split at h
 ·rename_i es eo;obtain⟨v,hv,hr⟩:=en.at_ i _ eo;rcases hr with⟨a,ys,rfl,ha,kk,w,t,e,z,_,hr⟩|⟨a,xs,rfl,ha,kk,w,t,e,_,_,hr⟩|⟨x,t,e,_⟩|⟨x,m,fs,_,_,_,_,_,e,_⟩
  ·cases ys with
   |nil=>cases e
   |cons y ys=>
    cases e;cases z
  ·cases e;obtain⟨kvs',h1,h2⟩:=b0x hr;rw [h] at h1;cases h1;exact⟨a,_,hv,ha,h2⟩
  ·cases e
  ·cases e
 ·cases h
section
variable {X:Cx}
def a2A(i:Nat)(mk:MA):M:=λρ=>(mk ρ).bind λks=>if ks.length<=AL then(Z9 ks).bind λk=>(dvw i ρ).bind λkvs=>(z5 kvs k).map .v else ζ
theorem a5z(i:Nat){x:Str}{p tp pos:Pos}{es:List AF}{x1}{mk:MA}(hu:X.A.units+64<cLine)(hx:PE X (.Name x p) (a2P i))(hi:EA X es mk)(hs:b8Y (.Tuple es x1 tp):=by intro _ _;rfl):EE X (.Subscript (.Name x p) (.Tuple es x1 tp) pos) (a2A i mk):=
 B9 (b0u (by lia) hx (b7k hi) hs) λσ H Q h0=>A1 h0 λF ρ r en e k=>by
  obtain⟨ks,e1,e⟩:=bind_some e;split at e
  ·rename_i hl;obtain⟨kk,e2,e⟩:=bind_some e;obtain⟨kvs,e3,e⟩:=bind_some e;cases hv:z5 kvs kk with
   |none=>rw [hv] at e;cases e
   |some q=>
    rw [hv] at e;cases e;obtain⟨a,xs,hw1,ha',rl⟩:=c0P en e3;obtain⟨y,hy,ry⟩:=(rl.val (k:=kk)).1 q hv;refine⟨.ref a,hw1,F,ρ,ks,en,e1,λvs F3 H3 x3 rl3=>⟨by rw [rl3.length];exact hl,λb hb=> ?_⟩⟩
    have ev:=a4K e2 rl3;have ha3:=x3.h _ _ (en.fh _ _ ha');have hne:a≠b:=λh=>by subst h;rw [hb] at ha3;cases ha3
    have ha4:upd H3 b (.tup vs) a=ξ (.dT xs):=by rw [m4 hne];exact ha3
    have xx:=x3.trans (Ext.lay (o:= .tup vs) x3.fh hb);exact⟨a,y,rfl,by rw [<-hy];exact a5g.t ha4 (by rw [n6,ev]),k _ _ _ (B4.val xx (J7.mono xx.f _ ry))⟩
  ·cases e
end
mutual
def nd:PV->Bool
 | .list ps=>ndL ps
 | .tuple ps=>ndL ps
 | .dict ((.tuple _,_)::_)=>false
 | .dict ((.str _,.bool false)::_)=>false
 | .dict ((.str _,.int _)::_)=>false
 |_=>true
def ndL:List PV->Bool
 |[]=>true
 |p::ps=>nd p && ndL ps
end
def ndD:Γ->Bool
 |[]=>true
 |(_,p)::r=>nd p && ndD r
def d4.noD:d4->Bool
 | .v p=>nd p
 | .ow (.lst ps)=>ndL ps
 | .ow (.dct kvs)=>ndD kvs
 | .ow (.txt kvs)=>ndD kvs
 | .bo _=>false
section
variable {K:AE}{F:Hp}{a:AB}{xs:List (List m7×V)}
mutual
theorem b1B(ha:F a=ξ (.dT xs)):∀(p:PV) {v:V},J7 K F p v->nd p=true->J7 K (drp F a) p v
 | .none,_,h,_=>h
 | .bool _,_,h,_=>h
 | .int _,_,h,_=>h
 | .str _,_,h,_=>h
 | .list ps,_,⟨b,ys,e,q,r⟩,n=>⟨b,ys,e,(by
  rcases q with(q|⟨o,q⟩)|q
  ·exact .inl (.inl (by rw [X0 (a31 q ha (λz=>nomatch z))];exact q))
  ·exact .inl (.inr ⟨o,by rw [X0 (a31 q ha (λz=>nomatch z))];exact q⟩)
  ·exact .inr q),a6v ha ps r (by simpa [nd] using n)⟩
 | .tuple ps,_,⟨b,ys,e,q,r⟩,n=>⟨b,ys,e,(by
  rcases q with q|q
  ·exact .inl (by rw [X0 (a31 q ha (λz=>nomatch z))];exact q)
  ·exact .inr q),a6v ha ps r (by simpa [nd] using n)⟩
 | .dict kvs,_,h,n=>by
   rcases h with⟨b,ys,q,h,hr⟩|⟨b,ys,q,h,hr⟩|⟨x,t,e,h|⟨z,b,C,φ,q,h,r⟩⟩|⟨x,m,fs,h,hr⟩
   ·cases kvs with
    |nil=>
     have e0:ys=[]:=List.map_eq_nil_iff.mp hr;subst e0;exact .inl ⟨b,[],q,by rw [X0 (a31 h ha (λz=>nomatch z))];exact h,rfl⟩
    |cons f fs=>
     exfalso
     obtain⟨k,p⟩:=f;obtain⟨kk,w,t,e,z,_⟩:=hr;subst z;simp [nd] at n
   ·exfalso
    cases kvs with
    |nil=>cases hr
    |cons f fs=>
     obtain⟨k,p⟩:=f;obtain⟨kk,w,t,e,z,_⟩:=hr;subst z;simp [nd] at n
   ·exact .inr (.inr (.inl ⟨x,t,e,.inl h⟩))
   ·exact .inr (.inr (.inl ⟨x,t,e,.inr ⟨z,b,C,φ,q,by rw [X0 (a31 h ha (λz=>nomatch z))];exact h,r⟩⟩))
   ·exfalso
    cases kvs with
    |nil=>cases hr
    |cons f fs'=>
     obtain⟨k,p⟩:=f;obtain⟨f',v',t',e,z,q,_⟩:=hr;subst z;cases e;rcases h with⟨rfl,_⟩|⟨rfl,_⟩
     ·cases p with
      |bool b=>cases q;simp [nd] at n
      |tuple _=>obtain⟨_,_,e,_⟩:=q;cases e
      |list _=>obtain⟨_,_,e,_⟩:=q;cases e
      |dict _=>
       rcases q with⟨_,_,e,_⟩|⟨_,_,e,_⟩|⟨_,_,_,q⟩|⟨_,_,_,q,_⟩
       ·cases e
       ·cases e
       ·obtain⟨_,e⟩:=q.ref;cases e
       ·obtain⟨_,e⟩:=q.ref;cases e
      |_=>cases q
     ·cases p with
      |int b=>simp [nd] at n
      |tuple _=>obtain⟨_,_,e,_⟩:=q;cases e
      |list _=>obtain⟨_,_,e,_⟩:=q;cases e
      |dict _=>
       rcases q with⟨_,_,e,_⟩|⟨_,_,e,_⟩|⟨_,_,_,q⟩|⟨_,_,_,q,_⟩
       ·cases e
       ·cases e
       ·obtain⟨_,e⟩:=q.ref;cases e
       ·obtain⟨_,e⟩:=q.ref;cases e
      |_=>cases q
theorem a6v(ha:F a=ξ (.dT xs)):∀(ps:List PV) {vs:List V},o0 K F ps vs->ndL ps=true->o0 K (drp F a) ps vs
 |[],_,h,_=>h
 |p::ps,_,⟨v,r,e,q,t⟩,n=>by
  simp only [ndL,χ] at n;exact⟨v,r,e,b1B ha p q n.1,a6v ha ps t n.2⟩
end
theorem a9h(ha:F a=ξ (.dT xs)):∀(kvs:Γ) {ys:List (List m7×V)},E3 K F kvs ys->ndD kvs=true->E3 K (drp F a) kvs ys
 |[],_,h,_=>h
 |(k,p)::r,_,⟨v,t,e,q,h⟩,n=>by
  simp only [ndD,χ] at n;exact⟨v,t,e,b1B ha p q n.1,a9h ha r h n.2⟩
theorem b97{H:Hp}{v:V}(ha:F a=ξ (.dT xs)):∀{r:d4},U1 K F H v r->r.noD=true->U1 K (drp F a) H v r
 | .v p,h,n=>b1B ha p h n
 | .ow (.lst ps),⟨b,ys,e,f,q,r⟩,n=>⟨b,ys,e,a3J f,q,a6v ha ps r n⟩
 | .ow (.dct kvs),⟨b,ys,e,f,q,r⟩,n=>⟨b,ys,e,a3J f,q,a9h ha kvs r n⟩
 | .ow (.txt kvs),⟨b,ys,e,f,q,r⟩,n=>⟨b,ys,e,a3J f,q,a9h ha kvs r n⟩
 | .bo _,_,n=>nomatch n
end
def b0r(g:Λ)(i:Nat)(m:M):M:=λρ=>((m ρ).bind d4.toVal).bind λp=>match ρ[i]? with
 |some (ξ (.ow (.dct kvs)))=>(g [p,dv kvs]).bind λr=>if r.noD=true then ξ r else ζ
 |_=>ζ
section
variable {X:Cx}
theorem b2W{K:AE}{F2 H1 F3 H3:Hp}{a:AB}{xs:List (List m7×V)}{u:V}{r:d4}(fa:F2 a=ζ)(o3:B4 K (upd F2 a (.dT xs)) H1 F3 H3 u r)(c:r.noD=true):B4 K F2 H1 (drp F3 a) H3 u r:=by
 have up:m5 F2 (upd F2 a (.dT xs)):=P9 fa;refine⟨⟨λb o z=> ?_,o3.x.h,λb o z=> ?_,λb o z y t=> ?_,λb w u z=> ?_⟩,b97 (o3.x.f _ _ n6) o3.rep c,o3.fr⟩
 ·have hb:b≠a:=v6 z fa;rw [X0 hb];exact o3.x.f _ _ (up _ _ z)
 ·by_cases hb:b=a
  ·subst hb;rw [a3K] at z;cases z
  ·rw [X0 hb] at z;exact o3.x.fh _ _ z
 ·by_cases hb:b=a
  ·subst hb;exact a3K
  ·rw [X0 hb];exact o3.x.nw b o (by rw [m4 hb];exact z) y t
 ·by_cases hb:b=a
  ·subst hb;rw [a3K] at z;cases z
  ·rw [X0 hb] at z;have:=o3.x.nf _ _ _ z;rw [m4 hb] at this;exact this
theorem c3U{F2 H1:Hp}{a:AB}{xs:List (List m7×V)}(fh:m5 F2 H1)(ha:H1 a=ξ (.dT xs)):m5 (upd F2 a (.dT xs)) H1:=λb o z=>by
 by_cases hb:b=a
 ·subst hb;rw [n6] at z;cases z;exact ha
 ·rw [m4 hb] at z;exact fh _ _ z
theorem b5n{K:AE}{F2:Hp}{a:AB}{xs:List (List m7×V)}{kvs:Γ}(fa:F2 a=ζ)(rl:E3 K F2 kvs xs):J7 K (upd F2 a (.dT xs)) (dv kvs) (.ref a):=Or.inr (Or.inl ⟨a,xs,rfl,n6,[],.non,xs,rfl,rfl,rfl,a5j.of (P9 fa) rl⟩)
theorem c0R(i:Nat){k k':Nat}{pa pb:Str}{g:Λ}{x y:Str}{p py pos:Pos}{e:AF}{m:M}
 (d:g8 X.prog X.w X.K X.mg X.base x [pa,pb] k g) (hr:W9 k' X.A) (hk:k<=k') (hg:Gl X x) (ha:EE X e m) (hy:PE X (.Name y py) (a2P i))
 (hdb:Δ x:=by decide) (he:AK [e,.Name y py] X.env=(false,eval e X.env)::AK [.Name y py] X.env:=by rfl) (he2:AK [.Name y py] X.env=(false,eval (.Name y py) X.env)::AK [] X.env:=by rfl)
 (hpl:(backTo pos (AK [.Name y py] X.env)).any (·.1)=false:=by rfl):
 EE X (.Call (.Name x p) [e,.Name y py] [] pos) (b0r g i m):=by
 obtain⟨f,fd,G,h1,h2,h3⟩:=d
 refine B9 (a8i G (hr.mono hk) hg h1 h2 h3 .nil b5V (J3 ha (J3 hy a0d he2) he) hdb he hpl) λσ H Q h0=>A1 h0 λF ρ r en hm kq=> ?_
 obtain⟨q,e1,hm⟩:=bind_some hm
 obtain⟨rq,e2,e3'⟩:=bind_some e1
 split at hm
 ·rename_i kvs eo
  obtain⟨r',e7,hm⟩:=bind_some hm
  split at hm
  ·rename_i c
   cases hm
   refine⟨F,ρ,rq,en,e2,λv F1 H1 o1=> ?_⟩
   obtain⟨F2,o2⟩:=o1.toVal e3'
   have en2:=en.ext o2.x
   obtain⟨w,hw,a,xs,rfl,fa,ha',rl⟩:=en2.at_ i _ eo
   refine⟨.ref a,hw, ?_⟩
   show spP X.K 2 g ([v,.ref a]++[]) H1 Q E0
   rw [Af]
   have up:m5 F2 (upd F2 a (.dT xs)):=P9 fa
   exact⟨upd F2 a (.dT xs),[q,dv kvs],_,c3U o2.x.fh ha',⟨v,[.ref a],rfl,J7.mono up _ o2.rep,.ref a,[],rfl,b5n fa rl,rfl⟩,rfl,e7,λu F5 H5 o5=>kq u (drp F5 a) H5 (B4.trans o2.x (b2W fa o5 c))⟩
  ·cases hm
 ·cases hm
end
section
variable {prog:AJ}{w:AH}{K:Type}[DecidableEq K]{kd:KeyKind prog w K}{A:AM}{E:AA->AC->Prop}{s:AC}
end
section
variable {X:Cx}{pins:List (AB×Obj)}{σ:L2.St}{H:Hp}{s:AC}{a:AB}{kvs:List (List m7×V)}{A:AM}{E:AA->AC->Prop}
end
section
variable {X:Cx}{o i:AF}{td ty:TE}
end
section
variable {X:Cx}
end
theorem b7D(k:m7):∀xs:List (m7×V),a2Q (xs.map s1) [k]=a2Q xs k
 |[]=>rfl
 |x::r=>by
  rw [AG]
  by_cases c:x.1=k
  ·rw [a4e (p:=x) c,a4e (p:=s1 x) (by show [x.1]=[k];rw [c])];rfl
  ·rw [a4d (p:=x) c,a4d (p:=s1 x) (by show ¬[x.1]=[k];intro h;exact c (List.cons.inj h).1),b7D k r]
theorem c0u(k:m7):∀xs:List (m7×V),((xs.map s1).any λkv=>decide (kv.1=[k]))=(xs.any λkv=>decide (kv.1=k))
 |[]=>rfl
 |x::r=>by
  rw [AG,List.any_cons,List.any_cons,c0u k r]
  congr 1
  show decide ([x.1]=[k])=decide (x.1=k);simp
theorem b8B(k:m7)(v:V):∀xs:List (m7×V),(xs.map λkv=>if kv.1=k then(kv.1,v) else kv).map s1=(xs.map s1).map λkv=>if kv.1=[k] then(kv.1,v) else kv
 |[]=>rfl
 |x::r=>by
  rw [AG,AG,AG,AG,b8B k v r]
  congr 1
  by_cases c:x.1=k
  ·rw [if_pos c,if_pos (show(s1 x).1=[k] by show [x.1]=[k];rw [c])];rfl
  ·rw [if_neg c,if_neg (show ¬(s1 x).1=[k] by show ¬[x.1]=[k];intro h;exact c (List.cons.inj h).1)]
theorem c2h(k:m7)(v:V)(xs:List (m7×V)):(a1d xs k v).map s1=a1d (xs.map s1) [k] v:=by
 unfold a1d;rw [c0u];split
 ·exact b8B k v xs
 ·rw [Ao];rfl
theorem B4.txt{K:AE}{F H:Hp}{a:AB}(s:m5 F H)(n:H a=ζ):B4 K F H F (upd H a (.dK [])) (.ref a) (.ow (.txt [])):=
 ⟨Ext.layH s n,⟨a,[],rfl,s.free n,n6,rfl⟩,λ_ _ _ e=>by cases e;exact n⟩
theorem b09{K:AE}{F H:Hp}{r:d4}{x:Str}{v:V}(e:b08 r=ξ x)(h:U1 K F H v r):v=kV (.inr x):=by
 unfold b08 at e;split at e
 ·cases e;exact h
 ·cases e
section
variable {X:Cx}
def c5O:M:=λ_=>ξ (.ow (.txt []))
theorem c5r{pos:Pos}:EE X (.Dict [] [] pos) c5O:=
 B9 c15 λσ H Q h0=>A1 h0 λF ρ r en e k=>by
  cases e;exact λd hd=>k _ _ _ (B4.txt en.fh hd)
def b6e(i:Nat)(ρ:c9)(p:PV)(x:Str):Υ Fl:=match ρ[i]? with
 |some (ξ (.ow (.txt kvs)))=>if kvs.length<AL then ξ (.nx (ρ.set i (ξ (.ow (.txt (a11 kvs [.inr x] p)))))) else ζ
 |_=>ζ
def b8s(i:Nat)(mk mv:M):MS:=λρ=>((mv ρ).bind d4.toVal).bind λp=>((mk ρ).bind b08).bind (b6e i ρ p)
theorem c3v(i:Nat){x:Str}{p tp2 pos:Pos}{ek e:AF}{mk mv:M}(hu:X.A.units+64<cLine)(hx:PE X (.Name x p) (a2P i))(hi:EE X ek mk)(he:EE X e mv)
 (hs:swapsWith e (ξ (.Subscript (.Name x p) ek tp2)) pos.line X.env=pure false:=by rfl):ES X (.Assign [.Subscript (.Name x p) ek tp2] e pos) (b8s i mk mv):=
 G9 (b4h (by lia) hx hi he hs) λD σ H h0=>L8 h0 λF0 H0 F ρ fl so e fin=>by
  ext ad
  obtain⟨k,e4,e⟩:=bind_some e;obtain⟨rk,e4,e5⟩:=bind_some e4
  ext n
  unfold b6e at e;split at e
  ·rename_i kvs eo;split at e
   ·rename_i hl;cases e;obtain⟨w,hw1,a,xs,rfl,fa,ha',rl⟩:=so2.e.at_ i _ eo;refine⟨.ref a,hw1,F2,ρ,rk,so2.e,e4,λy F3 H3 o3=> ?_⟩;cases b09 e5 o3.rep;have ha3:=o3.x.h _ _ ha';have so3:=so2.ext o3.x;have hlen:xs.length=kvs.length:=by have:=rl.length;rwa [AZ] at this
    refine⟨a,_,rfl,b3r.k (k:= .inr k) ha3 (by rw [hlen];exact hl), ?_⟩
    refine fin σ _ _ (o2.x.f.trans o3.x.f) (so3.putT eo hw1 ?_);rw [c2h];exact(E3.mono o3.x.f _ rl).put (J7.mono o3.x.f _ o2.rep)
   ·cases e
  ·cases e
def c2L(neg:Bool)(i:Nat)(ρ:c9)(x:Str):Υ d4:=match ρ[i]? with
 |some (ξ (.ow (.txt kvs)))=>ξ (.v (.bool (if neg then !(z5 kvs [.inr x]).isSome else(z5 kvs [.inr x]).isSome)))
 |_=>ζ
def c1N(neg:Bool)(i:Nat)(mk:M):M:=λρ=>((mk ρ).bind b08).bind (c2L neg i ρ)
theorem c4F{i:Nat}{mk:M}{neg:Bool}{σ:L2.St}{H:Hp}{Q:VK}(h:tM X.K (c1N neg i mk) σ H Q):
 tM X.K mk σ H λy H1=>a2P i σ H1 λx H2=>∃a o,x= .ref a/\a5g H2 a y o/\Q (.bl (if neg then !o.isSome else o.isSome)) H2:=by
 obtain⟨F,ρ,r,en,e,k⟩:=h
 obtain⟨kk,e4,e⟩:=bind_some e
 obtain⟨rk,e4,e5⟩:=bind_some e4
 unfold c2L at e
 split at e
 ·rename_i kvs eo
  cases e
  refine⟨F,ρ,rk,en,e4,λy F3 H3 o3=> ?_⟩
  cases b09 e5 o3.rep
  obtain⟨w,hw1,a,xs,rfl,fa,ha',rl⟩:=(en.ext o3.x).at_ i _ eo
  refine⟨.ref a,hw1,a,a2Q xs (.inr kk),rfl,a5g.k ha', ?_⟩
  have:=rl.isSome (k:=[.inr kk])
  rw [b7D] at this
  rw [this]
  exact k _ _ _ (B4.val o3.x rfl)
 ·cases e
theorem b9k(i:Nat){x:Str}{p pos:Pos}{ek:AF}{mk:M}(hu:X.A.units+64<cLine)(hx:PE X (.Name x p) (a2P i))(hi:EE X ek mk)(hm:behindInMarks .NotIn (.Name x p)=false):ET X (.Compare ek [.NotIn] [.Name x p] pos) (G2 (c1N true i mk)):=
 a9g (c2f (b29 (by lia) hi hx) hm) λσ H Q h=>c42 (λ_ _ _ h=>c4F h) h
end
theorem b9K(i:Nat)(mk mv:M)(ρ:c9):b8s i mk mv ρ=((mv ρ).bind d4.toVal).bind λp=>((mk ρ).bind b08).bind (b6e i ρ p):=ω
theorem c1O(neg:Bool)(i:Nat)(mk:M)(ρ:c9):c1N neg i mk ρ=((mk ρ).bind b08).bind (c2L neg i ρ):=ω
section
variable {prog:AJ}{w:AH}{K:Type}[DecidableEq K]{knd:KeyKind prog w K}{A:AM}{E:AA->AC->Prop}{s:AC}
end
section
variable {prog:AJ}{w:AH}{A:AM}{E:AA->AC->Prop}{s:AC}
end
end PU
namespace TS
open PySem PySem.Spec PyProof.Rows L2 PU
section
variable {prog:AJ}{w:AH}{A:AM}{E:AA->AC->Prop}{s:AC}
variable {κ:SortKind}{S:Heap->Keyed->Prop}{R:Heap->Keyed->Keyed->Bool}
end
end TS
namespace PU
open PySem PySem.Spec PyProof.Rows L2 PySem.W
section
variable {X:Cx}{pins:List (AB×Obj)}{σ:L2.St}{H H':Hp}{s:AC}{h':Heap}
end
section
variable {X:Cx}
end
open PySem PySem.Spec PyProof.Rows L2
section
variable {X:Cx}{pins:List (AB×Obj)}{σ:L2.St}{H:Hp}{s:AC}{a:AB}{kvs:List (m7×V)}{k:m7}{v:V}{u r:AA}{A:AM}{E:AA->AC->Prop}
theorem c0I{Q:Unit->AC->Prop}(I:m6 X pins σ H s)(e:H a=ξ (.dK kvs))(ry:z7 (kV k) u)(l:kvs.length<AL)(rv:z7 v r)(h:∀s',m6 X pins σ (upd H a (.dK (a1d kvs k v))) s'->Q () s'):
 AI (model X.prog X.w) A (dictSet a u r) Q E s:=by
 obtain⟨z,hd,vs,rel,dd⟩:=c4U I.hok e
 have hz:vs.length<=AL:=by rw [<-rel.length];exact z
 have hl:(a1d kvs k v).length<=AL:=by have:=a26 kvs k v;lia
 refine wpAny_dictSet_pairs (hsz:=hz) (b5i ry) dd λh' dd' hs=>h _ ?_
 have he:∃q,h'.get? a=ξ q:=by obtain⟨q,_,_,hq,_⟩:=dd';exact⟨q,hq⟩
 exact b3B I (by rw [e];exact True.intro) hs he (c0L hl hd (rel.put k rv) dd')
end
theorem c2G{K:AE}{H:Hp}{a D:AB}{xs:List V}{kvs kvs':List (m7×V)}(e:H D=ξ (.dK kvs))(h:SqT K H a xs):SqT K (upd H D (.dK kvs')) a xs:=by
 rcases h with(h|⟨o,h⟩)|h
 ·exact .inl (.inl (by rw [m4 (a31 h e (λz=>nomatch z))];exact h))
 ·exact .inl (.inr ⟨o,by rw [m4 (a31 h e (λz=>nomatch z))];exact h⟩)
 ·exact .inr h
theorem c2F{K:AE}{H:Hp}{a D:AB}{xs:List V}{kvs kvs':List (m7×V)}(e:H D=ξ (.dK kvs))(h:SqL K H a xs):SqL K (upd H D (.dK kvs')) a xs:=by
 rcases h with(h|⟨o,h⟩)|h
 ·exact .inl (.inl (by rw [m4 (a31 h e (λz=>nomatch z))];exact h))
 ·exact .inl (.inr ⟨o,by rw [m4 (a31 h e (λz=>nomatch z))];exact h⟩)
 ·exact .inr h
def a7z(K:AE)(H:Hp)(p:m7×V)(x:V):Prop:=∃a,x= .ref a/\SqT K H a [kV p.1,p.2]
theorem a7z.upd{K:AE}{H:Hp}{D:AB}{kvs kvs':List (m7×V)}(e:H D=ξ (.dK kvs)){p:m7×V}{x:V}(h:a7z K H p x):a7z K (upd H D (.dK kvs')) p x:=
 let ⟨a,h1,h2⟩:=h
 ⟨a,h1,c2G e h2⟩
def a8n(kvs rest:List (m7×V)):List (m7×V):=rest.foldl (λd p=>a1d d p.1 p.2) kvs
section
variable {X:Cx}{pins:List (AB×Obj)}{σ:L2.St}{A:AM}{R:Result->AC->Prop}
theorem b5T(hu:A.units+8<cLine)(hh:A.handled=ζ){D it l:AB}{xs:List V}:∀(rest:List (m7×V)) (i:Nat) (s:AC) (kvs:List (m7×V)) (H:Hp) (n:Int) (tk:Tok),m6 X pins σ H s->H D=ξ (.dK kvs)->SqL X.K H l xs->Paired (a7z X.K H) rest (xs.drop i)->s.heap.IsListIter it l i->
 b10 X pins H it->kvs.length+rest.length<=AL->(∀s',m6 X pins σ (upd H D (.dK (a8n kvs rest))) s'->R (.ok (.ret .none)) s')->
 codeAny (model X.prog X.w) A (.builtin "dict.update.loop" ⟨[.ref D,.ref it,.int n tk,.none],[]⟩) R s:=by
 intro rest
 induction rest with
 |nil=>
  intro i s kvs H n tk I hD hl hp hi hf hz hR
  refine codeAny_builtin a3M ?_
  rw [Around.under_plainId W5 _]
  obtain⟨its,rv,p,_⟩:=I.list hl
  obtain⟨f0,f1,f2,f3,f4,f5⟩:=hf
  have hlen:=rv.length
  have hp':(xs.drop i).length=0:=(Paired.length hp).symm
  rw [List.length_drop] at hp'
  show AI _ A.in1 (pyNext (.ref it)>>=_) _ _ s
  refine AO (wpAny_pyNext_list_end (show A.in1.handled=ζ from hh) hi p.isList (by simp;lia) λh' eb=> ?_)
  have I1:m6 X pins σ H {s with heap:=h'}:=I.turned (t':=s.toks) (λb o hb e=>eb b o hb e) f0 f1 f3 f4 f5
  have e:upd H D (.dK (a8n kvs []))=H:=by
   funext b
   show(if b=D then ξ (HO.dK kvs) else H b)=H b
   split
   ·rename_i h;rw [h,hD]
   ·rfl
  rw [e] at hR
  show AI _ A.in1 (Builtin.Dict.addKeywords D []>>=_) _ _ _
  exact AO (Ae (Ae (hR _ I1)))
 |cons pr rest ih=>
  intro i s kvs H n tk I hD hl hp hi hf hz hR
  obtain⟨x,r,hx,h1,h2⟩:∃x r,xs.drop i=x::r/\a7z X.K H pr x/\Paired (a7z X.K H) rest r:=by
   generalize xs.drop i=ys at hp;cases hp with
   |cons a b=>exact⟨_,_,rfl,a,b⟩
  have hxi:xs[i]?=ξ x:=by
   have:(xs.drop i)[0]?=ξ x:=by rw [hx];rfl
   rw [List.getElem?_drop] at this;exact this
  have hr:xs.drop (i+1)=r:=by
   rw [<-List.drop_drop,hx];rfl
  refine codeAny_builtin a3M ?_
  rw [Around.under_plainId W5 _]
  obtain⟨its,rv,p,_⟩:=I.list hl
  obtain⟨f0,f1,f2,f3,f4,f5⟩:=hf
  obtain⟨u,hu,ru⟩:=rv.get hxi
  show AI _ A.in1 (pyNext (.ref it)>>=_) _ _ s
  refine AO (wpAny_pyNext_list_item hi p.isList (x:=u) (by simpa using hu) λh' st' sb=> ?_)
  have I1:m6 X pins σ H {s with heap:=h'}:=I.turned (t':=s.toks) (λb o hb e=>(sb.2 b hb).trans e) f0 f1 f3 f4 f5
  obtain⟨a,rfl,hq⟩:=h1
  cases(show u=Value.ref a from ru)
  obtain⟨its2,rv2,⟨o,ho,hoc,n2,hod⟩,_⟩:=I1.tuple hq
  obtain⟨u1,u2,rfl,ru1,ru2⟩:∃u1 u2,its2=[u1,u2]/\z7 (kV pr.1) u1/\z7 pr.2 u2:=by
   cases rv2 with
   |cons a1 t1=>cases t1 with
    |cons a2 t2=>cases t2;exact⟨_,_,rfl,a1,a2⟩
  have hT:Shared.TypeIs {s with heap:=h'} (.ref a) "tuple":=⟨o,ho,hoc⟩
  obtain⟨oi,hoi,hci,hdi⟩:=id st'
  have I1':=I1.pinned (fp:=[it]) (λb hb=>by
   have e:b=it:=by simpa using hb
   subst e;exact⟨f0,f1,f2,f3,f4,f5⟩) (λb hb=>by
   have e:b=it:=by simpa using hb
   subst e;exact⟨oi,hoi,λv z=>by rw [hdi] at z;cases z⟩)
  refine AO (wpAny_holding ?_)
  refine AO (wpAny_tryCatch ?_)
  unfold Builtin.Dict.pairItems
  refine AO (wpAny_typeOf hT ?_)
  rw [if_pos (by decide)]
  unfold seqItems?
  refine AO (AO (wpAny_load ho ?_))
  rw [hod]
  refine Ae (Ae ?_)
  show AI _ A.in1 (holding [u1,u2] (dictSet D u1 u2)) _ _ _
  refine wpAny_holding (c0I I1' hD ru1 (by rw [AU] at hz;lia) ru2 λs2 I2'=> ?_)
  have I2:=I2'.unpinned
  have hl2:=a26 kvs pr.1 pr.2
  have hD2:upd H D (.dK (a1d kvs pr.1 pr.2)) D=ξ (.dK (a1d kvs pr.1 pr.2)):=n6
  have hit:it≠D:=λz=>by rw [z,hD] at f0;cases f0
  refine Ae ⟨plainId_quiet W5 _, ?_⟩
  refine ih (i+1) s2 (a1d kvs pr.1 pr.2) (upd H D (.dK (a1d kvs pr.1 pr.2))) _ _ I2 hD2 (c2F hD hl) (by rw [hr];exact Paired.mapP h2 λp q z=>z.upd hD) ?_ ⟨by rw [m4 hit];exact f0,f1,f2,f3,f4,f5⟩ (by rw [AU] at hz;lia) λs' I'=>hR s' (by rw [b8Q] at I';exact I')
  exact st'.at λo e=>(I2'.pin (it,o) (Au _ (Au _ (a2C (by simp) e)))).1
end
def c4n(K:AE):List V->Hp->VK->Prop:=λvs H Q=>∃l xs kvs,vs=[.ref l]/\SqL K H l xs/\Paired (a7z K H) kvs xs/\∀a,H a=ζ->Q (.ref a) (upd H a (.dK (a8n [] kvs)))
section
variable {X:Cx}
theorem b9b(hc:X.calm=true)(hu:X.A.units+64<cLine):T4 X (.type "dict") (c4n X.K):=by
 intro pins s σ H vs us Q I rv h;obtain⟨l,xs,kvs,rfl,hl,hp,k⟩:=h;obtain⟨us1,rfl⟩:∃u,us=[u]:=by
  cases rv with
  |cons a t=>cases t;exact⟨_,rfl⟩
 cases rv with
 |cons ru _=>
 cases(show us1=Value.ref l from ru);have hn:=I.hok.fresh (AN s.heap.objs.size);have I1:=I.laid (a:=s.heap.objs.size) (o:= .dK []) (h':=s.heap.push {cls:= .type "dict",data:= .dict #[]}) (t':=s.toks) (λ_ _ q=>Am _ q) (AN _) (b4Y s.heap I.big);have hD:upd H s.heap.objs.size (.dK []) s.heap.objs.size=ξ (.dK []):=n6;have dsame:∀b u,H b=ξ u->upd H s.heap.objs.size (.dK []) b=ξ u:=λb u e=>by rw [m4 (v6 e hn)];exact e
 have hl1:SqL X.K (upd H s.heap.objs.size (.dK [])) l xs:=by
  rcases hl with(h|⟨o,h⟩)|h
  ·exact .inl (.inl (dsame _ _ h))
  ·exact .inl (.inr ⟨o,dsame _ _ h⟩)
  ·exact .inr h
 have hp1:Paired (a7z X.K (upd H s.heap.objs.size (.dK []))) kvs xs:=Paired.mapP hp λp x ⟨a,e1,e2⟩=>⟨a,e1,(by
  rcases e2 with(h|⟨o,h⟩)|h
  ·exact .inl (.inl (dsame _ _ h))
  ·exact .inl (.inr ⟨o,dsame _ _ h⟩)
  ·exact .inr h)⟩
 have hh:=I.ok.hd hc;refine callType_codes (Q₁:=λobj s₁=>obj= .ref s.heap.objs.size/\s₁={s with heap:=s.heap.push {cls:= .type "dict",data:= .dict #[]}}) F.kt_called_dict (F.kt_typeCall_dict_1 _) F.entry_dict_init (kt_code_dict_new _ ⟨rfl,rfl⟩) ?_
 rintro obj s₁ ⟨rfl,rfl⟩;have hT:Shared.TypeIs {s with heap:=s.heap.push {cls:= .type "dict",data:= .dict #[]}} (.ref s.heap.objs.size) "dict":=⟨_,At _ rfl,rfl⟩
 refine⟨hT,F.args_dict_init_2 _ _, ?_⟩;obtain⟨its,rvl,⟨ol,n,hol,hcl,hdl,hdatl⟩,hz⟩:=I1.list hl1;unfold Builtin.«dict.__init__»;refine AO ?_;unfold Builtin.Dict.selfAndRest;refine AO (wpAny_notOrdered_dict hT ?_);show AI _ _ (pure (s.heap.objs.size,[Value.ref l])) _ _ _;refine Ae ?_;show AI _ _ (Builtin.Dict.updateFrom "dict.__init__" s.heap.objs.size (.ref l) [] .none) _ _ _;unfold Builtin.Dict.updateFrom;refine AO (wpAny_typeOf (T:="list") ⟨_,hol,hcl⟩ ?_);rw [if_pos (by decide)]
 refine AO (a7F (A:=X.A.in1.in1) hol hcl hdatl hdl b3T (by decide+kernel) hh (λh' tk kp=> ?_) (by rw [sizeLine_eq];decide+kernel))
 have I2:m6 X pins σ _ {s with heap:=h',toks:=tk}:=I1.kept (t':=tk) kp
 rw [if_pos (show(ζ:Υ AA).isNone=true from rfl)];refine AO (wpAny_rule ?_);obtain⟨its3,rv3,p3,_⟩:=I2.list hl1;refine AO (wpAny_pyIter_list p3.isList ?_);have I3:=I2.kept (h':=h'.push {cls:= .type "list_iterator",data:= .fields #[.ref l,.int 0 0]}) (t':=tk) λb o e=>Am _ e;have hit:=I2.hok.fresh (AN h'.objs.size);have hlen:=Paired.length hp;refine Ae ⟨plainId_quiet W5 _, ?_⟩;refine b5T (X:=X) (pins:=pins) (σ:=σ) (A:=X.A.in1) (xs:=xs) (show X.A.units+1+8<cLine by lia) hh kvs 0 _ [] _ _ _ I3 hD hl1 hp1 ⟨_,At _ rfl,rfl,rfl⟩ (I2.fpOk (AN _) hit) (by rw [Ad,Nat.zero_add,hlen];exact hz) λs' I'=> ?_
 refine⟨rfl,.ref s.heap.objs.size,_,I',rfl, ?_⟩;rw [b8Q];exact k _ hn
end
def c13(p:PV):Υ (List m7×PV):=match p with
 | .tuple [.str x,v]=>ξ ([.inr x],v)
 |_=>ζ
def a29:List PV->Υ (Γ)
 |[]=>ξ []
 |p::ps=>(c13 p).bind λa=>(a29 ps).map λr=>a::r
def b3H(x:d4):Υ d4:=match x.rd with
 | .list ps=>(a29 ps).map λkvs=> .ow (.txt (b3d [] kvs))
 |_=>ζ
theorem a9O{K:AE}{F H:Hp}(s:m5 F H):∀{ps:List PV} {xs:List V} {kvs:Γ},a29 ps=ξ kvs->o0 K F ps xs->∃ys:List (m7×V),Paired (a7z K H) ys xs/\E3 K F kvs (ys.map s1)
 |[],_,_,e,h=>by cases e;cases h;exact⟨[],.nil,rfl⟩
 |p::ps,_,_,e,⟨x,r,hx,h1,h2⟩=>by
  subst hx;obtain⟨a,e1,e⟩:=bind_some e;cases hq:a29 ps with
  |none=>rw [hq] at e;cases e
  |some kvs=>
   rw [hq] at e;cases e;obtain⟨ys,pr,rd⟩:=a9O s hq h2;unfold c13 at e1;split at e1
   ·rename_i k v;cases e1;obtain⟨t,zs,rfl,ht,y1,_,rfl,r1,y2,_,rfl,r2,hnil⟩:=h1;cases hnil;cases(show y1=V.str k from r1);exact⟨(.inr k,y2)::ys,.cons ⟨t,rfl,A7 s ht.sq⟩ pr,y2,_,rfl,r2,rd⟩
   ·cases e1
theorem b8z:∀(ws ys:List (m7×V)),(a8n ys ws).map s1=b7q (ys.map s1) (ws.map s1)
 |[],ys=>rfl
 |(k,v)::r,ys=>by
  show(a8n (a1d ys k v) r).map s1=b7q (a1d (ys.map s1) [k] v) (r.map s1);rw [b8z r,c2h]
section
variable {X:Cx}
theorem c0E(hc:X.calm=true)(hu:X.A.units+64<cLine):T4 X (.type "dict") (rC1 X.K b3H):=by
 ext d
 unfold b3H at h2;split at h2
 ·rename_i ps e;cases hq:a29 ps with
  |none=>rw [hq] at h2;cases h2
  |some kvs=>
   rw [hq] at h2;cases h2;obtain⟨a,ys,rfl,hs,r⟩:∃a ys,x= .ref a/\SqL X.K H a ys/\o0 X.K F ps ys:=by
    cases rx with
    |v p=>
     have e:p= .list ps:=e;subst e;obtain⟨a,ys,e1,e2,e3⟩:=h1;exact⟨a,ys,e1,Y1 s0 e2,e3⟩
    |ow z=>cases z<;>cases e;obtain⟨a,ys,e1,_,e2,e3⟩:=h1;exact⟨a,ys,e1,SqL.of e2,e3⟩
    |bo z=>cases z<;>cases e;obtain⟨a,ys,e1,_,e2,e3⟩:=h1;exact⟨a,ys,e1,SqL.of e2,e3⟩
   obtain⟨zs,pr,rd⟩:=a9O s0 hq r;refine b9b hc hu pins s σ H _ us Q I rv ⟨a,ys,zs,rfl,hs,pr,λd hd=>k _ F _ ⟨Ext.layH s0 hd,⟨d,_,rfl,s0.free hd,n6, ?_⟩,λ_ _ _ e=>by cases e;exact hd⟩⟩
   rw [b8z];exact b3f (ys:=[]) rfl rd
 ·cases h2
end
abbrev tv(kvs:Γ):PV:= .dict (kvs.map λkv=>(PyData.tuple (kv.1.map kP),kv.2))
def ones(kvs:Γ):Bool:=kvs.all λkv=>kv.1.length==1
def tvw(i:Nat)(ρ:c9):Υ (Γ):=match ρ[i]? with
 |some (ξ (.v (.dict es)))=>(unE es).bind λkvs=>if ones kvs=true then ξ kvs else ζ
 |_=>ζ
theorem c6K{i:Nat}{ρ:c9}{kvs:Γ}(h:ρ[i]?=ξ (ξ (.v (tv kvs))))(ho:ones kvs=true):tvw i ρ=ξ kvs:=by
 unfold tvw;rw [h];show(unE _).bind _=_;rw [b7B,AD,if_pos ho]
theorem c6J{K:AE}{F H:Hp}{σ:L2.St}{ρ:c9}(en:M6 K F H σ ρ){i:Nat}{kvs:Γ}(h:tvw i ρ=ξ kvs):∃a xs,σ[i]?=ξ (ξ (.ref a))/\F a=ξ (.dK xs)/\E3 K F kvs (xs.map s1):=by
 unfold tvw at h;split at h
 ·rename_i es eo;obtain⟨kvs',e1,h⟩:=bind_some h;split at h
  ·rename_i ho;cases h;obtain⟨v,hv,hr⟩:=en.at_ i _ eo;rcases hr with⟨a,ys,rfl,ha,hr⟩|⟨a,xs,rfl,ha,hr⟩|⟨x,t,e,_⟩|⟨x,m,fs,_,hr⟩
   ·obtain⟨kvs',h1,h2⟩:=b0x hr;rw [e1] at h1;cases h1;exact⟨a,ys,hv,ha,h2⟩
   ·exfalso
    obtain⟨kvs',h1,h2⟩:=b0x hr;rw [e1] at h1;cases h1;cases kvs with
    |nil=>cases h2
    |cons f fs=>
     obtain⟨k,p⟩:=f;obtain⟨v,t,e,_⟩:=h2;cases e;simp [ones] at ho
   ·subst e;simp [unE] at e1
   ·cases es with
    |nil=>cases hr
    |cons f es=>obtain⟨k,p⟩:=f;obtain⟨_,_,_,_,z,_⟩:=hr;subst z;simp [unE] at e1
  ·cases h
 ·cases h
section
variable {X:Cx}
def b1j(i:Nat)(mk:M):M:=λρ=>((mk ρ).bind b08).bind λx=>(tvw i ρ).bind λkvs=>(z5 kvs [.inr x]).map .v
theorem c0T(i:Nat){x:Str}{p pos:Pos}{ek:AF}{mk:M}(hu:X.A.units+64<cLine)(hx:PE X (.Name x p) (a2P i))(hi:EE X ek mk)(hs:b8Y ek:=by intro _ _;rfl):EE X (.Subscript (.Name x p) ek pos) (b1j i mk):=
 B9 (b0u (by lia) hx hi hs) λσ H Q h0=>A1 h0 λF ρ r en e k=>by
  obtain⟨kk,e4,e⟩:=bind_some e;obtain⟨rk,e4,e5⟩:=bind_some e4;obtain⟨kvs,e3,e⟩:=bind_some e;cases hv:z5 kvs [.inr kk] with
  |none=>rw [hv] at e;cases e
  |some q=>
   rw [hv] at e;cases e;obtain⟨a,xs,hw1,ha',rl⟩:=c6J en e3;obtain⟨y,hy,ry⟩:=(rl.val (k:=[.inr kk])).1 q hv;rw [b7D] at hy;refine⟨.ref a,hw1,F,ρ,rk,en,e4,λz F3 H3 o3=> ?_⟩;cases b09 e5 o3.rep;exact⟨a,y,rfl,by rw [<-hy];exact a5g.k (o3.x.h _ _ (en.fh _ _ ha')),k _ _ _ (B4.val o3.x (J7.mono o3.x.f _ ry))⟩
end
mutual
def nk:PV->Bool
 | .list ps=>nkL ps
 | .tuple ps=>nkL ps
 | .dict _=>false
 |_=>true
def nkL:List PV->Bool
 |[]=>true
 |p::ps=>nk p && nkL ps
end
def nkD:Γ->Bool
 |[]=>true
 |(_,p)::r=>nk p && nkD r
def d4.noK:d4->Bool
 | .v p=>nk p
 | .ow (.lst ps)=>nkL ps
 | .ow (.dct kvs)=>nkD kvs
 | .ow (.txt kvs)=>nkD kvs
 | .bo _=>false
section
variable {K:AE}{F:Hp}{a:AB}{xs:List (m7×V)}
mutual
theorem b1C(ha:F a=ξ (.dK xs)):∀(p:PV) {v:V},J7 K F p v->nk p=true->J7 K (drp F a) p v
 | .none,_,h,_=>h
 | .bool _,_,h,_=>h
 | .int _,_,h,_=>h
 | .str _,_,h,_=>h
 | .list ps,_,⟨b,ys,e,q,r⟩,n=>⟨b,ys,e,(by
  rcases q with(q|⟨o,q⟩)|q
  ·exact .inl (.inl (by rw [X0 (a31 q ha (λz=>nomatch z))];exact q))
  ·exact .inl (.inr ⟨o,by rw [X0 (a31 q ha (λz=>nomatch z))];exact q⟩)
  ·exact .inr q),a6w ha ps r (by simpa [nk] using n)⟩
 | .tuple ps,_,⟨b,ys,e,q,r⟩,n=>⟨b,ys,e,(by
  rcases q with q|q
  ·exact .inl (by rw [X0 (a31 q ha (λz=>nomatch z))];exact q)
  ·exact .inr q),a6w ha ps r (by simpa [nk] using n)⟩
 | .dict kvs,_,h,n=>by simp [nk] at n
theorem a6w(ha:F a=ξ (.dK xs)):∀(ps:List PV) {vs:List V},o0 K F ps vs->nkL ps=true->o0 K (drp F a) ps vs
 |[],_,h,_=>h
 |p::ps,_,⟨v,r,e,q,t⟩,n=>by
  simp only [nkL,χ] at n;exact⟨v,r,e,b1C ha p q n.1,a6w ha ps t n.2⟩
end
theorem a9i(ha:F a=ξ (.dK xs)):∀(kvs:Γ) {ys:List (List m7×V)},E3 K F kvs ys->nkD kvs=true->E3 K (drp F a) kvs ys
 |[],_,h,_=>h
 |(k,p)::r,_,⟨v,t,e,q,h⟩,n=>by
  simp only [nkD,χ] at n;exact⟨v,t,e,b1C ha p q n.1,a9i ha r h n.2⟩
theorem b98{H:Hp}{v:V}(ha:F a=ξ (.dK xs)):∀{r:d4},U1 K F H v r->r.noK=true->U1 K (drp F a) H v r
 | .v p,h,n=>b1C ha p h n
 | .ow (.lst ps),⟨b,ys,e,f,q,r⟩,n=>⟨b,ys,e,a3J f,q,a6w ha ps r n⟩
 | .ow (.dct kvs),⟨b,ys,e,f,q,r⟩,n=>⟨b,ys,e,a3J f,q,a9i ha kvs r n⟩
 | .ow (.txt kvs),⟨b,ys,e,f,q,r⟩,n=>⟨b,ys,e,a3J f,q,a9i ha kvs r n⟩
 | .bo _,_,n=>nomatch n
end
theorem b60{K:AE}{F2 H1 F3 H3:Hp}{a:AB}{xs:List (m7×V)}{u:V}{r:d4}(fa:F2 a=ζ)(o3:B4 K (upd F2 a (.dK xs)) H1 F3 H3 u r)(c:r.noK=true):B4 K F2 H1 (drp F3 a) H3 u r:=by
 have up:m5 F2 (upd F2 a (.dK xs)):=P9 fa;refine⟨⟨λb o z=> ?_,o3.x.h,λb o z=> ?_,λb o z y t=> ?_,λb w u z=> ?_⟩,b98 (o3.x.f _ _ n6) o3.rep c,o3.fr⟩
 ·have hb:b≠a:=v6 z fa;rw [X0 hb];exact o3.x.f _ _ (up _ _ z)
 ·by_cases hb:b=a
  ·subst hb;rw [a3K] at z;cases z
  ·rw [X0 hb] at z;exact o3.x.fh _ _ z
 ·by_cases hb:b=a
  ·subst hb;exact a3K
  ·rw [X0 hb];exact o3.x.nw b o (by rw [m4 hb];exact z) y t
 ·by_cases hb:b=a
  ·subst hb;rw [a3K] at z;cases z
  ·rw [X0 hb] at z;have:=o3.x.nf _ _ _ z;rw [m4 hb] at this;exact this
theorem b9G{K:AE}{F2:Hp}{a:AB}{xs:List (m7×V)}{kvs:Γ}(fa:F2 a=ζ)(rl:E3 K F2 kvs (xs.map s1)):J7 K (upd F2 a (.dK xs)) (tv kvs) (.ref a):=Or.inl ⟨a,xs,rfl,n6,a5j.of (P9 fa) rl⟩
section
variable {X:Cx}
end
theorem b64(i:Nat)(mk:M)(ρ:c9):b1j i mk ρ=((mk ρ).bind b08).bind λx=>(tvw i ρ).bind λkvs=>(z5 kvs [.inr x]).map .v:=ω
section
variable {prog:AJ}{w:AH}{A:AM}{E:AA->AC->Prop}{s:AC}{z TI TO i1 i2:AB}{n1 n2 i:Nat}{P1 P2:Nat->AA->Prop}{St1 St2:Nat->Heap->Prop}{a b:AA}
end
section
variable {X:Cx}
end
section
variable {prog:AJ}{w:AH}{K:Type}[DecidableEq K]{knd:KeyKind prog w K}{A:AM}{E:AA->AC->Prop}{s:AC}
end
section
variable {X:Cx}
end
section
variable {X:Cx}{tg:AF}
end
set_option maxHeartbeats 3200000
section
variable {prog:AJ}{w:AH}{A:AM}{E:AA->AC->Prop}{s:AC}
end
end PU
set_option maxHeartbeats 1000000
namespace PU
open PySem PySem.Spec PyProof.Rows L2
section
variable {X:Cx}
def a5F:List PV->Υ (List Int)
 |[]=>ξ []
 | .int i::r=>(a5F r).map (i::·)
 |_=>ζ
theorem b04{K:AE}{F:Hp}:∀{ps:List PV} {is:List Int} {xs:List V},a5F ps=ξ is->o0 K F ps xs->xs=is.map V.int
 |[],_,_,h,r=>by cases h;cases r;rfl
 |p::ps,is,xs,h,⟨v,vs,e,rv,rt⟩=>by
  subst e;cases p with
  |int z=>
   cases hs:a5F ps with
   |none=>simp [a5F,hs] at h
   |some is'=>
    have h:is=z::is':=by simpa [a5F,hs] using h.symm
    subst h;have e1:=b04 hs rt;cases rv;rw [e1];rfl
  |_=>simp [a5F] at h
theorem u7{st:List Stmt}:ESs X st (λ_=>ζ):=λpins s σ H D I h=>by
 obtain⟨F0,H0,F,ρ,fl,so,e,fin⟩:=h;cases e
def M9(x y z:d4):Υ d4:=match x,y,z with
 | .v (.str a),.v (.str b),.v (.int i)=>ξ (.v (.bool (fromIndex a.length i+b.length<=a.length && Builtin.Str.subAt a b (fromIndex a.length i))))
 |_,_,_=>ζ
def m3(g:d4->d4->d4->Υ d4)(a b c:M):M:=λρ=>(a ρ).bind λx=>(b ρ).bind λy=>(c ρ).bind λz=>g x y z
theorem b9P:MtR X "str.startswith" (λx xs H Q=>∃F y z rx ry rz r,xs=[y,z]/\m5 F H/\U1 X.K F H x rx/\U1 X.K F H y ry/\U1 X.K F H z rz/\M9 rx ry rz=ξ r/\∀v F' H',B4 X.K F H F' H' v r->Q v H'):=by
 intro pins s σ H x xs v us Q I rx rv h;obtain⟨F,y,z,ra,rb,rc,r,rfl,s0,h1,h2,h3,h4,k⟩:=h;cases rv with
 |cons ru rv=>
  cases rv with
  |cons ru2 rv=>
   cases rv;unfold M9 at h4;split at h4
   ·rename_i a b i;cases h4;cases h1;cases h2;cases h3;obtain⟨t,rfl⟩:=rx;obtain⟨t2,rfl⟩:=ru;obtain⟨t3,rfl⟩:=ru2;exact call_gives PySem.F.slot_str_startswith (typeIs_str _ _ _) PySem.F.entry_str_startswith (PySem.F.args_str_startswith_3 _ _ _) (gives_str_startswith_from a b i t t2 t3) ⟨.bl _,H,I,rfl,k _ F H (B4.here s0 rfl)⟩
   ·cases h4
theorem a06{o e f:AF}{m n l:M}{apos cpos:Pos}(ho:EE X o m)(ha:EE X e n)(hb:EE X f l)
 (hbase:attributeBase o "startswith" X.env (eval o X.env)=eval o X.env:=by rfl)
 (hfew:((backTo cpos (AK [e,f] X.env)).all (λx=> !x.1)&&(backToKw cpos (keywordEach [] X.env)).all (λx=>x.1.isSome)
  && decide ([e,f].length+([]:List Keyword).length+(if([]:List Keyword).isEmpty then 0 else 1)<30))=true:=by rfl)
 (hline:(apos.endLine==cpos.line)=true:=by rfl) (hs:AK [e,f] X.env=(false,eval e X.env)::AK [f] X.env:=by rfl) (hs2:AK [f] X.env=(false,eval f X.env)::AK [] X.env:=by rfl) (hplain:(backTo cpos (AK [f] X.env)).any (·.1)=false:=by rfl):
 EE X (.Call (.Attribute o "startswith" apos) [e,f] [] cpos) (m3 M9 m n l):=
 B9 (b5W PySem.F.plainAttrs_str PySem.F.slot_str_startswith PySem.F.type_str_startswith b9P ho (J3 ha (J3 hb a0d hs2) hs) hbase hfew hline hs hplain) λσ H Q h0=>A1 h0 λF ρ r he hm k=>by
  ext g
  unfold M9 at hm;split at hm
  ·cases o1.rep;rfl
  ·cases hm
theorem a5L(g:d4->d4->d4->Υ d4)(a b c:M)(ρ:c9):m3 g a b c ρ=(a ρ).bind λx=>(b ρ).bind λy=>(c ρ).bind λz=>g x y z:=ω
end
theorem el5{C:List AA->Prop}(h:∀a b c d e,C [a,b,c,d,e])(us:List AA)(e:us.length=5):C us:=by
 obtain⟨a,t,rfl,z⟩:=elS e;exact el4 (C:=λt=>C (a::t)) (h a) t z
section
variable {X:Cx}
abbrev _root_.L2.Cx.aim(X:Cx)(Y:AA->AC->Prop)(pn:List (AB×Obj)):Cx:={X with xe:=Y,pn:=pn}
theorem c5c{Y:AA->AC->Prop}{pins:List (AB×Obj)}{σ:L2.St}{H:Hp}{s:AC}(I:m6 X pins σ H s):m6 (X.aim Y (X.pn++pins)) [] σ H s:=⟨⟨I.ok.mod,I.ok.kind,I.ok.glob,I.ok.blt,I.ok.above,I.ok.inj,I.ok.has,I.ok.cab,I.ok.hd,I.ok.frames,I.ok.stk,I.ok.exf,I.ok.bs,I.ok.bsz,I.ok.noex,I.ok.exfs,I.ok.funs,I.ok.frf⟩,I.os,I.bare,I.base,I.loc,I.cell,I.free,I.freeC,λp hp=>I.pin p (by simpa using hp),I.hok,I.len⟩
theorem a6f{Y:AA->AC->Prop}{pins pins1:List (AB×Obj)}{σ:L2.St}{H:Hp}{s:AC}(I:m6 (X.aim Y (X.pn++pins)) pins1 σ H s):m6 X pins σ H s:=⟨⟨I.ok.mod,I.ok.kind,I.ok.glob,I.ok.blt,I.ok.above,I.ok.inj,I.ok.has,I.ok.cab,I.ok.hd,I.ok.frames,I.ok.stk,I.ok.exf,I.ok.bs,I.ok.bsz,I.ok.noex,I.ok.exfs,I.ok.funs,I.ok.frf⟩,I.os,I.bare,I.base,I.loc,I.cell,I.free,I.freeC,λp hp=>I.pin p (BD _ hp),I.hok,I.len⟩
def Ap(X:Cx)(pins:List (AB×Obj))(b:AB):Prop:=X.s₀.heap.get? b=ζ/\b≠X.env.locals/\(∀x z,X.env.cells.lookup x=ξ z->z≠b)/\∀p∈X.pn++pins,p.1≠b
def Hnd(X:Cx)(hs:List ExceptHandler)(th:AB->AB->Υ AB->TS):Prop:=
 ∀(pins:List (AB×Obj)) (s:AC) (σ:L2.St) (H:Hp) (D:a2O) (a C T:AB) (dd:Υ AB),m6 X pins σ H s->ExT s.heap a C T .none dd->H a=ζ->H T=ζ->Ap X pins a->Ap X pins T->th a C dd D σ H->
  AI (model X.prog X.w) X.A (handleBy (.ref a) X.env hs) (SP X pins D) X.xe s
theorem apart{pins:List (AB×Obj)}{σ:L2.St}{H:Hp}{s:AC}{b:AB}(I:m6 X pins σ H s)(hx0:X.ex=[])(h:s.heap.get? b=ζ):X.s₀.heap.get? b=ζ/\b≠X.env.locals/\(∀x z,X.env.cells.lookup x=ξ z->z≠b)/\∀p∈X.pn++pins,p.1≠b:=by
 refine⟨?_,λe=> ?_,λx z hz e=> ?_,λp hp e=> ?_⟩
 ·cases h0:X.s₀.heap.get? b with
  |none=>rfl
  |some o=>
   obtain⟨o',e⟩:=I.base.there b o h0 (λz=>by rw [hx0] at z;cases z)
   rw [h] at e;cases e
 ·obtain⟨m,⟨o,_,_,ho,_⟩,_⟩:=I.loc;rw [<-e,h] at ho;cases ho
 ·obtain⟨v,o,ho,_⟩:=I.cell x z hz;rw [e,h] at ho;cases ho
 ·have:=(I.pin p hp).1;rw [e,h] at this;cases this
theorem c6n{body:List Stmt}{h₀:ExceptHandler}{hs:List ExceptHandler}{pos:Pos}{tb:(L2.St->XK)->TS}{th:AB->AB->Υ AB->TS}(hx0:X.ex=[])(hst:X.stack=X.env::X.outer)(hfr:X.env.frame=ξ X.env.locals)
 (hb:∀(Y:AA->AC->Prop) (pn:List (AB×Obj)) (E:L2.St->XK),a4l (CX1 X.prog X.w) (X.aim Y pn) E->PSs (X.aim Y pn) body (tb E)) (hh:Hnd X (h₀::hs) th):
 PS X (.Try body (h₀::hs) [] [] pos) (λD σ H=>tb (λσ1 v dd H1=>∃C,v= .ref C/\∀a,H1 a=ζ->th a C dd D σ1 H1) D σ H):=by
 intro pins s σ H D I h
 refine wpAny_Try_except ?_
 have key:=hb (λe s₁=>AI (model X.prog X.w) X.A (noteFrame e X.env) (λ_ s₂=>AI (model X.prog X.w) X.A (setFlight e ζ) (λ_ s₃=>AI (model X.prog X.w) X.A (handleBy e X.env (h₀::hs)) (SP X pins D) X.xe s₃) X.xe s₂) X.xe s₁) (X.pn++pins) _ ?_ [] s σ H D (c5c I) h
 ·refine R1 key λfl s1 hq=> ?_
  cases fl with
  |next=>
   obtain⟨σ',H',J,q⟩:=hq
   exact wpAny_execs_nil ⟨σ',H',a6f J,q⟩
  |brk=>obtain⟨σ',H',J,q⟩:=hq;exact⟨σ',H',a6f J,q⟩
  |cont=>obtain⟨σ',H',J,q⟩:=hq;exact⟨σ',H',a6f J,q⟩
  |ret u=>obtain⟨v,σ',H',J,r,q⟩:=hq;exact⟨v,σ',H',a6f J,r,q⟩
 ·intro pins1 σ1 H1 s1 e s' I1 hx
  obtain⟨a,C,T,dd,H2,rfl,ho,hbare,un,hok,ha,hT,hn,hTn,x,C',e1,ht⟩:=hx
  cases e1
  have J1:=I1.call' (ch:=[]) ho un hok hbare λb z=>nomatch z
  have J:m6 X pins σ1 H2 s':=a6f J1
  have J0:m6 X pins σ1 H1 s1:=a6f I1
  show AI (model X.prog X.w) X.A (noteFrame (.ref a) X.env) _ X.xe s'
  have fr:X.A.frames=ξ (X.env::X.outer):=by rw [<-hst];exact J.ok.frames
  have fn:s'.heap.FunFrames X.base (X.env::X.outer):=by rw [<-hst];exact J.stack
  refine b25 fr fn hfr x (by simp [rawInt]) λT' h1 hT' x1 c1=> ?_
  refine b3F x1 ζ λh2 x2 c2 _=> ?_
  have hTn':H2 T'=ζ:=J.hok.fresh hT'
  have c:Chg (frs X.stack) ([T,a]++[T']) s'.heap h2:=by
   rw [hst];exact c1.trans (c2.more (λb hb=>nomatch hb) λb hb=>hb)
  have mem:∀b∈[T,a]++[T'],b=T\/b=a\/b=T':=λb hb=>by simpa using hb
  have q1:=apart J0 hx0 hT
  have q2:=apart J0 hx0 ha
  have q3:=apart J hx0 (Heap.get?_none_of_le hT')
  have K:m6 X pins σ1 H2 {s' with heap:=h2}:=m6.chg J c (λb hb=> ?_) (λb hb=> ?_) (λb hb=> ?_) (λb hb=> ?_) (λb hb=> ?_)
  ·exact hh pins _ σ1 H2 D a C T' dd K x2 hn hTn' q2 q3 (ht a hn)
  all_goals rcases mem b hb with rfl|rfl|rfl
  ·exact q1.1
  ·exact q2.1
  ·exact q3.1
  ·exact hTn
  ·exact hn
  ·exact hTn'
  ·exact q1.2.1
  ·exact q2.2.1
  ·exact q3.2.1
  ·exact q1.2.2.1
  ·exact q2.2.2.1
  ·exact q3.2.2.1
  ·exact q1.2.2.2
  ·exact q2.2.2.2
  ·exact q3.2.2.2
end
theorem b9l{M:Model}{A:AM}{E:AA->AC->Prop}{h:Heap}{g:Array GenState}{d:Drawn}{t:Nat}{os:OsState}{e C B:AB}{oe:Obj}{Q:Bool->AC->Prop}(hC:c0p C h)(hB:c0p B h)
 (he:h.get? e=ξ oe) (hcls:oe.cls= .ref C) (hq:∀tl:List AA,OwnTail h b1k tl->(∃N nm q bs hdct sn sub ab col dd k0 k1 k2 k3 k5,h.get? C=ξ (excClassObj nm q C N bs tl hdct sn sub ab col dd k0 k1 k2 k3 k5 "ValueError.__new__"))->Q ((Value.ref C::tl).contains (.ref B)) ⟨h,g,d,t,os⟩):AI M A (excMatches (.ref e) (.ref B)) Q E ⟨h,g,d,t,os⟩:=by
 obtain⟨tl,N,nm,q,bs,hdct,sn,sub,ab,col,dd,k0,k1,k2,k3,k5,hC,T⟩:=hC
 obtain⟨tl',N',nm',q',bs',hdct',sn',sub',ab',col',dd',k0',k1',k2',k3',k5',hB,T'⟩:=hB
 have hq':=hq tl T ⟨_,_,_,_,_,_,_,_,_,_,_,_,_,_,_,hC⟩
 have hcB:(Value.ref B::tl').contains (.type "BaseException")=true:=by rw [List.contains_cons,T'.hasType (show b1k.contains (.type "BaseException")=true by decide),Bool.or_true]
 have f:=tc_notTuple
 unfold excMatches
 repeat (first|(with_reducible refine wpAny_loadPart_at he ?_;rw [hcls])|with_reducible refine wpAny_loadPart_at hB ?_|(with_reducible refine wpAny_isSubtype_exc hB ?_;rw [hcB])|with_reducible refine wpAny_isSubtype_exc hC ?_|wp_step)
 cases hb:(Value.ref C::tl).contains (.ref B)<;>(rw [hb] at hq';wp_walk;exact hq')
def b3q(X:Cx)(C B:AB)(b:Bool):Prop:=∀h:Heap,X.K.In h->c0p C h/\c0p B h/\∀(tl:List AA) N nm q bs hdct sn sub ab col dd k0 k1 k2 k3 k5,h.get? C=ξ (excClassObj nm q C N bs tl hdct sn sub ab col dd k0 k1 k2 k3 k5 "ValueError.__new__")->(Value.ref C::tl).contains (.ref B)=b
section
variable {X:Cx}
abbrev _root_.L2.Cx.caught(X:Cx)(a:AB)(Y:AA->AC->Prop):Cx:={X with A:=X.A.mark (ξ (.ref a)),calm:=false,xe:=Y}
theorem b2D{a:AB}{Y:AA->AC->Prop}{pins:List (AB×Obj)}{σ:L2.St}{H:Hp}{s:AC}(I:m6 X pins σ H s):m6 (X.caught a Y) pins σ H s:=⟨⟨I.ok.mod,I.ok.kind,I.ok.glob,I.ok.blt,I.ok.above,I.ok.inj,I.ok.has,I.ok.cab,(λz=>nomatch z),I.ok.frames,I.ok.stk,I.ok.exf,I.ok.bs,I.ok.bsz,I.ok.noex,I.ok.exfs,I.ok.funs,I.ok.frf⟩,I.os,I.bare,I.base,I.loc,I.cell,I.free,I.freeC,I.pin,I.hok,I.len⟩
theorem a4t{a:AB}{Y:AA->AC->Prop}{pins:List (AB×Obj)}{σ:L2.St}{H:Hp}{s:AC}(hd:X.calm=true->X.A.handled=ζ)(I:m6 (X.caught a Y) pins σ H s):m6 X pins σ H s:=⟨⟨I.ok.mod,I.ok.kind,I.ok.glob,I.ok.blt,I.ok.above,I.ok.inj,I.ok.has,I.ok.cab,hd,I.ok.frames,I.ok.stk,I.ok.exf,I.ok.bs,I.ok.bsz,I.ok.noex,I.ok.exfs,I.ok.funs,I.ok.frf⟩,I.os,I.bare,I.base,I.loc,I.cell,I.free,I.freeC,I.pin,I.hok,I.len⟩
theorem c1p{x:Str}{B:AB}{np pos:Pos}{b₀:Stmt}{suite:List Stmt}{rest:List ExceptHandler}{ts:TS}(hg:Gl X x)(hm:X.mg x=ξ (.ref B))(hdb:Δ x)(hs:∀a Y,PSs (X.caught a Y) (b₀::suite) ts):
 Hnd X (.ExceptHandler (ξ (.Name x np)) ζ (b₀::suite) pos::rest) (λ_ C _ D σ H=>b3q X C B true/\ts D σ H):=by
 intro pins s σ H D a C T dd0 I ex hn hTn apA apT ⟨hbl,q⟩
 have J:m6 (X.caught a (notedBy (model X.prog X.w) (X.A.mark (ξ (.ref a))) X.env (cameBackBy (model X.prog X.w) X.A X.env X.xe))) pins σ H s:=b2D I
 refine wpAny_handleBy_cons (codeAny_handlers_test (a71 (X:=X.caught a _) J hg hm ?_ hdb)) (by intro q;cases q)
 obtain⟨hC,hB,hin⟩:=hbl s.heap I.kIn
 obtain⟨oe,vs,he,hcls,_⟩:=ex.obj
 obtain⟨hh,g,d,tk,os⟩:=s
 refine b9l hC hB he hcls λtl T0 ⟨N,nm,q0,bs,hdct,sn,sub,ab,col,dd,k0,k1,k2,k3,k5,hc⟩=> ?_
 rw [hin tl N nm q0 bs hdct sn sub ab col dd k0 k1 k2 k3 k5 hc]
 refine codeAny_handlers_suite ?_
 refine b3F (s:=⟨hh,g,d,tk,os⟩) ex ζ λh2 x2 c2 hsz=> ?_
 have one:∀b∈[T],b=T:=λb hb=>List.mem_singleton.mp hb
 have K:m6 X pins σ H ⟨h2,g,d,tk,os⟩:=m6.chg I (c2.more (λb hb=>nomatch hb) λb hb=>hb) (λb hb=>by rw [one b hb];exact apT.1) (λb hb=>by rw [one b hb];exact hTn) (λb hb=>by rw [one b hb];exact apT.2.1) (λb hb=>by rw [one b hb];exact apT.2.2.1) (λb hb=>by rw [one b hb];exact apT.2.2.2)
 refine R1 (hs a _ pins _ σ H D (b2D K) q) λfl s1 hq=> ?_
 show SP X pins D fl s1
 cases fl with
 |next=>obtain⟨σ',H',J,q⟩:=hq;exact⟨σ',H',a4t I.ok.hd J,q⟩
 |brk=>obtain⟨σ',H',J,q⟩:=hq;exact⟨σ',H',a4t I.ok.hd J,q⟩
 |cont=>obtain⟨σ',H',J,q⟩:=hq;exact⟨σ',H',a4t I.ok.hd J,q⟩
 |ret u=>obtain⟨v,σ',H',J,r,q⟩:=hq;exact⟨v,σ',H',a4t I.ok.hd J,r,q⟩
end
theorem a8I{K:AE}{h:Heap}{C:AB}(X:K.In h)(q:PySem.W.excIn K C b1k "ValueError.__new__"=true):c5b C h:=by
 unfold PySem.W.excIn at q;cases hk:K.lookup C with
 |none=>rw [hk] at q;cases q
 |some o=>
  rw [hk] at q;split at q
  ·rename_i dd cd sl e;cases e;obtain⟨nm,bs,mro,ns,qn,hd,sn,sub,ab,col,del⟩:=cd;obtain⟨l⟩:=sl;split at q
   ·rename_i C' bm k0 k1 k2 k3 n k5 hm hs;have hm:mro= .ref C'::bm:=hm;have hs:l=[k0,k1,k2,k3,ξ (.builtin n),k5]:=hs;subst hm hs;rw [χ,χ,χ,χ,χ] at q;obtain⟨⟨⟨⟨⟨c1,c2⟩,c3⟩,c4⟩,c5⟩,c6⟩:=q;have c3':del=false:=by simpa using c3
    cases(beq_iff_eq.mp c1);cases(beq_iff_eq.mp c2);clear c3;subst c3';exact⟨bm,ns,nm,qn,bs,hd,sn,sub,ab,col,dd,k0,k1,k2,k3,k5,_,X _ _ hk,.of_isNs (PySem.W.isNs_of_in X c5),PySem.W.nsMap_none_of_in X c5 (beq_iff_eq.mp c6),PySem.W.tail_of_in X c4⟩
   ·cases q
  ·cases q
def b5f(K:AE)(C B:AB):Bool:=match K.lookup C with
 |some ⟨_,_,.cls cd,_⟩=>cd.mro.contains (.ref B)
 |_=>false
def c3z(K:AE)(C:AB)(g:AB->Bool):Bool:=match K.lookup C with
 |some ⟨.type "type",_,.cls cd,sl⟩=>(match cd.mro,sl.toList with
  | .ref C'::bm,[_,_,_,_,ξ (.builtin n),_]=>C'==C && n=="ValueError.__new__" && !cd.hasDel && PySem.W.tailIn K b1k bm && g cd.ns
  |_,_=>false)
 |_=>false
def b43(K:AE)(C:AB):Bool:=c3z K C λ_=>true
theorem c3A{K:AE}{h:Heap}{C:AB}{g:AB->Bool}(X:K.In h)(q:c3z K C g=true):∃tl N nm q bs hdct sn sub ab col dd k0 k1 k2 k3 k5,
 h.get? C=ξ (excClassObj nm q C N bs tl hdct sn sub ab col dd k0 k1 k2 k3 k5 "ValueError.__new__")/\OwnTail h b1k tl/\g N=true:=by
 unfold c3z at q
 cases hk:K.lookup C with
 |none=>rw [hk] at q;cases q
 |some o=>
  rw [hk] at q
  split at q
  ·rename_i dd cd sl e
   cases e
   obtain⟨nm,bs,mro,ns,qn,hd,sn,sub,ab,col,del⟩:=cd
   obtain⟨l⟩:=sl
   split at q
   ·rename_i C' bm k0 k1 k2 k3 n k5 hm hs
    subst hm hs
    rw [χ,χ,χ,χ] at q
    obtain⟨⟨⟨⟨c1,c2⟩,c3⟩,c4⟩,c5⟩:=q
    have c3':del=false:=by simpa using c3
    cases(beq_iff_eq.mp c1)
    cases(beq_iff_eq.mp c2)
    clear c3
    subst c3'
    exact⟨bm,ns,nm,qn,bs,hd,sn,sub,ab,col,dd,k0,k1,k2,k3,k5,X _ _ hk,PySem.W.tail_of_in X c4,c5⟩
   ·cases q
  ·cases q
theorem b8S{K:AE}{h:Heap}{C:AB}(X:K.In h)(q:b43 K C=true):c0p C h:=by
 obtain⟨tl,N,nm,q,bs,hdct,sn,sub,ab,col,dd,k0,k1,k2,k3,k5,h1,h2,_⟩:=c3A X q;exact⟨tl,N,nm,q,bs,hdct,sn,sub,ab,col,dd,k0,k1,k2,k3,k5,h1,h2⟩
theorem c0x{X:Cx}{C B:AB}(q1:b43 X.K C=true)(q2:b43 X.K B=true):b3q X C B (b5f X.K C B):=λh I=>⟨b8S I q1,b8S I q2,λtl N nm q bs hdct sn sub ab col dd k0 k1 k2 k3 k5 hc=>by
 cases hk:X.K.lookup C with
 |none=>unfold b43 c3z at q1;rw [hk] at q1;cases q1
 |some o=>
  have:=I _ _ hk;rw [hc] at this;cases this;unfold b5f;rw [hk]⟩
def b9L(b:MX)(inm:Str->Bool)(hd:MS):MS:=λρ=>(b ρ).bind λfx=>match fx with
 | .fl f=>ξ f
 | .rz c ρ'=>if inm c.cls=true then hd ρ' else ζ
section
variable {X:Cx}
theorem c5t{body:List Stmt}{x:Str}{B:AB}{np hpos pos:Pos}{b₀:Stmt}{suite:List Stmt}{b:MX}{inm:Str->Bool}{hd:MS}(hx0:X.ex=[])(hst:X.stack=X.env::X.outer)(hfr:X.env.frame=ξ X.env.locals)
 (hg:Gl X x) (hm:X.mg x=ξ (.ref B)) (hdb:Δ x) (hin:∀c,inm c=true->∃C,X.mg c=ξ (.ref C)/\b3q X C B true)
 (hb:∀(Y:AA->AC->Prop) (pn:List (AB×Obj)) (E:L2.St->XK),a4l (CX1 X.prog X.w) (X.aim Y pn) E->EXs (X.aim Y pn) E body b) (hs:∀a Y,ESs (X.caught a Y) (b₀::suite) hd):
 ES X (.Try body [.ExceptHandler (ξ (.Name x np)) ζ (b₀::suite) hpos] [] [] pos) (b9L b inm hd):=
 G9 (c6n hx0 hst hfr (tb:=λE=>tMX X.K X.mg E b) hb (c1p (ts:=tMS X.K hd) hg hm hdb λa Y=>hs a Y)) λD σ H h0=>L8 h0 λF0 H0 F ρ fl so e fin=>by
  obtain⟨fx,e1,e⟩:=bind_some e;cases fx with
  |fl f=>cases e;exact⟨F0,H0,F,ρ,.fl _,so,e1,fin⟩
  |rz c ρ1=>
   have e:(if inm c.cls=true then hd ρ1 else ζ)=ξ fl:=e
   split at e
   ·rename_i hc;obtain⟨C,h1,h2⟩:=hin c.cls hc;exact⟨F0,H0,F,ρ,.rz c ρ1,so,e1,C,h1,λσ1 dd F' H' s' so' hn=>⟨C,rfl,λa ha=>⟨h2,F0,H0,F',ρ1,fl,so',e,fin.later s'⟩⟩⟩
   ·cases e
end
section
variable {X:Cx}{pins:List (AB×Obj)}{σ:L2.St}{H:Hp}{s:AC}
end
section
variable {X:Cx}
theorem c3y{E:L2.St->XK}{k k' i:Nat}{ps:List Str}{g:List PV->Υ (d4 ⊕ XT)}{x y:Str}{p pos pos' pos2:Pos}{e:AF}{es:List AF}{m:MA}(hN:X.N.Nodup)
 (d:b0C X.prog X.w X.K X.mg X.base x ps k g) (hr:W9 k' X.A) (hk:k<=k') (hg:Gl X x) (hx:a4l (CX1 X.prog X.w) X E) (hn:∀ρ qs,m ρ=ξ qs->qs.length=ps.length) (ha:EA X (e::es) m)
 (hi:X.N[i]?=ξ y:=by rfl) (hy:Loc X.env.scope y:=by exact Or.inl rfl) (hs:swapsWith (.Call (.Name x p) (e::es) [] pos) (ξ (.Name y pos')) pos2.line X.env=pure false:=by rfl) (hf:X.fn y=true\/X.env.scope.names.lookup y=ξ .local:=by first|exact .inl rfl|exact .inr rfl|assumption)
 (hdb:Δ x:=by decide) (he:Ψ e es X.env:=by rfl) (hpl:Φ₁ pos es X.env:=by rfl):
 EX X E (.Assign [.Name y pos'] (.Call (.Name x p) (e::es) [] pos) pos2) (b22 i g m):=by
 obtain⟨f,fd,G,h1,h2,h3⟩:=d
 exact c5u hN G (hr.mono hk) hg h1 h2 h3 hx hn ha hi hy hs hf hdb he hpl
end
def b3W(K:AE)(C:AB)(x:Str):Bool:=match K.lookup C with
 |some ⟨_,_,.cls cd,_⟩=>cd.name==x
 |_=>false
structure XC(K:AE)(mg:Str->Υ AA)(c:Str)(C:AB):Prop where
 mg:mg c=ξ (.ref C)
 named:a9n K c C
 exc:b43 K C=true
theorem c46{K:AE}{mg:Str->Υ AA}{h:Heap}{c:Str}{C:AB}(X:K.In h)(G:h.Ns mainGlobals mg)(e:PySem.W.nsIn K mainGlobals c=ξ (ξ (.ref C)))(q:(b3W K C c && b43 K C)=true):XC K mg c C:=by
 rw [χ] at q;obtain⟨q1,q3⟩:=q;refine⟨PySem.W.mg_of X G e,⟨e, ?_⟩,q3⟩;unfold b3W at q1;split at q1
 ·rename_i oc od cd sl hk;exact⟨oc,od,cd,sl,hk,beq_iff_eq.mp q1⟩
 ·cases q1
section
variable {X:Cx}
end
def inL(l:List Str)(c:Str):Bool:=l.contains c
section
variable {X:Cx}
def Hin(X:Cx)(B:AB)(l:List Str):Prop:=∀c,inL l c=true->∃C,X.mg c=ξ (.ref C)/\b3q X C B true/\a9n X.K c C
theorem c3K{B:AB}:Hin X B []:=λ_ h=>nomatch h
theorem c1o{B C:AB}{b c:Str}{l:List Str}(xB:XC X.K X.mg b B)(x:XC X.K X.mg c C)(e:b5f X.K C B=true)(h:Hin X B l):Hin X B (c::l):=λc1 q=>by
 unfold inL at q;rw [List.contains_cons,Bool.or_eq_true] at q;rcases q with q|q
 ·rw [beq_iff_eq.mp q];exact⟨C,x.mg,by rw [<-e];exact c0x x.exc xB.exc,x.named⟩
 ·exact h c1 q
theorem c3w{l:List Str}{body:List Stmt}{x:Str}{B:AB}{np hpos pos:Pos}{b₀:Stmt}{suite:List Stmt}{b:MX}{hd:MS}(xB:XC X.K X.mg x B)(hin:Hin X B l)
 (hb:∀(Y:AA->AC->Prop) (pn:List (AB×Obj)) (E:L2.St->XK),a4l (CX1 X.prog X.w) (X.aim Y pn) E->EXs (X.aim Y pn) E body b) (hs:∀a Y,ESs (X.caught a Y) (b₀::suite) hd)
 (hx0:X.ex=[]:=by rfl) (hst:X.stack=X.env::X.outer:=by rfl) (hfr:X.env.frame=ξ X.env.locals:=by rfl) (hg:Gl X x:=by rfl) (hdb:Δ x:=by decide):
 ES X (.Try body [.ExceptHandler (ξ (.Name x np)) ζ (b₀::suite) hpos] [] [] pos) (b9L b (inL l) hd):=
 c5t hx0 hst hfr hg xB.mg hdb (λc q=>let ⟨C,h1,h2,_⟩:=hin c q;⟨C,h1,h2⟩) hb hs
theorem a4C{E:L2.St->XK}{st:List Stmt}{m:MS}(h:ESs X.nox st m):EXs X E st (a6J m):=c5v (PSs.nox h)
theorem c01{E:L2.St->XK}{st:Stmt}{m:MS}(h:ES X.nox st m):EX X E st (a6J m):=c60 λpins s σ H D I hw=>
 wpAny_mono (h pins s σ H D (I.wish _) hw) (λfl s1 hq=>by
  cases fl with
  |next=>obtain⟨σ',H',J,q⟩:=hq;exact⟨σ',H',J.unwish,q⟩
  |brk=>obtain⟨σ',H',J,q⟩:=hq;exact⟨σ',H',J.unwish,q⟩
  |cont=>obtain⟨σ',H',J,q⟩:=hq;exact⟨σ',H',J.unwish,q⟩
  |ret u=>obtain⟨v,σ',H',J,r,q⟩:=hq;exact⟨v,σ',H',J.unwish,r,q⟩) λ_ _ z=>z.elim
end
end PU
set_option maxHeartbeats 2000000
namespace PU
open PySem PySem.Spec PyProof.Rows L2 PySem.W
section
variable {prog:AJ}{w:AH}{A:AM}{E:AA->AC->Prop}{s:AC}
end
section
variable {X:Cx}
def b74(a b:Str)(i:Int):Int:=match Builtin.Str.occurrences a b (fromIndex a.length i) a.length 1 with
 |k::_=>(k:Int)
 |[]=> -1
def b2N(x y z:d4):Υ d4:=match x,y,z with
 | .v (.str a),.v (.str b),.v (.int i)=>ξ (.v (.int (b74 a b i)))
 |_,_,_=>ζ
theorem c30:MtR X "str.find" (λx xs H Q=>∃F y z rx ry rz r,xs=[y,z]/\m5 F H/\U1 X.K F H x rx/\U1 X.K F H y ry/\U1 X.K F H z rz/\b2N rx ry rz=ξ r/\∀v F' H',B4 X.K F H F' H' v r->Q v H'):=by
 intro pins s σ H x xs v us Q I rx rv h;obtain⟨F,y,z,ra,rb,rc,r,rfl,s0,h1,h2,h3,h4,k⟩:=h;cases rv with
 |cons ru rv=>
  cases rv with
  |cons ru2 rv=>
   cases rv;unfold b2N at h4;split at h4
   ·rename_i a b i;cases h4;cases h1;cases h2;cases h3;obtain⟨t,rfl⟩:=rx;obtain⟨t2,rfl⟩:=ru;obtain⟨t3,rfl⟩:=ru2;exact call_gives PySem.F.slot_str_find (typeIs_str _ _ _) PySem.F.entry_str_find (PySem.F.args_str_find_3 _ _ _) (gives_str_find_from a b i t t2 t3) ⟨.int _,H,I.tok _,⟨_,rfl⟩,k _ F H (B4.here s0 rfl)⟩
   ·cases h4
theorem c3p{o e f:AF}{m n l:M}{apos cpos:Pos}(ho:EE X o m)(ha:EE X e n)(hb:EE X f l)
 (hbase:attributeBase o "find" X.env (eval o X.env)=eval o X.env:=by rfl)
 (hfew:((backTo cpos (AK [e,f] X.env)).all (λx=> !x.1)&&(backToKw cpos (keywordEach [] X.env)).all (λx=>x.1.isSome)
  && decide ([e,f].length+([]:List Keyword).length+(if([]:List Keyword).isEmpty then 0 else 1)<30))=true:=by rfl)
 (hline:(apos.endLine==cpos.line)=true:=by rfl) (hs:AK [e,f] X.env=(false,eval e X.env)::AK [f] X.env:=by rfl) (hs2:AK [f] X.env=(false,eval f X.env)::AK [] X.env:=by rfl) (hplain:(backTo cpos (AK [f] X.env)).any (·.1)=false:=by rfl):
 EE X (.Call (.Attribute o "find" apos) [e,f] [] cpos) (m3 b2N m n l):=
 B9 (b5W PySem.F.plainAttrs_str PySem.F.slot_str_find PySem.F.type_str_find c30 ho (J3 ha (J3 hb a0d hs2) hs) hbase hfew hline hs hplain) λσ H Q h0=>A1 h0 λF ρ r he hm k=>by
  ext g
  unfold b2N at hm;split at hm
  ·cases o1.rep;rfl
  ·cases hm
end
section
variable {P:AJ}{w:AH}{K:AE}{mg:Str->Υ AA}{base:Heap}
theorem b75{x:Str}{st:Stmt}{N ps:List Str}{k:Nat}{m:MX}(D:Df K mg x st)(S:i4 N ps (d6 st))
 (hi:∀(kV doc pm:AA) (an:Υ AB) (cdv ct:AA) (us:List AA),us.length=ps.length->bindArgs (PySem.W.fnOf x x (O3 st) (C3 st) (d6 st) .none kV doc pm an cdv ct) ⟨us,[]⟩=pure (ps.zip us))
 (hb:∀(f:AB) (cdv:AA) (A:AM) (outer:List Env) (s:AC) (H:Hp) (E:XK),W9 k (A.deeper (envOfC x (d6 st) s.heap.objs.size f cdv))->a4l (CX1 P w) (a5q (CX1 P w) P w K mg base N x (d6 st) f cdv A outer s H E) (λ_=>E)->EXs (a5q (CX1 P w) P w K mg base N x (d6 st) f cdv A outer s H E) (λ_=>E) (C3 st) m):
 b0C P w K mg base x ps (k+1) (c0a (N.length - ps.length) m):=
 let ⟨f,fd,F,hm⟩:=D
 ⟨f,fd,c5x F S λcdv A outer s H E hr=>hb f cdv A outer s H E hr λpins σ H s e s' I h=>b6Z pins σ H s e s' I h,hm,F.kp,F.binds hi⟩
end
theorem c7I{l:PySem.W.OpenLaw}{q:AJ}{loose:List Str}{XP:(Str->Υ AA)->Heap->Prop}{YP:AH->Heap->Prop}{d:DefRec}{K:Params->AE}{x:Str}{k:Nat}(hk:k<=200)(hn:l.most=ξ 63)(hdf:d.params.defaults=[])
 (hY:∀(w:AH) (h:Heap),YP w h->(K w.params).In h)
 (F:∀(w:AH) (mg:Str->Υ AA) (fa:AB) (h:Heap),(K w.params).In h->h.Ns mainGlobals mg->mg d.name=ξ (.ref fa)->
  ∃fd:FuncData,(∀(s:AC) (u:AA),BindsTo s fd ⟨[u],[]⟩ [(x,u)])/\∀base:Heap,(K w.params).In base->base.Ns mainGlobals mg->a1v l.prog w (K w.params) mg base CX0 k fa fd [x] (b57 (K w.params))):
 PySem.W.WalkO q loose XP YP l.row.toRowW d [] (λf vs=>PySem.call f vs):=
 L2.c4R (n:=63) (k:=200) (x:=x) (CX:=λ_=>CX0) (sp:=λw=>b57 (K w.params)) hn (by decide) hdf ⟨rfl,by decide,by decide⟩ hY (λw mg fa h a b c=>let ⟨fd,h1,h2⟩:=F w mg fa h a b c;⟨fd,h1,λbase x y=>(h2 base x y).mono hk⟩) (λ_ _ a ns hl _ hS=>⟨a,ns,rfl,hS,hl,λ_=>rfl⟩) λ_ _ _ _ _ z=>z
open PySem PySem.Spec PyProof.Rows L2
set_option maxHeartbeats 1000000
section
variable {X:Cx}
end
open PySem PySem.Spec PyProof.Rows L2
section
variable {prog:AJ}{w:AH}{A:AM}{E:AA->AC->Prop}{h:Heap}{g:Array GenState}{d:Drawn}{t:Nat}{os:OsState}
variable {nm q:Str}{C N:AB}{bs bm bmB:List AA}{hdct:Bool}{sn:List Str}{sub:List AA}{ab:Bool}{col:Υ Bool}{dd:Υ AB}{k0 k1 k2 k3 k5:Υ AA}{B newId initId:String}
end
section
variable {prog:AJ}{w:AH}{A:AM}{E:AA->AC->Prop}{s:AC}{env:Env}
variable {nm q:Str}{C N:AB}{bs bm bmB:List AA}{hdct:Bool}{sn:List Str}{sub:List AA}{ab:Bool}{col:Υ Bool}{dd:Υ AB}{k0 k1 k2 k3 k5:Υ AA}{B newId initId:String}
end
open PySem PySem.Spec PyProof.Rows L2 PySem.W Builtin Builtin.ObjectAttr
section
variable {prog:AJ}{w:AH}{A:AM}{E:AA->AC->Prop}{s:AC}{K:Frag}{x C:AB}
end
section
variable {X:Cx}{pins:List (AB×Obj)}{σ:L2.St}{H:Hp}{s:AC}{a C d:AB}
end
section
variable {X:Cx}
end
section
variable {X:Cx}{pins:List (AB×Obj)}{σ:L2.St}{H:Hp}{s:AC}
end
section
variable {X:Cx}{x:Str}{C:AB}{np cpos pos:Pos}{e₀:AF}{rest:List AF}{t:TA}{W:Υ AB->Hp->Prop}
end
section
variable {X:Cx}
end
section
variable {P:AJ}{w:AH}{K:Frag}{mg:Str->Υ AA}{base:Heap}
end
section
variable {K:AE}{mg:Str->Υ AA}{E:L2.St->XK}{F0 H0 F1:Hp}{body:MX}{tg:PV->c9->Υ c9}{g:TG}{ps:List PV}{fl:FX}{D:a2O}{k:Nat}{p:PV}{x:V}{σ σ0:L2.St}{H:Hp}
end
section
variable {X:Cx}{E:L2.St->XK}
end
end PU
namespace L2
open PySem PySem.Spec PyProof.Rows
end L2
namespace PU
open PySem PySem.Spec PyProof.Rows L2
open PySem.W (Looks InstAt looks_findIn looks_find looks_subIn looks_mroIn)
section
variable {prog:AJ}{w:AH}{A:AM}{E:AA->AC->Prop}{s:AC}{K:AE}{x D:AB}{ox:Obj}{od:Υ Obj}
end
section
variable {X:Cx}
end
end PU
namespace ZT
open PySem PySem.Spec PyProof.Rows L2 PU
section
variable {prog:AJ}{w:AH}{A:AM}{E:AA->AC->Prop}{s:AC}{z TI TO i1 i2:AB}{n1 n2 i:Nat}{P1 P2:Nat->AA->Prop}{St1 St2:Nat->Heap->Prop}{a b:AA}{l1 l2:AB}
end
section
variable {prog:AJ}{w:AH}{A:AM}{E:AA->AC->Prop}{s:AC}
end
section
variable {X:Cx}
end
end ZT
namespace PU
open PySem PySem.Spec PyProof.Rows L2
section
variable {X:Cx}
end
structure FnV(K:AE)(mg:Str->Υ AA)(x:Str)(f:AB):Prop where
 mg:mg x=ξ (.ref f)
 at_:b7F K x (.ref f)
 one:∀a,b7F K x (.ref a)->a=f
def b1u(K:AE)(x:Str)(f:AB):Bool:=K.all λp=>match p.2.data with
 | .func fd=> !(fd.name==x)||p.1==f
 |_=>true
theorem c1I{K:AE}{a:AB}{o:Obj}:K.lookup a=ξ o->(a,o)∈K:=by
 induction K with
 |nil=>intro h;cases h
 |cons p r ih=>
  intro h;obtain⟨b,u⟩:=p;rw [List.lookup_cons] at h;split at h
  ·rename_i z;cases h;rw [beq_iff_eq.mp z];exact Ak
  ·exact Al _ (ih h)
theorem b3G{K:AE}{mg:Str->Υ AA}{x:Str}{f:AB}{oc:AA}{od:Υ AB}{fd:FuncData}{sl:Array (Υ AA)}(hm:mg x=ξ (.ref f))(l:K.lookup f=ξ ⟨oc,od,.func fd,sl⟩)(hn:fd.name=x)(q:b1u K x f=true):FnV K mg x f:=by
 refine⟨hm,⟨f,oc,od,fd,sl,rfl,l,hn⟩,λa h=> ?_⟩;obtain⟨b,oc',od',fd',sl',e,l',hn'⟩:=h;cases e;have:=List.all_eq_true.mp q _ (c1I l');simp only [hn',beq_self_eq_true,Bool.not_true,Bool.false_or] at this;exact beq_iff_eq.mp this
abbrev A6(x:Str):PV:= .dict [(.str x,.none)]
section
variable {X:Cx}
theorem b2I{x:Str}{f:AB}{pos:Pos}(v:FnV X.K X.mg x f)(hg:Gl X x:=by rfl)(hd:Δ x:=by decide):EE X (.Name x pos) (mC (A6 x)):=
 a3L (v:= .ref f) (b8w hg v.mg rfl hd) λH=>Or.inr (Or.inr (Or.inl ⟨x,_,rfl,.inl ⟨rfl,v.at_⟩⟩))
def b7G(X:Cx)(n k':Nat)(tab:List (Str×(Λ))):Prop:=∀x g,tab.lookup x=ξ g->∃f fd ps k,a1v X.prog X.w X.K X.mg X.base CX0 k f fd ps (spP X.K ps.length g)/\k<=k'/\PySem.W.keepIn X.K (.ref f)=true/\a44 X.K fd ps []/\ps.length=n/\∀a,b7F X.K x (.ref a)->a=f
theorem a6m{n k':Nat}:b7G X n k' []:=λ_ _ h=>nomatch h
theorem a4D{n k k':Nat}{x:Str}{f:AB}{ps:List Str}{g:Λ}{t:List (Str×(Λ))}(d:g8 X.prog X.w X.K X.mg X.base x ps k g)(v:FnV X.K X.mg x f)(hk:k<=k')(hn:ps.length=n)(h:b7G X n k' t):b7G X n k' ((x,g)::t):=λy g' q=>by
 rw [List.lookup_cons] at q;split at q
 ·rename_i z;cases q;obtain⟨f',fd,G,h1,h2,h3⟩:=d;have e:=v.mg.symm.trans h1;cases e;refine⟨f,fd,ps,k,G,hk,h2,h3,hn, ?_⟩;rw [beq_iff_eq.mp z];exact v.one
 ·exact h y g' q
def a2z(tab:List (Str×(Λ)))(i:Nat)(m:MA):M:=λρ=>match ρ[i]? with
 |some (ξ (.v (.dict [(.str x,.none)])))=>(tab.lookup x).bind λg=>(m ρ).bind g
 |_=>ζ
theorem a7N(i:Nat){n k':Nat}{y:Str}{p pos:Pos}{tab:List (Str×(Λ))}{e:AF}{es:List AF}{m:MA}(T:b7G X n k' tab)(hr:W9 k' X.A)(hv:PE X (.Name y p) (a2P i))(hn:∀ρ qs,m ρ=ξ qs->qs.length=n)(ha:EA X (e::es) m)
 (he:Ψ e es X.env:=by rfl) (hpl:Φ₁ pos es X.env:=by rfl):
 EE X (.Call (.Name y p) (e::es) [] pos) (a2z tab i m):=by
 intro pins s σ H Q I ⟨F,ρ,r,env,hm,k⟩
 unfold a2z at hm
 split at hm
 ·rename_i x hρ
  cases hl:tab.lookup x with
  |none=>rw [hl] at hm;cases hm
  |some g=>
   rw [hl,AD] at hm
   obtain⟨f,fd,ps,kk,G,hk,h2,h3,h4,one⟩:=T x g hl
   obtain⟨v,hσ,hrep⟩:=env.at_ i _ hρ
   have hvf:v= .ref f:=by
    rcases hrep with⟨_,_,_,_,kk1,w1,t1,_,zz,_⟩|⟨_,_,_,_,kk1,w1,t1,_,zz,_⟩|⟨z,t,e,hz⟩|⟨_,_,_,ho,hf⟩
    ·cases zz
    ·cases zz
    ·cases e;rcases hz with⟨_,hz⟩|⟨e,_⟩
     ·obtain⟨a,_,_,_,_,ea,_⟩:=id hz;subst ea;rw [one a hz]
     ·cases e
    ·rcases(c33 ho hf).2.1 with e|e<;>cases e
   subst hvf
   refine wpAny_Call_Name_kw (R1 (hv pins s σ H (λv H1=>v= .ref f/\H1=H) I ⟨.ref f,hσ,rfl,rfl⟩) λu s1 h0=>a6k h0 λv H1 I1 rv hv1 hH=> ?_)
   subst hv1 hH
   cases(show u=Value.ref f from rv)
   obtain⟨qs,e1,e2⟩:=bind_some hm
   refine PySem.W.callWith_K (h₀:=X.base) I1.ok.mod.kin h2 (R1 (ha pos pins s1 σ H1 (λvs H2=>∃F2,Ext F H1 F2 H2/\o0 X.K F2 qs vs) I1 ⟨F,ρ,qs,env,e1,λvs F2 H2 x rl=>⟨F2,x,rl⟩⟩) λus s2 ⟨vs,H2,I2,rr,F2,x2,rl⟩=>⟨I2.kIn, ?_⟩) he hpl
   refine c2p (dvs:=[]) (ds:=[]) (sp:=spP X.K ps.length g) (E:=E0) G (hr.mono hk) h3 .nil b5V I2 rr ?_
   show spP X.K ps.length g (vs++[]) H2 Q E0
   rw [Af]
   exact⟨F2,qs,r,x2.fh,rl,(hn _ _ e1).trans h4.symm,e2,λv F3 H3 o=>k v F3 H3 (B4.trans x2 o)⟩
 ·cases hm
structure b8Z(Φ:L2.St->Hp->Prop)(I:List Nat):Prop where
 grow:∀σ H H',Φ σ H->m5 H H'->Φ σ H'
 set:∀i∈I,∀σ H v,Φ σ H->Φ (σ.set i v) H
def c27(Φ:L2.St->Hp->Prop)(K:AE)(F0 H0 F:Hp)(D:a2O):Fl->Prop
 | .nx ρ=>∀σ' F' H',m5 F F'->SOk K F0 H0 F' H' σ' ρ->Φ σ' H'->D.nx σ' H'
 | .rt r=>∀v F' H',B4 K F0 H0 F' H' v r->D.rt v H'
 | .bk ρ=>∀σ' F' H',m5 F F'->SOk K F0 H0 F' H' σ' ρ->Φ σ' H'->D.bk σ' H'
 | .ct ρ=>∀σ' F' H',m5 F F'->SOk K F0 H0 F' H' σ' ρ->Φ σ' H'->D.ct σ' H'
theorem c27.later{Φ:L2.St->Hp->Prop}{K:AE}{F0 H0 F F1:Hp}{D:a2O}(s:m5 F F1):∀{fl:Fl},c27 Φ K F0 H0 F D fl->c27 Φ K F0 H0 F1 D fl
 | .nx _,h=>λσ' F' H' s' so=>h σ' F' H' (s.trans s') so
 | .rt _,h=>h
 | .bk _,h=>λσ' F' H' s' so=>h σ' F' H' (s.trans s') so
 | .ct _,h=>λσ' F' H' s' so=>h σ' F' H' (s.trans s') so
def tMP(K:AE)(Φ:L2.St->Hp->Prop)(m:MS):TS:=λD σ H=>∃F0 H0 F ρ fl,Φ σ H/\SOk K F0 H0 F H σ ρ/\m ρ=ξ fl/\c27 Φ K F0 H0 F D fl
abbrev ESP(X:Cx)(Φ:L2.St->Hp->Prop)(st:Stmt)(m:MS):Prop:=PS X st (tMP X.K Φ m)
abbrev c25(X:Cx)(Φ:L2.St->Hp->Prop)(st:List Stmt)(m:MS):Prop:=PSs X st (tMP X.K Φ m)
variable {Φ:L2.St->Hp->Prop}{I:List Nat}
theorem a7O:c25 X Φ [] n4:=a0L b4j λD σ H ⟨F0,H0,F,ρ,fl,φ,so,e,fin⟩=>by
 cases e;exact fin σ F H (PU.m5.refl F) so φ
theorem a7P{st:Stmt}{m:MS}(h1:ESP X Φ st m):c25 X Φ [st] m:=a6u h1
theorem a7Q{e:AF}{m:M}{pos:Pos}(he:EE X e m):ESP X Φ (.Return (ξ e) pos) (t6 m):=
 G9 (b7p he) λD σ H ⟨F0,H0,F,ρ,fl,φ,so,e,fin⟩=>by
  ext aa
  ·rename_i c;cases e;exact⟨F,ρ,r,so.e,e1,λv F' H' o=>fin v F' H' (B4.trans so.x o)⟩
  ·cases e
theorem b0U(hS:b8Z Φ I){c:AF}{a b:List Stmt}{mc:MT}{m n:MS}{pos:Pos}(hc:ET X c mc)(ha:c25 X Φ a m)(hb:c25 X Φ b n):ESP X Φ (.If c a b pos) (v5 mc m n):=
 G9 (b8y hc ha hb) λD σ H ⟨F0,H0,F,ρ,fl,φ,so,e,fin⟩=>by
  obtain⟨b,e1,e⟩:=bind_some e;refine⟨F,ρ,b,so.e,e1,λF1 H1 x=> ?_⟩;cases b with
  |true=>exact b19 ⟨F0,H0,F1,ρ,fl,hS.grow _ _ _ φ x.h,so.ext x,e,fin.later x.f⟩
  |false=>exact b18 ⟨F0,H0,F1,ρ,fl,hS.grow _ _ _ φ x.h,so.ext x,e,fin.later x.f⟩
end
mutual
def a3m:PV->Bool
 | .none=>true
 | .bool _=>true
 | .int _=>true
 | .str _=>true
 | .tuple ps=>a9K ps
 |_=>false
def a9K:List PV->Bool
 |[]=>true
 |p::ps=>a3m p && a9K ps
end
mutual
theorem b1D{K:AE}{F G:Hp}(h:∀c ys,F c=ξ (.tup ys)->G c=ξ (.tup ys)):∀(p:PV) {v:V},a3m p=true->J7 K F p v->J7 K G p v
 | .none,_,_,r=>r
 | .bool _,_,_,r=>r
 | .int _,_,_,r=>r
 | .str _,_,_,r=>r
 | .tuple ps,_,f,⟨a,xs,e,q,r⟩=>⟨a,xs,e,q.elim (λz=> .inl (h _ _ z)) .inr,b3g h ps (by simpa [a3m] using f) r⟩
 | .list _,_,f,_=>by simp [a3m] at f
 | .dict _,_,f,_=>by simp [a3m] at f
theorem b3g{K:AE}{F G:Hp}(h:∀c ys,F c=ξ (.tup ys)->G c=ξ (.tup ys)):∀(ps:List PV) {vs:List V},a9K ps=true->o0 K F ps vs->o0 K G ps vs
 |[],_,_,r=>r
 |p::ps,_,f,⟨v,t,e,q,r⟩=>by
  have f:a3m p=true/\a9K ps=true:=by simpa [a9K] using f
  exact⟨v,t,e,b1D h p f.1 q,b3g h ps f.2 r⟩
end
def keep(A:List Nat)(ρ:c9):c9:=ρ.zipIdx.map λp=>if p.2∈A then p.1 else ζ
theorem c1B(A:List Nat)(ρ:c9):(keep A ρ).length=ρ.length:=by unfold keep;simp
theorem c3O{A:List Nat}{ρ:c9}{j:Nat}{r:d4}(h:(keep A ρ)[j]?=ξ (ξ r)):j∈A/\ρ[j]?=ξ (ξ r):=by
 unfold keep at h;rw [Az,List.getElem?_zipIdx] at h;cases e:ρ[j]? with
 |none=>rw [e] at h;simp at h
 |some q=>
  rw [e] at h;simp only [Ar,Nat.zero_add,Option.some.injEq] at h;split at h
  ·rename_i hj;exact⟨hj,by rw [h]⟩
  ·cases h
def b9R(K:AE):Bool:=K.all λp=>match p.2.cls with
 | .type x=> !(x=="list")
 |_=>true
theorem b5E{K:AE}(nk:b9R K=true){a:AB}{o:Obj}(e:K.lookup a=ξ o)(hc:o.cls= .type "list"):False:=by
 obtain⟨b,hb⟩:=b1f e;have h:=List.all_eq_true.mp nk _ hb;simp only [hc] at h;simp at h
theorem b4g{K:AE}{F H:Hp}{v:V}:∀{c:a2c},a00 K F H v c->∃a o,v= .ref a/\F a=ζ/\H a=ξ o/\NT o
 | .lst _,⟨a,_,e,n,q,_⟩=>⟨a,_,e,n,q,λ_ h=>nomatch h⟩
 | .dct _,⟨a,_,e,n,q,_⟩=>⟨a,_,e,n,q,λ_ h=>nomatch h⟩
 | .txt _,⟨a,_,e,n,q,_⟩=>⟨a,_,e,n,q,λ_ h=>nomatch h⟩
theorem b4l{K:AE}{F H F' H':Hp}{a:AB}:∀{c:a2c},a00 K F H (.ref a) c->m5 F F'->F' a=ζ->(∀o,H a=ξ o->H' a=ξ o)->a00 K F' H' (.ref a) c
 | .lst _,⟨a',xs,e,n,q,r⟩,s,f,h=>by cases e;exact⟨_,xs,rfl,f,h _ q,o0.mono s _ r⟩
 | .dct _,⟨a',xs,e,n,q,r⟩,s,f,h=>by cases e;exact⟨_,xs,rfl,f,h _ q,E3.mono s _ r⟩
 | .txt _,⟨a',xs,e,n,q,r⟩,s,f,h=>by cases e;exact⟨_,xs,rfl,f,h _ q,E3.mono s _ r⟩
theorem c2u{ρ:c9}{i j:Nat}{r:Υ d4}{q:d4}(h:(ρ.set i r)[j]?=ξ (ξ q)):(j=i/\r=ξ q)\/(j≠i/\ρ[j]?=ξ (ξ q)):=by
 rw [List.getElem?_set] at h;split at h
 ·rename_i z;split at h
  ·exact .inl ⟨z.symm,Option.some.inj h⟩
  ·cases h
 ·rename_i z;exact .inr ⟨λy=>z y.symm,h⟩
section
variable {X:Cx}
end
section
variable {X:Cx}{tg:AF}
end
theorem b2n(l:AB)(items:Array AA)(n:Nat)(dd:Υ AB)(sl:Array (Υ AA))(u:Tok):
 Meets (Builtin.«tuple.__mul__» ⟨[.ref l,.int 1 u],[]⟩) (λ_ R s=>s.heap.get? l=ξ {cls:= .type "tuple",dict:=dd,data:= .seq items n,slots:=sl}/\R (.ok (.ret (.ref l))) s):=
 .of_wp λprog w A R s h=>by
  obtain⟨hp,g,d,tk,os⟩:=s;obtain⟨hl,h⟩:=h
  wp_walk
  exact⟨_,rfl,h⟩
def a7X:d4->d4->Υ d4
 | .v (.tuple ps),.v (.int 1)=>ξ (.v (.tuple ps))
 |x,y=>Q4 x y
section
variable {X:Cx}
theorem a8h:OpM X (binaryOp .Mult) a7X:=by
 ext u
 obtain⟨F1,ra,rb,rz,s0,h1,h2,h3,k⟩:=h;unfold a7X at h3;split at h3
 ·rename_i ps;cases h3;cases h2;have h1':J7 X.K F1 (.tuple ps) x:=h1;obtain⟨a,xs,rfl,hq,rl⟩:=h1;cases rx;obtain⟨t,rfl⟩:=ry;obtain⟨its,r,ht,_⟩:=I.tuple (A7 s0 hq.sq);obtain⟨⟨cls,dd,data,sl⟩,ho,hc',m,hd⟩:=id ht;simp only at hc' hd;subst hc' hd;exact wpAny_binaryOp_repeat_ref (T:="tuple") (U:="int") (by decide) ht.typeIs (λs'=>typeIs_int s' 1 t) a32 F.fills_int_mul F.slot_int_rmul a8r F.slot_int_index.lookup
   (call_meets F.slot_int_rmul (typeIs_int s 1 t) F.entry_int_rmul (F.args_int_rmul_2 _ _) (a5E 1 t a its.toArray m dd sl)
    ⟨ho,rfl,ht.typeIs,call_meets PySem.F.slot_tuple_mul ht.typeIs PySem.F.entry_tuple_mul (PySem.F.args_tuple_mul_2 _ _) (b2n a its.toArray m dd sl t) ⟨ho,.ref a,H,I,rfl,k _ F1 H (B4.here s0 h1')⟩⟩)
 ·exact G8 pins s σ H x y v u Q I rx ry ⟨F1,_,_,rz,s0,h1,h2,h3,k⟩
end
open PySem PySem.Spec PyProof.Rows L2 PySem.W
def c0i(K:AE)(y x:Str)(st:Stmt):Prop:=∃f fd,PySem.W.nsIn K mainGlobals y=ξ (ξ (.ref f))/\Fun K x x st f fd
def DfA(K:AE)(mg:Str->Υ AA)(y x:Str)(st:Stmt):Prop:=∃f fd,Fun K x x st f fd/\mg y=ξ (.ref f)
theorem c5n{K:AE}{y x:Str}{st:Stmt}{f:AB}{oc:AA}{od an:Υ AB}{osl:Array (Υ AA)}{kV doc pm cdv ct:AA}(a:PySem.W.nsIn K mainGlobals y=ξ (ξ (.ref f)))
 (l:K.lookup f=ξ ⟨oc,od,.func (PySem.W.fnOf x x (O3 st) (C3 st) (d6 st) .none kV doc pm an cdv ct),osl⟩) (c:PySem.W.codeIn K cdv x=true) (k:PySem.W.keepIn K (.ref f)=true):c0i K y x st:=⟨_,_,a,c1b l c k⟩
theorem c0i.to{K:AE}{h:Heap}{mg:Str->Υ AA}{y x:Str}{st:Stmt}(d:c0i K y x st)(X:K.In h)(G:h.Ns mainGlobals mg):DfA K mg y x st:=by obtain⟨f,fd,a,F⟩:=d;exact⟨f,fd,F,PySem.W.mg_of X G a⟩
theorem b0n{P:AJ}{w:AH}{K:AE}{mg:Str->Υ AA}{base:Heap}{y x:Str}{st:Stmt}{N ps:List Str}{k:Nat}{m:MS}(D:DfA K mg y x st)(S:i4 N ps (d6 st))
 (hi:∀(kV doc pm:AA) (an:Υ AB) (cdv ct:AA) (us:List AA),us.length=ps.length->bindArgs (PySem.W.fnOf x x (O3 st) (C3 st) (d6 st) .none kV doc pm an cdv ct) ⟨us,[]⟩=pure (ps.zip us))
 (hb:∀(f:AB) (cdv:AA) (A:AM) (outer:List Env) (s:AC) (H:Hp) (E:XK),W9 k (A.deeper (envOfC x (d6 st) s.heap.objs.size f cdv))->ESs (a5q CX0 P w K mg base N x (d6 st) f cdv A outer s H E).nox (C3 st) m):
 g8 P w K mg base y ps (k+1) (k4 (N.length - ps.length) m):=
 let ⟨f,fd,F,hm⟩:=D
 ⟨f,fd,c04 F S (hb f),hm,F.kp,F.binds hi⟩
theorem b2d:typeLookup (.type "tuple") (dunderI "add")=pure ζ:=by rw [typeLookup_type,builtinLookup_eq_fast];kernel_rfl
theorem c1q{prog:AJ}{w:AH}{A:AM}{E:AA->AC->Prop}{s:AC}{t b:AB}{vs ws:List AA}{Q:AA->AC->Prop}(ht:IsTup s.heap t vs.toArray)(hb:IsTup s.heap b ws.toArray)
 (h0:vs=[]->Q (.ref b) s) (h1:vs≠[]->ws=[]->Q (.ref t) s) (h2:vs≠[]->ws≠[]->Q (.ref s.heap.objs.size) {s with heap:=s.heap.push {cls:= .type "tuple",data:= .seq (vs++ws).toArray}})
 (hsz:vs.length+ws.length<=AL):AI (model prog w) A (inplaceOp .Add (.ref t) (.ref b)) Q E s:=by
 obtain⟨⟨cls,dd,data,sl⟩,ho,hc,n,hd⟩:=id ht
 obtain⟨⟨cls2,dd2,data2,sl2⟩,ho2,hc2,n2,hd2⟩:=id hb
 simp only at hc hd hc2 hd2
 subst hc hd hc2 hd2
 refine wpAny_inplaceOp_concat (T:="tuple") ⟨_,ho,rfl⟩ ⟨_,ho2,rfl⟩ b2d noFill_tuple_add seq_tuple_add ?_
 by_cases hv:vs=[]
 ·exact call_meets PySem.F.slot_tuple_add ⟨_,ho,rfl⟩ PySem.F.entry_tuple_add (PySem.F.args_tuple_add_2 _ _) (tuple_addW0 t b vs.toArray ws.toArray n n2 dd dd2 sl sl2 (by simp [hv])) ⟨ho,ho2,h0 hv⟩
 ·by_cases hw:ws=[]
  ·exact call_meets PySem.F.slot_tuple_add ⟨_,ho,rfl⟩ PySem.F.entry_tuple_add (PySem.F.args_tuple_add_2 _ _) (tuple_addW1 t b vs.toArray ws.toArray n n2 dd dd2 sl sl2 (by simpa using hv) (by simp [hw])) ⟨ho,ho2,h1 hv hw⟩
  ·refine call_meets PySem.F.slot_tuple_add ⟨_,ho,rfl⟩ PySem.F.entry_tuple_add (PySem.F.args_tuple_add_2 _ _) (tuple_addW2 t b vs.toArray ws.toArray n n2 dd dd2 sl sl2 (by simpa using hv) (by simpa using hw) (by rw [Aj,Aj];exact hsz)) ⟨ho,ho2, ?_⟩
   rw [show vs.toArray++ws.toArray=(vs++ws).toArray by simp]
   exact h2 hv hw
def b0Z(x y:d4):Υ d4:=match x,y with
 | .v (.tuple ps),.v (.tuple qs)=>if ps.length+qs.length<=AL then ξ (.v (.tuple (ps++qs))) else ζ
 |_,_=>ζ
section
variable {X:Cx}
theorem b26:OpM X (inplaceOp .Add) b0Z:=by
 ext b
 unfold b0Z at h3;split at h3
 ·rename_i ps qs;split at h3
  ·rename_i c;cases h3;obtain⟨a,xs,rfl,hq,r⟩:=id h1;obtain⟨b,ys,rfl,hq',r'⟩:=id h2;cases rx;cases ry;obtain⟨its,r1,p1,_⟩:=I.tuple (A7 s0 hq.sq);obtain⟨its2,r2,p2,_⟩:=I.tuple (A7 s0 hq'.sq);have hz:xs.length+ys.length<=AL:=by rw [r.length,r'.length];exact c
   refine c1q p1 p2 (λz=> ?_) (λ_ z=> ?_) (λz z2=> ?_) (by rw [<-r1.length,<-r2.length];exact hz)
   ·have e:xs=[]:=r1.nil_iff.mp z;have e2:ps=[]:=List.length_eq_zero_iff.mp (by rw [<-r.length,e];rfl)
    refine⟨.ref b,H,I,rfl,k _ F H (B4.here s0 ?_)⟩;subst e2;exact h2
   ·have e:ys=[]:=r2.nil_iff.mp z;have e2:qs=[]:=List.length_eq_zero_iff.mp (by rw [<-r'.length,e];rfl)
    refine⟨.ref a,H,I,rfl,k _ F H (B4.here s0 ?_)⟩;subst e2;rw [Af];exact h1
   ·refine⟨.ref s.heap.objs.size,_,I.laid (t':=s.toks) (o:= .tup (xs++ys)) (λb ob q=>Am _ q) (AN _) ?_,rfl,k _ _ _ (B4.tup s0 (I.hok.fresh (AN _)) (r.append r'))⟩;exact⟨by rw [AW];exact hz,_,r1.append r2,IsTup.new _ _⟩
  ·cases h3
 ·cases h3
abbrev b17(is:List Int):List Int:=PyProof.Rows.firstMet (λi=>is.getD i 0) is.length
abbrev c0n(P:AJ)(w:AH)(h:Heap)(p:AB)(is:List Int):Prop:=h.SetOf (intKind P w) p (λk'=>(b17 is).any (· ==k')) (b17 is).length
theorem b6i:∀{is:List Int} {its:List AA},v7 (is.map V.int) its->PyProof.Rows.IntsAre its is
 |[],_,.nil=> .nil
 |z::zs,_,.cons r t=>by obtain⟨u,rfl⟩:=r;exact .cons z u (b6i t)
def c7r(X:Cx):List V->Hp->VK->Prop:=λxs H Q=>∃(a:AB) (is:List Int),xs=[.ref a]/\H a=ξ (.lst (is.map V.int))/\is.length+1<4096/\∀p,H p=ζ->Q (.ref p) (upd H p (.ext λh=>c0n X.prog X.w h p is))
theorem b87(hc:X.calm=true):T4 X (.type "set") (c7r X):=by
 intro pins s σ H xs us Q I rv h;obtain⟨a,is,rfl,ha,hz,q⟩:=h;obtain⟨u,rfl,ru⟩:=a5f rv;cases ru;obtain⟨_,its,n,vv,e⟩:=(show Q1 X.prog X.w H s.heap a (.lst (is.map V.int)) from I.hok a _ ha);have hsz:its.toArray.size=is.length:=by rw [Aj,<-vv.length,AZ]
 refine PySem.call_set_list (l:=a) (items:=its.toArray) (ns:=is) (I.ok.hd hc) ⟨_,e,rfl,n,rfl⟩ (b6i vv) (by rw [hsz];unfold scanBound;exact hz) λh' tk hS hk=> ?_
 rw [hsz] at hS;refine⟨.ref s.heap.objs.size,_,I.laid (a:=s.heap.objs.size) (t':=tk) (o:= .ext λh=>c0n X.prog X.w h s.heap.objs.size is) (λb o e=>hk b o (Ag e) e) (AN _) ⟨hS, ?_, ?_⟩,rfl,q _ (I.hok.fresh (AN _))⟩
 ·obtain⟨o,_,_,_,ho,_⟩:=hS;exact⟨o,ho⟩
 ·intro h1 h2 p k;obtain⟨o,es,ep,t,ho,r⟩:=p;exact⟨o,es,ep,t,k _ ho,r⟩
def c7q(X:Cx):List V->Hp->VK->Prop:=λxs H Q=>∃p is,xs=[.ref p]/\H p=ξ (.ext λh=>c0n X.prog X.w h p is)/\Q (.int (b17 is).length) H
theorem b85:T4 X (.builtin "len") (c7q X):=by
 intro pins s σ H xs us Q I rv h;obtain⟨p,is,rfl,hp,q⟩:=h;obtain⟨u,rfl,ru⟩:=a5f rv;cases ru;obtain⟨hS,_,_⟩:=(show Q1 X.prog X.w H s.heap p (.ext λh=>c0n X.prog X.w h p is) from I.hok p _ hp);obtain⟨o,es,ep,t,ho,hex,hd,_,_,hb,hf,hn⟩:=hS;have hb':es.size<4096:=hb;refine call_len_set ho hex hd hf (by lia) ⟨.int es.size,H,I.tok _,⟨_,rfl⟩, ?_⟩
 rw [hn];exact q
def a7W(x:d4):Υ d4:=match x with
 | .ow (.lst ps)=>(a5F ps).bind λis=>if is.length+1<4096 then ξ (.v (.int (b17 is).length)) else ζ
 |_=>ζ
theorem b6H{e:AF}{m:M}{p p2 pos pos2:Pos}(hc:X.calm=true)(hg:Gl X "len")(hm:X.mg "len"=ζ)(hg2:Gl X "set")(hm2:X.mg "set"=ζ)(ha:EE X e m)
 (hv:bootBuiltins "len"=ξ (.builtin "len"):=by rfl) (hv2:bootBuiltins "set"=ξ (.type "set"):=by rfl)
 (hs:AK [e] X.env=(false,eval e X.env)::AK [] X.env:=by rfl) (hpl:(backTo pos2 (AK [] X.env)).any (·.1)=false:=by rfl)
 (hs2:AK [.Call (.Name "set" p2) [e] [] pos2] X.env=(false,eval (.Call (.Name "set" p2) [e] [] pos2) X.env)::AK [] X.env:=by rfl) (hpl2:(backTo pos (AK [] X.env)).any (·.1)=false:=by rfl):
 EE X (.Call (.Name "len" p) [.Call (.Name "set" p2) [e] [] pos2] [] pos) (m1 a7W m):=
 B9 (a8j b85 hg hm hv (J3 (b3a (b87 hc) hg2 hm2 hv2 (J3 ha a0d hs) (by decide) (by decide) hs hpl) a0d hs2) (by decide) (by decide) hs2 hpl2) λσ H Q h0=>A1 h0 λF ρ r en em k=>by
  obtain⟨rx,e1,e2⟩:=bind_some em;refine⟨F,ρ,rx,en,e1,λv F1 H1 o1=> ?_⟩;unfold a7W at e2;split at e2
  ·rename_i ps;obtain⟨is,e3,e2⟩:=bind_some e2;split at e2
   ·rename_i c;cases e2;obtain⟨a,xs,rfl,fa,ha',rl⟩:=o1.rep;have ex:=b04 e3 rl;subst ex;refine⟨a,is,rfl,ha',c,λp hp=> ?_⟩;refine⟨p,is,rfl,n6, ?_⟩;have x1:Ext F1 H1 F1 (upd H1 p (.ext λh=>c0n X.prog X.w h p is)):=Ext.layH o1.x.fh hp;exact k _ F1 _ (B4.trans o1.x (B4.val x1 rfl))
   ·cases e2
  ·cases e2
end
def a8N(F:Hp):Hp:=λc=>match F c with
 |some (.tup ys)=>ξ (.tup ys)
 |_=>ζ
theorem c1a{F:Hp}:∀c ys,F c=ξ (.tup ys)->a8N F c=ξ (.tup ys):=λc ys e=>by unfold a8N;rw [e]
theorem b0Y{F:Hp}{c:AB}{o:HO}(e:a8N F c=ξ o):F c=ξ o/\∃ys,o= .tup ys:=by
 unfold a8N at e;split at e
 ·rename_i ys z;cases e;exact⟨z,ys,rfl⟩
 ·cases e
theorem b9s{F:Hp}{c:AB}(f:F c=ζ):a8N F c=ζ:=by unfold a8N;rw [f]
theorem c09{F:Hp}{c:AB}{xs:List V}(H:Hp)(s:m5 F H)(h:H c=ξ (.lst xs)):a8N F c=ζ:=by
 cases e:a8N F c with
 |none=>rfl
 |some o=>
  obtain⟨e1,ys,rfl⟩:=b0Y e;rw [s _ _ e1] at h;cases h
def c03(A:List Nat)(ρ:c9):Bool:=A.all λj=>match ρ[j]? with
 |some (ξ (.v p))=>a3m p
 |_=>false
theorem b9m{K:AE}{F H H':Hp}{σ σ':L2.St}{ρ:c9}{A:List Nat}(en:M6 K F H σ ρ)(fa:c03 A ρ=true)(hs:m5 (a8N F) H')(hl:σ'.length=σ.length)(hσ:∀j∈A,σ'[j]?=σ[j]?):M6 K (a8N F) H' σ' (keep A ρ):=by
 have at_:∀(j:Nat) (q:d4),(keep A ρ)[j]?=ξ (ξ q)->∃p v,q= .v p/\σ'[j]?=ξ (ξ v)/\J7 K (a8N F) p v:=λj q z=>by
  obtain⟨z1,z2⟩:=c3O z;have f1:=List.all_eq_true.mp fa j z1;rw [z2] at f1;cases q with
  |v p=>
   obtain⟨v,v1,v2⟩:=en.at_ j _ z2;exact⟨p,v,rfl,by rw [hσ j z1];exact v1,b1D c1a p f1 v2⟩
  |ow c=>cases f1
  |bo c=>cases f1
 refine⟨hs,by rw [c1B,hl];exact en.len,λj q z=> ?_,λj c z=> ?_,λj k c d a _ z=> ?_⟩
 ·obtain⟨p,v,rfl,h1,h2⟩:=at_ j q z;exact⟨v,h1,h2⟩
 ·obtain⟨p,v,e,_⟩:=at_ j _ z;cases e
 ·obtain⟨p,v,e,_⟩:=at_ j _ z;cases e
section
variable {X:Cx}
end
section
open PySem.AutoSeq1 (wpAny_loadPart')
open PySem.MeetsSeq3 (plain_eq_loop entry_eq_loop)
variable {A:AM}{s:AC}
end
section
variable {X:Cx}{pins:List (AB×Obj)}{σ:L2.St}{H:Hp}{s:AC}
end
section
variable {X:Cx}
end
section
variable {K:AE}{H J J':Hp}{ah a0 a3 b1 b2 b3 c:AB}{z0 z3 y1 y2 y3:List V}{n:Nat}
end
section
variable {X:Cx}
theorem c3x(i:Nat){st:List Stmt}{n:MS}(h:ESs X st n):ESs X st (a0b i n):=a0L h λD σ H h0=>L8 h0 λF0 H0 F ρ fl so e fin=>by
 unfold a0b at e;split at e
 ·rename_i ps eo;obtain⟨F',s,so'⟩:=so.frz eo;exact⟨F0,H0,F',_,fl,so',e,fin.later s⟩
 ·exact⟨F0,H0,F,ρ,fl,so,e,fin⟩
end
section
variable {X:Cx}{tg:AF}
def c7S(K:AE)(tl:TE):TI:=λσ H R=>tl σ H λx H1=>(∃a xs,x= .ref a/\SqT K H1 a xs/\R (Itt K a) H1)\/∃z,x= .str z/\R (Its z) H1
theorem c6k{l:AF}{tl:TE}(hl:PE X l tl):PI X tg l (c7S X.K tl):=by
 ext ab
 have fin:∀(J:It) (st:Nat->Heap->Prop) (o:Obj),b6t X.prog X.w X.K tg J [s1.heap.objs.size] s1.heap.objs.size st->st 0 (s1.heap.push o)->R J H1->PIE X pins σ tg R (.ref s1.heap.objs.size) {s1 with heap:=s1.heap.push o}:=λJ st o T h0 q=>by
  refine⟨s1.heap.objs.size,[s1.heap.objs.size],st,_,H1,rfl,I1.kept (t':=s1.toks) λb o e=>Am _ e,T,h0,λb hb=> ?_,q⟩;have e:b=s1.heap.objs.size:=by simpa using hb
  subst e;exact I1.fpOk (AN _) (I1.hok.fresh (AN _))
 rcases q1 with⟨a,xs,rfl,hq,q⟩|⟨z,rfl,q⟩
 ·cases r1;obtain⟨its,rv,p,hz⟩:=I1.tuple hq;exact wpAny_pyIter_tuple (show s1.heap.IsTuple a its.toArray from p) (fin _ _ _ (b1W a _) ⟨_,At _ rfl,rfl,rfl⟩ q)
 ·obtain⟨t,rfl⟩:=r1;cases ha:z.cps.all (· <128)
  ·exact wpAny_pyIter_wide ha (fin _ _ _ (b1V false _ z t) ⟨_,At _ rfl,rfl,rfl⟩ q)
  ·exact wpAny_pyIter_ascii ha (fin _ _ _ (b1V true _ z t) ⟨_,At _ rfl,rfl,rfl⟩ q)
def c1P(m:M):MI:=λρ=>(m ρ).bind λr=>match r with
 | .v (.str z)=>ξ (z.cps.toList.map λc=> .str ⟨#[c]⟩)
 | .v (.tuple ps)=>ξ ps
 |_=>ζ
theorem c3q{l:AF}{m:M}(h:EE X l m):EIF X tg l (c1P m):=⟨_,c6k h,λF H σ ρ ps R en e k=>by
 obtain⟨r,e1,e2⟩:=bind_some e;refine⟨F,ρ,r,en,e1,λv F1 H1 o1=> ?_⟩;split at e2
 ·rename_i z;cases e2;cases o1.rep;refine .inr ⟨z,rfl,k F1 H1 _ o1.x ⟨λi H2 s h=> ?_,λi p H2 s h=> ?_,λi p x H2 H3 s h y=> ?_⟩⟩
  ·have h:z.cps.size<=i:=by simpa using h
   exact h
  ·have:=(Av.mp h).1;have h:i<z.cps.size:=by simpa using this
   exact h
  ·obtain⟨e,c,hc,rfl⟩:=y;refine⟨e, ?_⟩;rw [Az,Array.getElem?_toList,hc] at h;cases h
   rfl
 ·rename_i qs;cases e2;obtain⟨a,xs,rfl,hq,rl⟩:=o1.rep;have hq:SqT X.K F1 a xs:=hq.sq;have hlen:=rl.length;refine .inl ⟨a,xs,rfl,A7 o1.x.fh hq,k F1 H1 _ o1.x ⟨λi H2 s h=>⟨xs,A7 s hq,by lia⟩,λi p H2 s h=> ?_,λi p x H2 H3 s h y=> ?_⟩⟩
  ·obtain⟨v,ev,_⟩:=rl.get h;exact⟨xs,v,A7 s hq,ev⟩
  ·obtain⟨v,ev,rv⟩:=rl.get h;obtain⟨e,y⟩:=y;have:=y xs (A7 s hq);rw [ev] at this;cases this;exact⟨e,rv⟩
 ·cases e2⟩
theorem b5v(m:M)(ρ:c9):c1P m ρ=(m ρ).bind λr=>match r with
 | .v (.str z)=>ξ (z.cps.toList.map λc=> .str ⟨#[c]⟩)
 | .v (.tuple ps)=>ξ ps
 |_=>ζ:=rfl
end
def c1Z(s:Str):Bool:=Nat.blt 0 s.cps.size && s.cps.toList.all λc=>c==97||c==98||c==99||c==120||c==122
def c6y:m7->Bool
 | .inr s=>c1Z s
 |_=>false
def c6D:AA->Bool
 | .str s _=>c1Z s
 |_=>false
def b07(k:List m7):Bool:=((k.length==2||k.length==3)&& k.any Sum.isLeft)||(Nat.blt 0 k.length && k.all c6y)
def b3m(o:Obj):Bool:=match o with
 |⟨.type "tuple",_,.seq its _,_⟩=>((its.size==2||its.size==3)&& its.toList.any c1t)||(Nat.blt 0 its.size && its.toList.all c6D)
 |_=>false
def a8a(K:AE):Bool:=K.all λp=> !b3m p.2
theorem b4L:∀{k:List m7} {us:List AA},v7 (k.map kV) us->k.all c6y=true->us.all c6D=true
 |[],_,r,_=>by
  rw [AR] at r;cases r;rfl
 |k::ks,_,r,h=>by
  rw [AG] at r;cases r with
  |cons r1 r2=>
   rw [List.all_cons,χ] at h ⊢;refine⟨?_,b4L r2 h.2⟩;cases k with
   |inl i=>cases h.1
   |inr x=>obtain⟨t,rfl⟩:=(show ∃t,_=Value.str x t from r1);exact h.1
theorem b9S{K:AE}(nk:a8a K=true){a:AB}{o:Obj}{its:Array AA}{n:Nat}{k:List m7}(e:K.lookup a=ξ o)(hc:o.cls= .type "tuple")(hd:o.data= .seq its n)(r:v7 (k.map kV) its.toList)(hk:b07 k=true):False:=by
 obtain⟨b,hb⟩:=b1f e;have h:=List.all_eq_true.mp nk _ hb;obtain⟨cls,d,data,sl⟩:=o;simp only at hc hd;subst hc hd;unfold b07 at hk;have h2:=r.length;have h2:k.length=its.size:=by simpa using h2
 have h3:b3m ⟨.type "tuple",d,.seq its n,sl⟩=true:=by
  show(((its.size==2||its.size==3)&& its.toList.any c1t)||(Nat.blt 0 its.size && its.toList.all c6D))=true
  rw [Bool.or_eq_true,χ,χ] at hk ⊢;rcases hk with hk|hk
  ·exact .inl ⟨by rw [<-h2];exact hk.1,b7K r hk.2⟩
  ·exact .inr ⟨by rw [<-h2];exact hk.1,b4L r hk.2⟩
 rw [h3] at h;cases h
def a49(r:d4):Υ (List m7):=match r with
 | .v (.tuple ps)=>(Z9 ps).bind λk=>if b07 k=true then ξ k else ζ
 |_=>ζ
theorem a6s{K:AE}{F H:Hp}{r:d4}{k:List m7}{v:V}(nk:a8a K=true)(e:a49 r=ξ k)(h:U1 K F H v r):∃b,v= .ref b/\F b=ξ (.tup (k.map kV)):=by
 unfold a49 at e;split at e
 ·obtain⟨k',e1,e⟩:=bind_some e;split at e
  ·rename_i hk;cases e;obtain⟨b,xs,rfl,hq,rl⟩:=h;have ex:=a4K e1 rl;subst ex;rcases hq with hq|⟨o,its,n,h1,h2,h3,h4,h5⟩
   ·exact⟨b,rfl,hq⟩
   ·exact(b9S nk h1 h2 h3 h5 hk).elim
  ·cases e
 ·cases e
section
variable {X:Cx}
def b0s(i:Nat)(mk mv:M):MS:=λρ=>((mv ρ).bind d4.toVal).bind λp=>((mk ρ).bind a49).bind (b0O i ρ p)
theorem b9i(i:Nat){x:Str}{p tp2 pos:Pos}{ek e:AF}{mk mv:M}(hu:X.A.units+64<cLine)(nk:a8a X.K=true)(hx:PE X (.Name x p) (a2P i))(hi:EE X ek mk)(he:EE X e mv)
 (hs:swapsWith e (ξ (.Subscript (.Name x p) ek tp2)) pos.line X.env=pure false:=by rfl):ES X (.Assign [.Subscript (.Name x p) ek tp2] e pos) (b0s i mk mv):=
 G9 (b4h (by lia) hx hi he hs) λD σ H h0=>L8 h0 λF0 H0 F ρ fl so e fin=>by
  ext ad
  obtain⟨k,e4,e⟩:=bind_some e;obtain⟨rk,e4,e5⟩:=bind_some e4
  ext n
  unfold b0O at e;split at e
  ·rename_i kvs eo;split at e
   ·rename_i hl;cases e;obtain⟨w,hw1,a,xs,rfl,fa,ha',rl⟩:=so2.e.at_ i _ eo;refine⟨.ref a,hw1,F2,ρ,rk,so2.e,e4,λy F3 H3 o3=> ?_⟩;obtain⟨b,rfl,hb⟩:=a6s nk e5 o3.rep;have ha3:=o3.x.h _ _ ha';have so3:=so2.ext o3.x;refine⟨a,_,rfl,b3r.t (k:=k) ha3 (o3.x.fh _ _ hb) (by rw [rl.length];exact hl), ?_⟩
    exact fin σ _ _ (o2.x.f.trans o3.x.f) (so3.putD eo hw1 ((E3.mono o3.x.f _ rl).put (J7.mono o3.x.f _ o2.rep)))
   ·cases e
  ·cases e
def a27(i:Nat)(mk:M):M:=λρ=>((mk ρ).bind a49).bind (b4W i ρ)
theorem a6i(i:Nat){x:Str}{p pos:Pos}{ek:AF}{mk:M}(hu:X.A.units+64<cLine)(nk:a8a X.K=true)(hx:PE X (.Name x p) (a2P i))(hi:EE X ek mk)(hs:b8Y ek:=by intro _ _;rfl):EE X (.Subscript (.Name x p) ek pos) (a27 i mk):=
 B9 (b0u (by lia) hx hi hs) λσ H Q h0=>A1 h0 λF ρ r en e k=>by
  obtain⟨kk,e4,e⟩:=bind_some e;obtain⟨rk,e4,e5⟩:=bind_some e4;unfold b4W at e;split at e
  ·rename_i kvs eo;cases hv:z5 kvs kk with
   |none=>rw [hv] at e;cases e
   |some q=>
    rw [hv] at e;cases e;obtain⟨w,hw1,a,xs,rfl,fa,ha',rl⟩:=en.at_ i _ eo;obtain⟨y,hy,ry⟩:=(rl.val (k:=kk)).1 q hv;refine⟨.ref a,hw1,F,ρ,rk,en,e4,λz F3 H3 o3=> ?_⟩;obtain⟨b,rfl,hb⟩:=a6s nk e5 o3.rep;exact⟨a,y,rfl,by rw [<-hy];exact a5g.t (o3.x.h _ _ ha') (o3.x.fh _ _ hb),k _ _ _ (B4.val o3.x (J7.mono o3.x.f _ ry))⟩
  ·cases e
def a5M(i:Nat)(mk:M):M:=λρ=>((mk ρ).bind a49).bind λk=>(dvw i ρ).bind λkvs=>(z5 kvs k).map .v
theorem b0Q(i:Nat){x:Str}{p pos:Pos}{ek:AF}{mk:M}(hu:X.A.units+64<cLine)(nk:a8a X.K=true)(hx:PE X (.Name x p) (a2P i))(hi:EE X ek mk)(hs:b8Y ek:=by intro _ _;rfl):EE X (.Subscript (.Name x p) ek pos) (a5M i mk):=
 B9 (b0u (by lia) hx hi hs) λσ H Q h0=>A1 h0 λF ρ r en e k=>by
  obtain⟨kk,e4,e⟩:=bind_some e;obtain⟨rk,e4,e5⟩:=bind_some e4;obtain⟨kvs,e3,e⟩:=bind_some e;cases hv:z5 kvs kk with
  |none=>rw [hv] at e;cases e
  |some q=>
   rw [hv] at e;cases e;obtain⟨a,xs,hw1,ha',rl⟩:=c0P en e3;obtain⟨y,hy,ry⟩:=(rl.val (k:=kk)).1 q hv;refine⟨.ref a,hw1,F,ρ,rk,en,e4,λz F3 H3 o3=> ?_⟩;obtain⟨b,rfl,hb⟩:=a6s nk e5 o3.rep;exact⟨a,y,rfl,by rw [<-hy];exact a5g.t (o3.x.h _ _ (en.fh _ _ ha')) (o3.x.fh _ _ hb),k _ _ _ (B4.val o3.x (J7.mono o3.x.f _ ry))⟩
theorem b3U(i:Nat)(mk:M)(ρ:c9):a5M i mk ρ=((mk ρ).bind a49).bind λk=>(dvw i ρ).bind λkvs=>(z5 kvs k).map .v:=ω
def a9N(neg:Bool)(i:Nat)(mk:M):M:=λρ=>((mk ρ).bind a49).bind (c5o neg i ρ)
theorem c0K{i:Nat}{mk:M}{neg:Bool}{σ:L2.St}{H:Hp}{Q:VK}(nk:a8a X.K=true)(h:tM X.K (a9N neg i mk) σ H Q):
 tM X.K mk σ H λy H1=>a2P i σ H1 λx H2=>∃a o,x= .ref a/\a5g H2 a y o/\Q (.bl (if neg then !o.isSome else o.isSome)) H2:=by
 obtain⟨F,ρ,r,en,e,k⟩:=h
 obtain⟨kk,e4,e⟩:=bind_some e
 obtain⟨rk,e4,e5⟩:=bind_some e4
 unfold c5o at e
 split at e
 ·rename_i kvs eo
  cases e
  refine⟨F,ρ,rk,en,e4,λy F3 H3 o3=> ?_⟩
  obtain⟨b,rfl,hb⟩:=a6s nk e5 o3.rep
  obtain⟨w,hw1,a,xs,rfl,fa,ha',rl⟩:=(en.ext o3.x).at_ i _ eo
  refine⟨.ref a,hw1,a,a2Q xs kk,rfl,a5g.t ha' (o3.x.fh _ _ hb), ?_⟩
  rw [rl.isSome]
  exact k _ _ _ (B4.val o3.x rfl)
 ·cases e
theorem b6N(i:Nat){x:Str}{p pos:Pos}{ek:AF}{mk:M}(hu:X.A.units+64<cLine)(nk:a8a X.K=true)(hx:PE X (.Name x p) (a2P i))(hi:EE X ek mk)(hm:behindInMarks .NotIn (.Name x p)=false):ET X (.Compare ek [.NotIn] [.Name x p] pos) (G2 (a9N true i mk)):=
 a9g (c2f (b29 (by lia) hi hx) hm) λσ H Q h=>c42 (λ_ _ _ h=>c0K nk h) h
end
theorem b5r(i:Nat)(mk mv:M)(ρ:c9):b0s i mk mv ρ=((mv ρ).bind d4.toVal).bind λp=>((mk ρ).bind a49).bind (b0O i ρ p):=ω
theorem b5q(i:Nat)(mk:M)(ρ:c9):a27 i mk ρ=((mk ρ).bind a49).bind (b4W i ρ):=ω
theorem b9J(neg:Bool)(i:Nat)(mk:M)(ρ:c9):a9N neg i mk ρ=((mk ρ).bind a49).bind (c5o neg i ρ):=ω
theorem M6.lend{K:AE}{F H:Hp}{σ:L2.St}{ρ:c9}{i:Nat}{c:a2c}{a:AB}{o:HO}{p:PV}(en:M6 K F H σ ρ)(e:ρ[i]?=ξ (ξ (.ow c)))(ea:σ[i]?=ξ (ξ (.ref a)))(fa:F a=ζ)(ha:H a=ξ o)(rp:J7 K (upd F a o) p (.ref a)):
 M6 K (upd F a o) H σ (ρ.set i (ξ (.v p))):=by
 have up:m5 F (upd F a o):=P9 fa
 have cl:∀(j:Nat) (q:d4),(ρ.set i (ξ (.v p)))[j]?=ξ (ξ q)->(j=i/\q= .v p)\/(j≠i/\ρ[j]?=ξ (ξ q)):=λj q z=>by
  rcases c2u z with⟨y,y'⟩|y
  ·exact .inl ⟨y,(Option.some.inj y').symm⟩
  ·exact .inr y
 refine⟨λb u z=> ?_,by rw [List.length_set];exact en.len,λj q z=> ?_,λj d z=> ?_,λj k d d' b hne z1 z2=> ?_⟩
 ·by_cases hb:b=a
  ·subst hb;rw [n6] at z;cases z;exact ha
  ·rw [m4 hb] at z;exact en.fh _ _ z
 ·rcases cl j q z with⟨rfl,rfl⟩|⟨hj,w⟩
  ·exact⟨.ref a,ea,rp⟩
  ·obtain⟨v,v1,v2⟩:=en.at_ j q w
   refine⟨v,v1, ?_⟩
   cases q with
   |v r=>exact J7.mono up _ v2
   |ow d=>
    have v2:a00 K F H v d:=v2
    obtain⟨a',u,rfl,f1,h1,nt⟩:=b4g v2
    have hne:a'≠a:=λy=>by subst y;exact en.ap j i d c a' hj w e v1 ea
    exact show a00 K (upd F a o) H (.ref a') d from b4l v2 up (by rw [m4 hne];exact f1) λ_ h=>h
   |bo d=>exact absurd w (en.nb j d)
 ·rcases cl j _ z with⟨_,y⟩|⟨_,w⟩
  ·cases y
  ·exact en.nb j d w
 ·rcases cl j _ z1 with⟨_,y⟩|⟨_,w⟩
  ·cases y
  ·rcases cl k _ z2 with⟨_,y⟩|⟨_,w'⟩
   ·cases y
   ·exact en.ap j k d d' b hne w w'
def a2B(i:Nat)(m:M):M:=λρ=>match ρ[i]? with
 |some (ξ (.ow (.dct kvs)))=>(m (ρ.set i (ξ (.v (dv kvs))))).bind λr=>if r.noD=true then ξ r else ζ
 |_=>ζ
def a5O(i:Nat)(m:M):M:=λρ=>match ρ[i]? with
 |some (ξ (.ow (.txt kvs)))=>(m (ρ.set i (ξ (.v (tv kvs))))).bind λr=>if r.noK=true then ξ r else ζ
 |_=>ζ
section
variable {X:Cx}
theorem b0R(i:Nat){e:AF}{m:M}(he:EE X e m):EE X e (a2B i m):=
 B9 he λσ H Q h0=>A1 h0 λF ρ r en hm kq=>by
  unfold a2B at hm;split at hm
  ·rename_i kvs eo;obtain⟨r',e1,hm⟩:=bind_some hm;split at hm
   ·rename_i c;cases hm;obtain⟨w,hw,a,xs,rfl,fa,ha,rl⟩:=en.at_ i _ eo;exact⟨upd F a (.dT xs),_,_,en.lend eo hw fa ha (b5n fa rl),e1,λu F5 H5 o5=>kq u (drp F5 a) H5 (b2W fa o5 c)⟩
   ·cases hm
  ·cases hm
theorem b40(i:Nat){e:AF}{m:M}(he:EE X e m):EE X e (a5O i m):=
 B9 he λσ H Q h0=>A1 h0 λF ρ r en hm kq=>by
  unfold a5O at hm;split at hm
  ·rename_i kvs eo;obtain⟨r',e1,hm⟩:=bind_some hm;split at hm
   ·rename_i c;cases hm;obtain⟨w,hw,a,xs,rfl,fa,ha,rl⟩:=en.at_ i _ eo;exact⟨upd F a (.dK xs),_,_,en.lend eo hw fa ha (b9G fa rl),e1,λu F5 H5 o5=>kq u (drp F5 a) H5 (b60 fa o5 c)⟩
   ·cases hm
  ·cases hm
end
def shT(cond:Str->Bool)(f:PV->Bool):PV->Bool
 | .tuple [.str x,y,z]=>a3m y &&(f z||(a3m z && !cond x))
 |_=>false
def shB(cond:Str->Bool):Nat->PV->Bool
 |0,_=>false
 |n+1,.list ps=>ps.all (shT cond (shB cond n))
 |_+1,_=>false
theorem b1L{cond:Str->Bool}{n:Nat}{p:PV}(h:shB cond (n+1) p=true):∃ps,p= .list ps/\∀q∈ps,shT cond (shB cond n) q=true:=by
 cases p with
 |list ps=>exact⟨ps,rfl,λq hq=>List.all_eq_true.mp h q hq⟩
 |none=>cases h
 |bool _=>cases h
 |int _=>cases h
 |str _=>cases h
 |tuple _=>cases h
 |dict _=>cases h
theorem b8H{cond:Str->Bool}{f:PV->Bool}{p:PV}(h:shT cond f p=true):∃x y z,p= .tuple [.str x,y,z]/\a3m y=true/\(f z=true\/(a3m z=true/\cond x=false)):=by
 unfold shT at h;split at h
 ·rename_i x y z;simp only [χ,Bool.or_eq_true,Bool.not_eq_true'] at h;exact⟨x,y,z,rfl,h.1,h.2⟩
 ·cases h
structure Wk(F H H':Hp):Prop where
 out:∀c o,F c=ζ->H c=ξ o->H' c=ξ o
 inn:∀c o,F c=ξ o->H' c=ξ o\/∃ys,o= .lst ys/\H' c=ξ (.lst [])
def Rs(F H:Hp):Hp:=λc=>if(F c).isSome=true then H c else ζ
theorem c4s(F H:Hp):m5 (Rs F H) H:=λc o e=>by
 unfold Rs at e;split at e
 ·exact e
 ·cases e
theorem b8E{F H:Hp}{c:AB}(h:F c=ζ):Rs F H c=ζ:=by unfold Rs;rw [h];rfl
theorem a4Q{F H:Hp}{c:AB}{o:HO}(h:F c=ξ o):Rs F H c=H c:=by unfold Rs;rw [h];rfl
theorem Wk.refl{F H:Hp}(s:m5 F H):Wk F H H:=⟨λ_ _ _ h=>h,λc o e=> .inl (s c o e)⟩
theorem Wk.trans{F H H1 H2:Hp}(a:Wk F H H1)(b:Wk (Rs F H1) H1 H2):Wk F H H2:=by
 refine⟨λc o e h=>b.out c o (b8E e) (a.out c o e h),λc o e=> ?_⟩;rcases a.inn c o e with h|⟨ys,rfl,h⟩
 ·exact b.inn c o (by rw [a4Q e,h])
 ·rcases b.inn c (.lst []) (by rw [a4Q e,h]) with h2|⟨zs,z,h2⟩
  ·exact .inr ⟨ys,rfl,h2⟩
  ·exact .inr ⟨ys,rfl,h2⟩
theorem Wk.nfz{F H H1:Hp}(a:Wk F H H1)(h:∀c o u,F c≠ξ (.frz o u)):∀c o u,Rs F H1 c≠ξ (.frz o u):=λc o u e=>by
 cases hf:F c with
 |none=>rw [b8E hf] at e;cases e
 |some w=>
  rw [a4Q hf] at e;rcases a.inn c w hf with z|⟨ys,rfl,z⟩
  ·rw [e] at z;cases z;exact h c o u hf
  ·rw [e] at z;cases z
section
variable {K:AE}{F H H':Hp}
theorem b4S(a:Wk F H H'){p:PV}{v:V}(f:a3m p=true)(r:J7 K F p v):J7 K (Rs F H') p v:=b1D (λc ys e=>by
 rw [a4Q e];rcases a.inn c _ e with h|⟨zs,z,_⟩
 ·exact h
 ·cases z) p f r
theorem b7T{cond:Str->Bool}(a:Wk F H H'){n:Nat}(ih:∀{p:PV} {v:V},shB cond n p=true->J7 K F p v->∃p',shB cond n p'=true/\J7 K (Rs F H') p' v){p:PV}{v:V}(h:shT cond (shB cond n) p=true)(r:J7 K F p v):∃p',shT cond (shB cond n) p'=true/\J7 K (Rs F H') p' v:=by
 obtain⟨x,y,z,rfl,fy,hz⟩:=b8H h;obtain⟨b,xs,rfl,hq,v1,t1,e1,r1,v2,t2,e2,r2,v3,t3,e3,r3,e4⟩:=r;subst e1 e2 e3 e4;have hq':TqT K (Rs F H') b [v1,v2,v3]:=hq.elim (λe=> .inl (by
  rw [a4Q e];rcases a.inn b _ e with h|⟨zs,z,_⟩
  ·exact h
  ·cases z)) .inr
 have r1':J7 K (Rs F H') (.str x) v1:=r1;have r2':=b4S a fy r2;rcases hz with hz|⟨hz,hc⟩
 ·obtain⟨z',h1,h2⟩:=ih hz r3;refine⟨.tuple [.str x,y,z'], ?_,b,_,rfl,hq',v1,_,rfl,r1',v2,_,rfl,r2',v3,_,rfl,h2,rfl⟩;show(a3m y &&(shB cond n z'||_))=true
  rw [fy,h1];rfl
 ·refine⟨.tuple [.str x,y,z], ?_,b,_,rfl,hq',v1,_,rfl,r1',v2,_,rfl,r2',v3,_,rfl,b4S a hz r3,rfl⟩;show(a3m y &&(_||(a3m z && !cond x)))=true
  rw [fy,hz,hc];simp
theorem c0G{cond:Str->Bool}(nl:b9R K=true)(nfz:∀c o u,F c≠ξ (.frz o u))(a:Wk F H H'):∀(n:Nat) {p:PV} {v:V},shB cond n p=true->J7 K F p v->∃p',shB cond n p'=true/\J7 K (Rs F H') p' v
 |0,_,_,h,_=>nomatch h
 |n+1,p,v,h,r=>by
  obtain⟨ps,rfl,hps⟩:=b1L h;obtain⟨b,xs,rfl,hq,rl⟩:=r;have hb:F b=ξ (.lst xs):=by
   rcases hq with(h|⟨w,h⟩)|⟨w,its,k,h1,h2,_⟩
   ·exact h
   ·exact absurd h (nfz _ _ _)
   ·exact(b5E nl h1 h2).elim
  rcases a.inn b _ hb with e|⟨ys,_,e⟩
  ·have go:∀{qs:List PV} {vs:List V},(∀q∈qs,shT cond (shB cond n) q=true)->o0 K F qs vs->∃qs',(∀q∈qs',shT cond (shB cond n) q=true)/\o0 K (Rs F H') qs' vs:=by
    intro qs
    induction qs with
    |nil=>intro vs _ r;exact⟨[],λq hq=>(nomatch hq),r⟩
    |cons q qs ih=>
     intro vs hqs r;obtain⟨v,t,rfl,r1,r2⟩:=r;obtain⟨qs',h1,h2⟩:=ih (λq hq=>hqs q (Al _ hq)) r2;obtain⟨q',h3,h4⟩:=b7T a (λ {p v}=>c0G nl nfz a n) (hqs q Ak) r1;exact⟨q'::qs',λz hz=>(An.mp hz).elim (λe=>e▸h3) (h1 z),v,t,rfl,h4,h2⟩
   obtain⟨ps',h1,h2⟩:=go hps rl;exact⟨.list ps',List.all_eq_true.mpr h1,b,xs,rfl,SqL.of (by rw [a4Q hb];exact e),h2⟩
  ·exact⟨.list [],rfl,b,[],rfl,SqL.of (by rw [a4Q hb];exact e),rfl⟩
end
theorem Wk.back{F H F1 H1 H2:Hp}(x:Ext F H F1 H1)(w:Wk F1 H1 H2):Wk F H H2:=by
 refine⟨λc o e h=> ?_,λc o e=>w.inn c o (x.f _ _ e)⟩;cases h1:F1 c with
 |none=>exact w.out c o h1 (x.h _ _ h)
 |some o'=>
  have ho:o'=o:=by
   have a1:=x.fh _ _ h1;rw [x.h _ _ h] at a1;exact(Option.some.inj a1).symm
  subst ho;rcases w.inn c _ h1 with z|⟨ys,rfl,z⟩
  ·exact z
  ·rw [x.nw c _ e h (λ_ q=>nomatch q)] at h1;cases h1
def spE(K:AE)(cond:Str->Bool)(n:Nat):Sp:=λvs H Q _=>∃F p v,vs=[v]/\m5 F H/\(∀c o u,F c≠ξ (.frz o u))/\J7 K F p v/\shB cond n p=true/\∀H',Wk F H H'->Q .non H'
def a8M(P:AJ)(w:AH)(K:AE)(mg:Str->Υ AA)(base:Heap)(x:Str)(ps:List Str)(k:Nat)(cond:Str->Bool)(n:Nat):Prop:=
 ∃f fd,a1v P w K mg base CX0 k f fd ps (spE K cond n)/\mg x=ξ (.ref f)/\PySem.W.keepIn K (.ref f)=true/\a44 K fd ps []
def c7z(K:AE)(cond:Str->Bool)(n:Nat):TS:=λD σ H=>∃F p a,σ.length=2/\σ[0]?=ξ (ξ (.ref a))/\m5 F H/\(∀c o u,F c≠ξ (.frz o u))/\J7 K F p (.ref a)/\shB cond (n+1) p=true/\∀σ' H',Wk F H H'->D.nx σ' H'
section
variable {X:Cx}
theorem c5s{cond:Str->Bool}{n k k':Nat}{tg iter test e3:AF}{x y pa:Str}{fp py ap cp p1 p2 p3 p4 p5:Pos}{mc:MT}
 (nl:b9R X.K=true) (d:a8M X.prog X.w X.K X.mg X.base x [pa] k cond n) (hr:W9 k' X.A) (hk:k<=k') (hgl:Gl X x)
 (hp:PassesOwn (model X.prog X.w) X.A X.env X.xe) (hc:X.calm=true)
 (hl:EE X iter (m1 b00 (a8 0))) (hg:PG X tg (b2O 1)) (ht:ET X test mc) (hmc:∀(z:Str) (q r:PV),mc [ζ,ξ (.v (.tuple [.str z,q,r]))]=ξ (cond z))
 (h3:EE X e3 (m2 l9 (a8 1) (mC (.int 2)))) (hy:PE X (.Name y py) (a2P 0))
 (hs:∀x,foldedSetIterable iter X.env x=pure x:=by intro _;rfl)
 (hdb:Δ x:=by decide) (he:AK [e3] X.env=(false,eval e3 X.env)::AK [] X.env:=by rfl) (hpl:(backTo p1 (AK [] X.env)).any (·.1)=false:=by rfl)
 (hsw1:swapsWith (.Call (.Name x fp) [e3] [] p1) ζ p2.line X.env=pure false:=by rfl)
 (hbase:attributeBase (.Name y py) "clear" X.env (eval (.Name y py) X.env)=eval (.Name y py) X.env:=by rfl) (hline:(ap.endLine==cp.line)=true:=by rfl)
 (hsw2:swapsWith (.Call (.Attribute (.Name y py) "clear" ap) [] [] cp) ζ p5.line X.env=pure false:=by rfl):
 PSs X [.For tg iter [.If test [.Expr (.Call (.Name x fp) [e3] [] p1) p2] [] p3] [] p4,.Expr (.Call (.Attribute (.Name y py) "clear" ap) [] [] cp) p5] (c7z X.K cond n):=by
 obtain⟨f,fd,G,g1,g2,g3⟩:=d
 refine a0L (a35 (b1x hp hc (b7l hl) hg (a6u (b8y ht (a6u (a8m (a8i G (hr.mono hk) hgl g1 g2 g3 .nil b5V (J3 h3 a0d he) hdb he hpl) hsw1)) b4j)) hs) (a6u (a8m (c6a PySem.F.plainAttrs_list PySem.F.slot_list_clear PySem.F.type_list_clear c1Q hy hbase hline) hsw2))) λD σ H ⟨F,q,a,hlen,h0,sFH,nfz,rq,sh,fin⟩=> ?_
 obtain⟨ps,rfl,hps⟩:=b1L sh
 have en0:M6 X.K F H σ [ξ (.v (.list ps)),ζ]:=by
  have at_:∀(j:Nat) (r:d4),([ξ (.v (.list ps)),ζ]:c9)[j]?=ξ (ξ r)->j=0/\r= .v (.list ps):=λj r z=>by
   match j,z with
   |0,z=>cases z;exact⟨rfl,rfl⟩
   |1,z=>cases z
   |j+2,z=>cases z
  refine⟨sFH,hlen,λj r z=> ?_,λj c z=> ?_,λi j c d b _ z=> ?_⟩
  ·obtain⟨rfl,rfl⟩:=at_ j r z;exact⟨.ref a,h0,rq⟩
  ·cases(at_ j _ z).2
  ·cases(at_ i _ z).2
 refine⟨F,_,.own ps,en0,rfl,λv F1 H1 o=> ?_⟩
 obtain⟨b,xs,rfl,fb,hb,rl⟩:=o.rep
 have nfz1:∀c o u,F1 c≠ξ (.frz o u):=λc w u z=>nfz c w u (o.x.nf _ _ _ z)
 have rq1:=J7.mono o.x.f _ rq
 obtain⟨a',xs0,e',hq,rl0⟩:=rq1
 cases e'
 have fa:F1 a=ξ (.lst xs0):=by
  rcases hq with(h|⟨w,h⟩)|⟨w,its,k,h1,h2,_⟩
  ·exact h
  ·exact absurd h (nfz1 _ _ _)
  ·exact(b5E nl h1 h2).elim
 let Pv:Nat->L2.St->Hp->Prop:=λ_ σ' H'=>Wk F1 H1 H'/\σ'.length=2/\σ'[0]?=ξ (ξ (.ref a))
 refine⟨b,rfl,.inl ⟨⟨xs,SqL.of hb⟩,b48 (K:=X.K) (a:=b) (xs:=xs) Pv ⟨Wk.refl o.x.fh,hlen,h0⟩ (λk σ' H' _ hp=>SqL.of (hp.1.out b _ fb hb)) (λk u σ' H' ex hp=> ?_) (λσ' H' hp=> ?_)⟩⟩
 ·obtain⟨w,hl2,hz⟩:=hp
  obtain⟨q0,eq,rq0⟩:=rl.getV ex
  obtain⟨q1,hsh,rq1⟩:=b7T (cond:=cond) w (λ {p v}=>c0G nl nfz1 w n) (hps q0 (BA eq)) rq0
  obtain⟨z,y1,z1,rfl,_,hz1⟩:=b8H hsh
  have nfz2:=w.nfz nfz1
  have en1:M6 X.K (Rs F1 H') H' (σ'.set 1 (ξ u)) [ζ,ξ (.v (.tuple [.str z,y1,z1]))]:=by
   have at_:∀(j:Nat) (r:d4),([ζ,ξ (.v (.tuple [.str z,y1,z1]))]:c9)[j]?=ξ (ξ r)->j=1/\r= .v (.tuple [.str z,y1,z1]):=λj r z=>by
    match j,z with
    |0,z=>cases z
    |1,z=>cases z;exact⟨rfl,rfl⟩
    |j+2,z=>cases z
   refine⟨c4s _ _,by rw [List.length_set];exact hl2,λj r z=> ?_,λj c z=> ?_,λi j c d b _ z=> ?_⟩
   ·obtain⟨rfl,rfl⟩:=at_ j r z;exact⟨u,by rw [BH (by lia)],rq1⟩
   ·cases(at_ j _ z).2
   ·cases(at_ i _ z).2
  have hz2:(σ'.set 1 (ξ u))[0]?=ξ (ξ (.ref a)):=by rw [List.getElem?_set_ne (by decide)];exact hz
  refine⟨Rs F1 H',_,cond z,en1,hmc z y1 z1,λF2 H2 x2=> ?_⟩
  have w2:Wk (Rs F1 H') H' H2:=Wk.back x2 (Wk.refl x2.fh)
  cases hcz:cond z with
  |false=>exact b18 ⟨w.trans w2,by rw [List.length_set];exact hl2,hz2⟩
  |true=>
   refine b19 ?_
   have hsz:shB cond n z1=true:=hz1.elim id λh=>by rw [hcz] at h;cases h.2
   have ix:(m2 l9 (a8 1) (mC (.int 2))) [ζ,ξ (.v (.tuple [.str z,y1,z1]))]=ξ (.v z1):=rfl
   refine⟨F2,_,_,en1.ext x2,ix,λv3 F3 H3 o3=> ?_⟩
   refine⟨F3,z1,v3,rfl,o3.x.fh,λc w u y=>nfz2 c w u (x2.nf _ _ _ (o3.x.nf _ _ _ y)),o3.rep,hsz,λH4 w4=> ?_⟩
   exact⟨w.trans (Wk.back (x2.trans o3.x) w4),by rw [List.length_set];exact hl2,hz2⟩
 ·obtain⟨w,hl2,hz⟩:=hp
  have fin':∀σ' H',Wk F1 H1 H'->D.nx σ' H':=λσ' H' w=>fin σ' H' (Wk.back o.x w)
  have done:∀ys,H' a=ξ (.lst ys)->Wk F1 H1 (upd H' a (.lst [])):=λys _=>by
   refine⟨λc u e h=> ?_,λc u e=> ?_⟩
   ·rw [m4 (λy=>by rw [y,fa] at e;cases e)];exact w.out c u e h
   ·by_cases hca:c=a
    ·subst hca;rw [fa] at e;cases e;exact .inr ⟨xs0,rfl,n6⟩
    ·rw [m4 hca];exact w.inn c u e
  obtain⟨ys,hys⟩:∃ys,H' a=ξ (.lst ys):=(w.inn a _ fa).elim (λh=>⟨_,h⟩) λ⟨_,_,h⟩=>⟨_,h⟩
  exact⟨.ref a,hz,.inl ⟨rfl,ys,SqL.of hys⟩,a,ys,rfl,rfl,hys,fin' _ _ (done ys hys)⟩
end
section
variable {X:Cx}
variable {Φ:L2.St->Hp->Prop}{I:List Nat}
theorem c3s(hS:b8Z Φ I){i:Nat}(hI:i∈I){x:Str}{e:AF}{m:M}{pos pos':Pos}(hN:X.N.Nodup)(he:EE X e m)(hi:X.N[i]?=ξ x:=by rfl)(hx:Loc X.env.scope x:=by exact Or.inl rfl)(hs:swapsWith e (ξ (.Name x pos')) pos.line X.env=pure false:=by rfl)(hf:X.fn x=true\/X.env.scope.names.lookup x=ξ .local:=by first|exact .inl rfl|exact .inr rfl|assumption):
 ESP X Φ (.Assign [.Name x pos'] e pos) (p7 i m):=
 G9 (b4i hN hi hx he hs hf) λD σ H ⟨F0,H0,F,ρ,fl,φ,so,e,fin⟩=>by
  ext aa
  ·rename_i c;cases e;exact⟨F,ρ,r,so.e,e1,λv F' H' o=>fin _ F' H' o.x.f (so.set o c i) (hS.set i hI _ _ _ (hS.grow _ _ _ φ o.x.h))⟩
  ·cases e
end
section
variable {P:AJ}{w:AH}{K:AE}{mg:Str->Υ AA}{base:Heap}
theorem c0V{x:Str}{st:Stmt}{pa pb:Str}{k:Nat}{cond:Str->Bool}(D:Df K mg x st)(S:i4 [pa,pb] [pa] (d6 st))
 (hi:∀(kV doc pm:AA) (an:Υ AB) (cdv ct:AA) (us:List AA),us.length=1->bindArgs (PySem.W.fnOf x x (O3 st) (C3 st) (d6 st) .none kV doc pm an cdv ct) ⟨us,[]⟩=pure ([pa].zip us)):
 a8M P w K mg base x [pa] (k+1) cond 0:=
 let ⟨f,fd,F,hm⟩:=D
 ⟨f,fd,F.ok S (λvs H Q E ⟨_,_,v,e,_⟩=>by rw [e];rfl) (λcdv A outer s H vs Q E hr ⟨_,_,_,_,_,_,_,h,_⟩=>nomatch h),hm,F.kp,F.binds hi⟩
theorem c0U{x:Str}{st:Stmt}{pa pb:Str}{k n:Nat}{cond:Str->Bool}(nl:b9R K=true)(D:Df K mg x st)(S:i4 [pa,pb] [pa] (d6 st))
 (hi:∀(kV doc pm:AA) (an:Υ AB) (cdv ct:AA) (us:List AA),us.length=1->bindArgs (PySem.W.fnOf x x (O3 st) (C3 st) (d6 st) .none kV doc pm an cdv ct) ⟨us,[]⟩=pure ([pa].zip us))
 (hb:∀(f:AB) (cdv:AA) (A:AM) (outer:List Env) (s:AC) (H:Hp) (E:XK),W9 k (A.deeper (envOfC x (d6 st) s.heap.objs.size f cdv))->PSs (a5q CX0 P w K mg base [pa,pb] x (d6 st) f cdv A outer s H E).nox (C3 st) (c7z K cond n)):
 a8M P w K mg base x [pa] (k+1) cond (n+1):=by
 obtain⟨f,fd,F,hm⟩:=D
 refine⟨f,fd,F.ok S (λvs H Q E ⟨_,_,v,e,_⟩=>by rw [e];rfl) (λcdv A outer s H vs Q E hr h=>⟨_,hb f cdv A outer s H E hr, ?_⟩),hm,F.kp,F.binds hi⟩
 obtain⟨F1,p,v,rfl,sF,nfz,rp,sh,kq⟩:=h
 obtain⟨ps,rfl,_⟩:=b1L sh
 have rp1:=rp
 obtain⟨a,xs,e,_⟩:=rp1
 subst e
 exact⟨F1,_,a,rfl,rfl,sF,nfz,rp,sh,λ_ H' w=>kq H' w⟩
end
def c5i:PV->Bool
 | .none=>true
 | .bool _=>true
 | .int _=>true
 | .str _=>true
 |_=>false
theorem c2m{K:AE}{F G:Hp}:∀{p:PV} {v:V},c5i p=true->J7 K F p v->J7 K G p v
 | .none,_,_,r=>r
 | .bool _,_,_,r=>r
 | .int _,_,_,r=>r
 | .str _,_,_,r=>r
 | .tuple _,_,h,_=>nomatch h
 | .list _,_,h,_=>nomatch h
 | .dict _,_,h,_=>nomatch h
def c0w:Υ (Υ d4)->Υ d4
 |some (ξ (.v p))=>if c5i p=true then ξ (.v p) else ζ
 |_=>ζ
def b6B(C B:List Nat)(ρ ρ5:c9):c9:=ρ.zipIdx.map λq=>if q.2∈C then q.1 else if q.2∈B then c0w ρ5[q.2]? else ζ
theorem c0C(C B:List Nat)(ρ ρ5:c9):(b6B C B ρ ρ5).length=ρ.length:=by unfold b6B;simp
theorem b7R{C B:List Nat}{ρ ρ5:c9}{j:Nat}{r:d4}(h:(b6B C B ρ ρ5)[j]?=ξ (ξ r)):(j∈C/\ρ[j]?=ξ (ξ r))\/(j∈B/\∃p,r= .v p/\c5i p=true/\ρ5[j]?=ξ (ξ (.v p))):=by
 unfold b6B at h;rw [Az,List.getElem?_zipIdx] at h;cases e:ρ[j]? with
 |none=>rw [e] at h;simp at h
 |some q=>
  rw [e] at h;simp only [Ar,Nat.zero_add,Option.some.injEq] at h;split at h
  ·rename_i hj;exact .inl ⟨hj,by rw [h]⟩
  ·split at h
   ·rename_i hj;unfold c0w at h;split at h
    ·rename_i p ep;split at h
     ·rename_i ha;cases h;exact .inr ⟨hj,p,rfl,ha,ep⟩
     ·cases h
    ·cases h
   ·cases h
def b5u(cond:Str->Bool)(nE x:Nat)(A C B:List Nat)(m2:M)(mm n:MS):MS:=λρ=>
 if c03 A ρ=true/\x<ρ.length then match m2 (keep A ρ) with
  |some (.ow (.lst T))=>match mm (ρ.set x (ξ (.v (.list T)))) with
   |some (.nx ρ5)=>if shB cond nE (.list T)=true then n (b6B C B ρ ρ5) else ζ
   |_=>ζ
  |_=>ζ
 else ζ
def tK(K:AE)(I:List Nat)(m:MS)(T:TS):TS:=λD σ H=>∃Φ,b8Z Φ I/\tMP K Φ m {D with nx:=T D} σ H
def c7A(K:AE)(cond:Str->Bool)(nE x:Nat)(n:MS):TS:=λD σ H=>∃F p a,σ[x]?=ξ (ξ (.ref a))/\m5 F H/\(∀c o u,F c≠ξ (.frz o u))/\J7 K F p (.ref a)/\shB cond nE p=true/\∀H',Wk F H H'->tMS K n D σ H'
section
variable {X:Cx}
theorem c2c{I:List Nat}{T:TS}{rest:List Stmt}(h:PSs X rest T):PSs X rest (tK X.K I n4 T):=a0L h λD σ H ⟨Φ,st,F0,H0,F,ρ,fl,φ,so,e,fin⟩=>by
 cases e;exact fin σ F H (PU.m5.refl F) so φ
theorem a18{I:List Nat}{T:TS}{st:Stmt}{rest:List Stmt}{m n:MS}(h1:∀Φ,b8Z Φ I->ESP X Φ st m)(h2:PSs X rest (tK X.K I n T)):PSs X (st::rest) (tK X.K I (i8 m n) T):=by
 have t1:PS X st (λD σ H=>∃Φ,b8Z Φ I/\tMP X.K Φ m D σ H):=λpins s σ H D J ⟨Φ,st,h⟩=>h1 Φ st pins s σ H D J h;refine a0L (a35 t1 h2) λD σ H ⟨Φ,st,F0,H0,F,ρ,fl,φ,so,e,fin⟩=> ?_;obtain⟨f1,e1,e⟩:=bind_some e;cases f1 with
 |nx ρ'=>exact⟨Φ,st,F0,H0,F,ρ,.nx ρ',φ,so,e1,λσ' F' H' s so' φ'=>⟨Φ,st,F0,H0,F',ρ',fl,φ',so',e,fin.later s⟩⟩
 |rt r=>cases e;exact⟨Φ,st,F0,H0,F,ρ,_,φ,so,e1,fin⟩
 |bk r=>cases e;exact⟨Φ,st,F0,H0,F,ρ,_,φ,so,e1,fin⟩
 |ct r=>cases e;exact⟨Φ,st,F0,H0,F,ρ,_,φ,so,e1,fin⟩
theorem c2N{cond:Str->Bool}{nE x k k':Nat}{fx nx pa:Str}{fp q1 cp p6:Pos}{rest:List Stmt}{n:MS}(d:a8M X.prog X.w X.K X.mg X.base fx [pa] k cond nE)(hr:W9 k' X.A)(hk:k<=k')(hgl:Gl X fx)(hv:PE X (.Name nx q1) (a2P x))(hrest:ESs X rest n)
 (hdb:Δ fx:=by decide) (he:AK [.Name nx q1] X.env=(false,eval (.Name nx q1) X.env)::AK [] X.env:=by rfl) (hpl:(backTo cp (AK [] X.env)).any (·.1)=false:=by rfl)
 (hsw:swapsWith (.Call (.Name fx fp) [.Name nx q1] [] cp) ζ p6.line X.env=pure false:=by rfl):
 PSs X (.Expr (.Call (.Name fx fp) [.Name nx q1] [] cp) p6::rest) (c7A X.K cond nE x n):=by
 obtain⟨f,fd,G,g1,g2,g3⟩:=d
 refine a0L (a35 (a8m (a8i G (hr.mono hk) hgl g1 g2 g3 .nil b5V (J3 hv a0d he) hdb he hpl) hsw) hrest) λD σ H ⟨F,p,a,hx,sF,nfz,rp,sh,kq⟩=> ?_
 exact⟨.ref a,hx,F,p,.ref a,rfl,sF,nfz,rp,sh,kq⟩
theorem c3u{cond:Str->Bool}{nE x:Nat}{A C B I:List Nat}{nx:Str}{e2:AF}{body:List Stmt}{m2:M}{mm n:MS}{p2 p2':Pos}
 (hN:X.N.Nodup) (hC:C.all (λj=> !(I.contains j)&&(j !=x))=true) (hB:B.all (λj=> !(C.contains j))=true) (hxI:I.contains x=false)
 (h2:EE X e2 m2) (hb:PSs X body (tK X.K I mm (c7A X.K cond nE x n)))
 (hi:X.N[x]?=ξ nx:=by rfl) (hx:Loc X.env.scope nx:=by exact Or.inl rfl) (hs:swapsWith e2 (ξ (.Name nx p2')) p2.line X.env=pure false:=by rfl) (hf:X.fn nx=true\/X.env.scope.names.lookup nx=ξ .local:=by first|exact .inl rfl|exact .inr rfl):
 ESs X (.Assign [.Name nx p2'] e2 p2::body) (b5u cond nE x A C B m2 mm n):=by
 refine a0L (a35 (b4i hN hi hx h2 hs hf) hb) λD σ H h0=>L8 h0 λF0 H0 F ρ fl so e fin=> ?_
 have hxI':x∉I:=by simpa using hxI
 have hC':∀j∈C,j∉I/\j≠x:=λj hj=>by
  have:=List.all_eq_true.mp hC j hj
  simpa using this
 unfold b5u at e
 split at e
 case isFalse=>cases e
 rename_i cnd
 obtain⟨fA,hxl⟩:=cnd
 split at e
 case h_2=>cases e
 rename_i T e2'
 have sFH:=so.e.fh
 have hlen:=so.e.len
 have sT:m5 (a8N F) H:=λc o z=>sFH _ _ (b0Y z).1
 refine⟨a8N F,_,_,b9m so.e fA sT rfl λ_ _=>rfl,e2',λv F' H' o=> ?_⟩
 obtain⟨a,xs,rfl,fa',ha',rl⟩:=o.rep
 have fra:H a=ζ:=o.fr _ a rfl rfl
 have Fa:F a=ζ:=sFH.free fra
 have sHH':m5 H H':=o.x.h
 have NTl:∀zs,NT (.lst zs):=λzs _ h=>nomatch h
 have nfz':∀b o u,F' b≠ξ (.frz o u):=λb w u z=>by
  obtain⟨_,ys,e⟩:=b0Y (o.x.nf _ _ _ z);cases e
 obtain⟨G,hG⟩:∃G:Hp,G=upd F' a (.lst xs):=⟨_,rfl⟩
 have F'G:m5 F' G:=by rw [hG];exact P9 fa'
 have Ga:G a=ξ (.lst xs):=by rw [hG,n6]
 have GH:m5 G H':=λc u z=>by
  rw [hG] at z
  by_cases hc:c=a
  ·subst hc;rw [n6] at z;cases z;exact ha'
  ·rw [m4 hc] at z;exact o.x.fh _ _ z
 have Gnfz:∀b o u,G b≠ξ (.frz o u):=λb w u z=>by
  rw [hG] at z
  by_cases hb:b=a
  ·subst hb;rw [n6] at z;cases z
  ·rw [m4 hb] at z;exact nfz' b w u z
 have Gnew:∀b ys,G b=ξ (.lst ys)->H b=ζ:=λb ys hb=>by
  cases hHb:H b with
  |none=>rfl
  |some w=>
   have h1:=sHH' _ _ hHb;rw [GH _ _ hb] at h1;cases h1;have hne:b≠a:=λz=>by rw [z,fra] at hHb;cases hHb
   rw [hG,m4 hne,o.x.nw b _ (c09 H sFH hHb) hHb (NTl _)] at hb;cases hb
 obtain⟨U,hU⟩:∃U:Hp,U=λc=>match F c with|some u=>ξ u|none=>G c:=⟨_,rfl⟩
 have UF:m5 F U:=λc u z=>by rw [hU];simp only [z]
 have Un:∀c,F c=ζ->U c=G c:=λc z=>by rw [hU];simp only [z]
 have UH:m5 U H':=λc u z=>by
  cases hc:F c with
  |some w=>rw [UF _ _ hc] at z;cases z;exact sHH' _ _ (sFH _ _ hc)
  |none=>rw [Un c hc] at z;exact GH _ _ z
 have GU:m5 G U:=λc u z=>by
  cases hc:F c with
  |some w=>
   have h1:=sHH' _ _ (sFH _ _ hc);have h2:=GH _ _ z;rw [h1] at h2;rw [UF _ _ hc];exact h2
  |none=>rw [Un c hc];exact z
 have ownU:∀c v,a00 X.K F H v c->∃a',v= .ref a'/\a'≠a/\U a'=ζ:=λc v rc=>by
  obtain⟨a',u,rfl,f1,h1,nt⟩:=b4g rc;have n2:a'≠a:=λy=>by rw [y,fra] at h1;cases h1
  have n3:F' a'=ζ:=o.x.nw a' u (b9s f1) h1 nt;exact⟨a',rfl,n2,by rw [Un a' f1,hG,m4 n2];exact n3⟩
 have hxs:∀j,j≠x->(σ.set x (ξ (V.ref a)))[j]?=σ[j]?:=λj hj=>List.getElem?_set_ne (λz=>hj z.symm)
 have len2:(σ.set x (ξ (V.ref a))).length=σ.length:=List.length_set
 have cl2:∀(j:Nat) (q:d4),(ρ.set x (ξ (.v (.list T))))[j]?=ξ (ξ q)->(j=x/\q= .v (.list T))\/(j≠x/\ρ[j]?=ξ (ξ q)):=λj q z=>by
  rcases c2u z with⟨y,y'⟩|y
  ·exact .inl ⟨y,(Option.some.inj y').symm⟩
  ·exact .inr y
 have rT:J7 X.K G (.list T) (.ref a):=⟨a,xs,rfl,SqL.of Ga,o0.mono F'G _ rl⟩
 have env2:M6 X.K U H' (σ.set x (ξ (.ref a))) (ρ.set x (ξ (.v (.list T)))):=by
  refine⟨UH,by rw [List.length_set,List.length_set];exact hlen,λj q z=> ?_,λj c z=> ?_,λj k c d b hjk z1 z2 z3 z4=> ?_⟩
  ·rcases cl2 j q z with⟨rfl,rfl⟩|⟨y1,w⟩
   ·exact⟨.ref a,by rw [BH (by lia)],J7.mono GU _ rT⟩
   ·obtain⟨v,v1,v2⟩:=so.e.at_ j q w;refine⟨v,by rw [hxs _ y1];exact v1, ?_⟩
    cases q with
    |v p=>exact J7.mono UF _ v2
    |ow c=>
     obtain⟨a',rfl,_,n5⟩:=ownU c v v2;exact show a00 X.K U H' (.ref a') c from b4l v2 UF n5 λu hu=>sHH' _ _ hu
    |bo c=>exact absurd w (so.e.nb j c)
  ·rcases cl2 j _ z with⟨_,y⟩|⟨_,w⟩
   ·cases y
   ·exact so.e.nb j c w
  ·rcases cl2 j _ z1 with⟨_,y⟩|⟨y1,w⟩
   ·cases y
   ·rcases cl2 k _ z2 with⟨_,y⟩|⟨y2,w'⟩
    ·cases y
    ·rw [hxs _ y1] at z3;rw [hxs _ y2] at z4;exact so.e.ap j k c d b hjk w w' z3 z4
 have so2:SOk X.K U U U H' (σ.set x (ξ (.ref a))) (ρ.set x (ξ (.v (.list T)))):=by
  refine⟨⟨PU.m5.refl _,UH,UH,λb u z y _=>z,λ_ _ _ z=>z⟩,env2,λj c b z1 z2=> ?_⟩;obtain⟨v,v1,v2⟩:=env2.at_ j _ z1;obtain⟨a',u,e',f',_,_⟩:=b4g (show a00 X.K U H' v c from v2);rw [z2] at v1;cases v1;cases e';exact f'
 obtain⟨Φ,hΦ⟩:∃Φ:L2.St->Hp->Prop,Φ=λσ' H''=>m5 H' H''/\σ'.length=σ.length/\∀j,j∉I->σ'[j]?=(σ.set x (ξ (.ref a)))[j]?:=⟨_,rfl⟩
 have st:b8Z Φ I:=by
  rw [hΦ];exact⟨λσ' H1 H2 ⟨h1,h2,h3⟩ s=>⟨h1.trans s,h2,h3⟩,λi hi σ' H1 v ⟨h1,h2,h3⟩=>⟨h1,by rw [List.length_set];exact h2,λj hj=>by
   rw [List.getElem?_set_ne (λz:i=j=>hj (by rw [<-z];exact hi))];exact h3 j hj⟩⟩
 have φ0:Φ (σ.set x (ξ (.ref a))) H':=by rw [hΦ];exact⟨PU.m5.refl _,len2,λ_ _=>rfl⟩
 split at e
 ·rename_i ρ5 e5
  split at e
  case isFalse=>cases e
  rename_i sh
  refine⟨Φ,st,U,U,U,_,_,φ0,so2,e5,λσ4 F4 H4 s4 so4 φ4=> ?_⟩
  rw [hΦ] at φ4
  obtain⟨g1,g2,g3⟩:=φ4
  refine⟨G,.list T,a,by rw [g3 x hxI',BH (by lia)],GH.trans g1,Gnfz,rT,sh,λH5 w=> ?_⟩
  have sH5:m5 H H5:=λc u z=>by
   have h4:=g1 _ _ (sHH' _ _ z);cases hc:G c with
   |none=>exact w.out c u hc h4
   |some o'=>
    have ho:o'=u:=by
     have a1:=g1 _ _ (GH _ _ hc);rw [h4] at a1;exact(Option.some.inj a1).symm
    subst ho;rcases w.inn c _ hc with y|⟨ys,rfl,_⟩
    ·exact y
    ·rw [Gnew c ys hc] at z;cases z
  have σ4at:∀j∈C,σ4[j]?=σ[j]?:=λj hj=>by
   obtain⟨c1,c2⟩:=hC' j hj;rw [g3 j c1,hxs j c2]
  have cl:∀{j:Nat} {r:d4},(b6B C B ρ ρ5)[j]?=ξ (ξ r)->(∃c,r= .ow c)\/(∃c,r= .bo c)->j∈C/\ρ[j]?=ξ (ξ r):=λ {j r} z hr=>by
   rcases b7R z with h|⟨_,p,rfl,_⟩
   ·exact h
   ·rcases hr with⟨c,y⟩|⟨c,y⟩<;>cases y
  refine⟨F0,H0,F,b6B C B ρ ρ5,_,⟨⟨so.x.f,so.x.h.trans sH5,so.x.fh.trans sH5,so.x.nw,so.x.nf⟩,⟨sFH.trans sH5,by rw [c0C,g2];exact hlen,λj q z=> ?_,λj c z=> ?_,λj k c d b hjk z1 z2 z3 z4=> ?_⟩,λj c b z1 z2=> ?_⟩,e,fin⟩
  ·rcases b7R z with⟨z1,z2⟩|⟨z1,p,rfl,ap,z2⟩
   ·obtain⟨v,v1,v2⟩:=so.e.at_ j q z2
    rw [σ4at j z1]
    refine⟨v,v1, ?_⟩
    cases q with
    |v p=>exact v2
    |ow c=>
     obtain⟨a',u,rfl,f',h',_⟩:=b4g (show a00 X.K F H v c from v2)
     exact show a00 X.K F _ (.ref a') c from b4l v2 (PU.m5.refl F) f' λw hw=>sH5 _ _ hw
    |bo c=>exact absurd z2 (so.e.nb j c)
   ·obtain⟨v,v1,v2⟩:=so4.e.at_ j _ z2
    exact⟨v,v1,c2m ap v2⟩
  ·exact so.e.nb j c (cl z (.inr ⟨c,rfl⟩)).2
  ·obtain⟨y1,y2⟩:=cl z1 (.inl ⟨c,rfl⟩)
   obtain⟨y3,y4⟩:=cl z2 (.inl ⟨d,rfl⟩)
   rw [σ4at j y1] at z3
   rw [σ4at k y3] at z4
   exact so.e.ap j k c d b hjk y2 y4 z3 z4
  ·obtain⟨y1,y2⟩:=cl z1 (.inl ⟨c,rfl⟩)
   rw [σ4at j y1] at z2
   exact so.nw j c b y2 z2
 ·cases e
end
theorem c64(w:Str)(z:Str)(q r:PV):(G2 (m2 X5 (m2 l9 (a8 1) (mC (.int 0))) (mC (.str w)))) [ζ,ξ (.v (.tuple [.str z,q,r]))]=ξ (decide (z=w)):=by
 have h:X5 (.v (.str z)) (.v (.str w))=ξ (.v (.bool (decide (z=w)))):=by
  rw [a4E (x:= .v (.str z)) (y:= .v (.str w)) ⟨rfl,rfl⟩]
  congr 3
 show((X5 (.v (.str z)) (.v (.str w))).bind _)=_;rw [h]
 rfl
theorem c7R(w w':Str)(z:Str)(q r:PV):(a0K (G2 (m2 X5 (m2 l9 (a8 1) (mC (.int 0))) (mC (.str w)))) (G2 (m2 X5 (m2 l9 (a8 1) (mC (.int 0))) (mC (.str w'))))) [ζ,ξ (.v (.tuple [.str z,q,r]))]=ξ (decide (z=w)||decide (z=w')):=by
 unfold a0K;rw [c64 w z q r,c64 w' z q r];cases decide (z=w)<;>rfl
end PU
set_option maxHeartbeats 4000000
namespace LW
open PySem PySem.Spec PyProof.Rows L2 PU
abbrev φ(p:PV):Υ d4:=ξ (.v p)
def S8:PV:=(.int 24)
def a0T:PV:=(.int 4)
def O0:PV:=(.int 12)
def a7G:MS:=
 (t6 (m2 Θ (m2 Q4 (m2 t7 (m2 Θ (a8 0) (mC (.int 2147483629))) (mC (.int 48611))) (mC (.int 69621))) (mC (.int 2147483629))))
def G1:Λ:=k4 0 a7G
def a0H(A5:Λ):M:=
 (m2 l9 (a8 2) (mC (.int 1)))
def a0I(A5:Λ):M:=
 (f7 A5 (a6 (m2 l9 (a8 2) (mC (.int 2))) b9))
def J2(A5:Λ):MS:=
 (v5 (G2 (m2 X5 (m2 l9 (a8 2) (mC (.int 0))) (mC (.str "run")))) (D6 1 (m2 T7 (mC (.str "")) (a30 1 (a0V (a6 (m2 l9 (a8 2) (mC (.int 2))) b9)) (g9 3) a5a (a0H A5)))) (D6 1 (m2 T7 (mC (.str "")) (a30 1 (a0V (a6 (m2 l9 (a8 2) (mC (.int 1))) b9)) (g9 3) a5a (a0I A5)))))
def a0s(A5:Λ):MS:=
 (i8 (p7 1 (a1E b9))
 (i8 (X1 (a0c (a8 0)) (g9 2) (J2 A5))
 (t6 (m2 T7 (mC (.str "")) (a8 1)))))
def a5b:Nat->(Λ)
 |0=>(k4 2 (λ_=>ζ))
 |n+1=>(k4 2 (a0s ((a5b n))))
def R6(n:Nat):Λ:=(a5b n)
def C5:Λ:=R6 26
def N9(a0Z:Λ):MS:=
 (v5 (G2 (m2 (gI λi j=> .bool (decide (j<i))) (a8 5) (mC (.int 0)))) (i8 (p7 1 (m2 t7 (a8 1) (mC (.int 1))))
 (i8 (p7 8 (f7 G1 (a6 (m2 t7 (m2 l9 (a8 0) (m2 Θ (a8 1) (m1 y9 (a8 0)))) (m2 Q4 (mC (.int 5)) (a8 1))) b9)))
 (v5 (a1N (G2 (m2 (gI λi j=> .bool (decide (j<i))) (a8 3) (mC (.int 0)))) (a1N (G2 (m2 (gI λi j=> .bool (decide (j<i))) (a8 5) (mC (.int 1)))) (G2 (m2 X5 (m2 Θ (a8 8) (mC (.int 3))) (mC (.int 0)))))) (i8 (p7 9 (m2 t7 (mC (.int 2)) (m2 Θ (m2 Ω (a8 8) (mC (.int 3))) (m2 (gI λi j=> .int (if j<i then j else i)) (mC (.int 3)) (m2 (gI λi j=> .int (i - j)) (a8 5) (mC (.int 1)))))))
 (i8 (c3Z [10,1] (f7 a0Z (a6 (a8 0) (a6 (m2 t7 (a8 1) (mC (.int 1))) (a6 (m2 Ω (a8 5) (a8 9)) (a6 (m2 (gI λi j=> .int (i - j)) (a8 3) (mC (.int 1))) b9))))))
 (i8 (D6 4 (O2 (a6 (mC (.str "again")) (a6 (a8 9) (a6 (a8 10) b9)))))
 (p7 5 (m2 (gI λi j=> .int (i - j)) (a8 5) (m2 Q4 (a8 9) (m1 y9 (f7 C5 (a6 (a8 10) b9))))))))) (i8 (p7 9 (m2 t7 (mC (.int 1)) (m2 Θ (m2 Ω (a8 8) (mC (.int 3))) (m2 (gI λi j=> .int (if j<i then j else i)) (a8 5) (m2 t7 (mC (.int 3)) (m2 Q4 (mC (.int 9)) (m2 Ω (m2 Θ (m2 Ω (a8 8) (mC (.int 81))) (mC (.int 5))) (mC (.int 4)))))))))
 (i8 (D6 4 (O2 (a6 (mC (.str "run")) (a6 (m2 l9 (mC (.str "abcxz")) (m2 Θ (m2 Ω (a8 8) (mC (.int 405))) (mC (.int 5)))) (a6 (a8 9) b9)))))
 (p7 5 (m2 (gI λi j=> .int (i - j)) (a8 5) (a8 9)))))))) n4)
def a4r(a0Z:Λ):MS:=
 (i8 (p7 4 (a1E b9))
 (i8 (p7 5 (a8 2))
 (i8 (p7 6 (m2 t7 (mC (.int 1)) (m2 Θ (f7 G1 (a6 (m2 t7 (m2 l9 (a8 0) (m2 Θ (a8 1) (m1 y9 (a8 0)))) (a8 1)) b9)) (mC (.int 4)))))
 (i8 (X1 (a0V (a6 (a8 6) b9)) (g9 7) (N9 a0Z))
 (a0b 4 (t6 (O2 (a6 (a8 4) (a6 (a8 1) b9)))))))))
def a9R:Nat->(Λ)
 |0=>(k4 7 (λ_=>ζ))
 |n+1=>(k4 7 (a4r ((a9R n))))
def Q5(n:Nat):Λ:=(a9R n)
def a7a:Λ:=Q5 5
def a6Q:MS:=
 (i8 (v5 (G2 (m2 b3K (a8 1) (m1 y9 (a8 0)))) (t6 (m2 l9 (a8 0) (a8 1))) n4)
 (t6 (mC (.int 0))))
def S4:Λ:=k4 0 a6Q
def a9z:MS:=
 (i8 (p7 3 (m2 t7 (F9 (a8 0) (A2 (a8 1)) P6) (a1E (a6 (mC (.int 1)) b9))))
 (i8 (p7 4 (m2 l9 (a1E (a6 (a8 2) (a6 (a8 2) (a6 (m2 Ω (a8 2) (mC (.int 2))) (a6 (mC (.int 5)) b9))))) (m2 Θ (m2 Ω (f7 G1 (a6 (f7 S4 (a6 (a8 0) (a6 (a8 1) b9))) b9)) (mC (.int 4))) (mC (.int 4)))))
 (a0b 3 (t6 (m2 l9 (f7 a7a (a6 (a8 3) (a6 (mC (.int 0)) (a6 (a8 4) (a6 (mC (.int 3)) b9))))) (mC (.int 0)))))))
def a1x:Λ:=k4 2 a9z
def C7:MS:=
 (v5 (a1N (G2 (m2 gNe (a8 1) (a1E b9))) (G2 (m2 X5 (m2 l9 (m2 l9 (a8 1) (c1L (mC (.int 1)))) (mC (.int 1))) (a8 2)))) (b62 1 (c1L (mC (.int 1))) (O2 (a6 (mC (.str "run")) (a6 (a8 2) (a6 (m2 t7 (m2 l9 (m2 l9 (a8 1) (c1L (mC (.int 1)))) (mC (.int 2))) (mC (.int 1))) b9))))) (D6 1 (O2 (a6 (mC (.str "run")) (a6 (a8 2) (a6 (mC (.int 1)) b9))))))
def b2u:MS:=
 (i8 (p7 1 (a1E b9))
 (i8 (X1 (a7f (a8 0)) (g9 2) C7)
 (a0J 1)))
def a3T:Λ:=k4 2 b2u
def a0G:M:=
 (m2 l9 (a8 6) (m2 Θ (a8 8) (m1 y9 (a8 6))))
def a0D:MS:=
 (i8 (p7 6 (f7 C5 (a6 (f7 a1x (a6 (a8 0) (a6 (m2 t7 (m2 t7 (a8 1) (mC (.int 7))) (m2 Q4 (mC (.int 5)) (a8 5))) (a6 (mC (.int 12)) b9)))) b9)))
 (i8 (p7 7 (m2 T7 (mC (.str "")) (a30 1 (a0V (a6 (m1 y9 (a8 3)) b9)) (g9 8) a5a a0G)))
 (D6 4 (O2 (a6 (a8 7) (a6 (f7 a3T (a6 (a8 7) b9)) b9))))))
def a9B:MS:=
 (i8 (p7 2 (f7 a1x (a6 (a8 0) (a6 (a8 1) (a6 (mC (.int 12)) b9)))))
 (i8 (p7 3 (f7 C5 (a6 (a8 2) b9)))
 (i8 (p7 4 (a1E (a6 (O2 (a6 (a8 3) (a6 (a8 2) b9))) b9)))
 (i8 (X1 (a0V (a6 (m2 t7 (mC (.int 1)) (m2 Θ (f7 G1 (a6 (f7 S4 (a6 (a8 0) (a6 (m2 t7 (a8 1) (mC (.int 1))) b9))) b9)) (mC (.int 3)))) b9)) (g9 5) a0D)
 (a0J 4)))))
def a2Z:Λ:=k4 6 a9B
def P3(K5:Λ):MS:=
 (v5 (G2 (m2 X5 (m2 l9 (a8 2) (mC (.int 0))) (mC (.str "rows")))) (D6 1 (f7 C5 (a6 (m2 l9 (a8 2) (mC (.int 2))) b9))) (p7 1 (m2 t7 (a8 1) (m1 b00 (f7 K5 (a6 (m2 l9 (a8 2) (mC (.int 2))) b9))))))
def P4(K5:Λ):MS:=
 (X1 (a0V (a6 (m2 l9 (a8 2) (mC (.int 1))) b9)) (g9 3) (P3 K5))
def a1o(K5:Λ):MS:=
 (i8 (p7 1 (a1E b9))
 (i8 (X1 (a0c (a8 0)) (g9 2) (P4 K5))
 (t6 (m1 b3L (a8 1)))))
def a5S:Nat->(Λ)
 |0=>(k4 3 (λ_=>ζ))
 |n+1=>(k4 3 (a1o ((a5S n))))
def O8(n:Nat):Λ:=(a5S n)
def C1:Λ:=O8 26
def E9(S1:Λ):MS:=
 (v5 (G2 (m2 (gI λi j=> .bool (decide (j<i))) (a8 6) (mC (.int 0)))) (i8 (p7 1 (m2 t7 (a8 1) (mC (.int 1))))
 (i8 (p7 9 (f7 G1 (a6 (m2 t7 (m2 l9 (a8 0) (m2 Θ (a8 1) (m1 y9 (a8 0)))) (m2 Q4 (mC (.int 7)) (a8 1))) b9)))
 (v5 (a1N (G2 (m2 (gI λi j=> .bool (decide (j<i))) (a8 3) (mC (.int 0)))) (a1N (G2 (m2 (gI λi j=> .bool (decide (j<i))) (a8 6) (mC (.int 1)))) (G2 (m2 X5 (m2 Θ (a8 9) (mC (.int 3))) (mC (.int 0)))))) (i8 (p7 10 (m2 t7 (mC (.int 2)) (m2 Θ (m2 Ω (a8 9) (mC (.int 3))) (m2 (gI λi j=> .int (if j<i then j else i)) (mC (.int 3)) (m2 (gI λi j=> .int (i - j)) (a8 6) (mC (.int 1)))))))
 (i8 (c3Z [11,1] (f7 S1 (a6 (a8 0) (a6 (m2 t7 (a8 1) (mC (.int 1))) (a6 (m2 Ω (a8 6) (a8 10)) (a6 (m2 (gI λi j=> .int (i - j)) (a8 3) (mC (.int 1))) (a6 (a8 4) b9)))))))
 (i8 (D6 5 (O2 (a6 (mC (.str "again")) (a6 (a8 10) (a6 (a8 11) b9)))))
 (p7 6 (m2 (gI λi j=> .int (i - j)) (a8 6) (m2 Q4 (a8 10) (m1 y9 (f7 C1 (a6 (a8 11) b9))))))))) (i8 (p7 10 (m2 t7 (mC (.int 1)) (m2 Θ (m2 Ω (a8 9) (mC (.int 3))) (m2 (gI λi j=> .int (if j<i then j else i)) (a8 6) (m2 t7 (mC (.int 3)) (m2 Q4 (mC (.int 9)) (m2 Ω (m2 Θ (m2 Ω (a8 9) (mC (.int 81))) (mC (.int 4))) (mC (.int 3)))))))))
 (i8 (D6 5 (O2 (a6 (mC (.str "rows")) (a6 (a8 10) (a6 (m2 l9 (m2 l9 (a8 4) (m2 Θ (m2 Ω (a8 9) (mC (.int 27))) (m1 y9 (a8 4)))) (mC (.int 1))) b9)))))
 (p7 6 (m2 (gI λi j=> .int (i - j)) (a8 6) (a8 10)))))))) n4)
def a1p(S1:Λ):MS:=
 (i8 (p7 5 (a1E b9))
 (i8 (p7 6 (a8 2))
 (i8 (p7 7 (m2 t7 (mC (.int 1)) (m2 Θ (f7 G1 (a6 (m2 t7 (m2 l9 (a8 0) (m2 Θ (a8 1) (m1 y9 (a8 0)))) (m2 Q4 (mC (.int 3)) (a8 1))) b9)) (mC (.int 4)))))
 (i8 (X1 (a0V (a6 (a8 7) b9)) (g9 8) (E9 S1))
 (a0b 5 (t6 (O2 (a6 (a8 5) (a6 (a8 1) b9)))))))))
def a5T:Nat->(Λ)
 |0=>(k4 7 (λ_=>ζ))
 |n+1=>(k4 7 (a1p ((a5T n))))
def G7(n:Nat):Λ:=(a5T n)
def a3q:Λ:=G7 6
def a9C:MS:=
 (i8 (p7 2 (f7 a2Z (a6 (a8 0) (a6 (a8 1) b9))))
 (i8 (p7 3 (m2 l9 (a1E (a6 (mC (.int 24)) (a6 (mC (.int 12)) (a6 (mC (.int 6)) (a6 (mC (.int 5)) b9))))) (m2 Θ (m2 Ω (f7 G1 (a6 (f7 S4 (a6 (a8 0) (a6 (m2 t7 (a8 1) (mC (.int 2))) b9))) b9)) (mC (.int 3))) (mC (.int 4)))))
 (a0b 2 (t6 (m2 l9 (f7 a3q (a6 (m2 t7 (F9 (a8 0) (A2 (a8 1)) P6) (a1E (a6 (mC (.int 4)) b9))) (a6 (mC (.int 0)) (a6 (a8 3) (a6 (mC (.int 2)) (a6 (a8 2) b9)))))) (mC (.int 0)))))))
def a20:Λ:=k4 2 a9C
def a3r:M:=
 (m2 X5 (a8 1) (m2 l9 (a8 0) (mC (.int 0))))
def b0J:MS:=
 (t6 (m1 c1d (a30 1 (c1P (a8 0)) (g9 1) a5a a3r)))
def a2t:Λ:=k4 0 b0J
def a9y:MS:=
 (t6 (c1K (m2 X5 (m2 Θ (m1 y9 (a8 0)) (a8 1)) (mC (.int 0))) (m2 X5 (a8 0) (m2 Q4 (F9 (a8 0) P6 (A2 (a8 1))) (m2 Ω (m1 y9 (a8 0)) (a8 1))))))
def a2Y:Λ:=k4 0 a9y
def a0B:MS:=
 (a0b 5 (v5 (mtV (f7 a2Y (a6 (a8 5) (a6 (a8 7) b9)))) (D6 6 (O2 (a6 (m2 t7 (mC (.int 1)) (m2 l9 (a2A 2 (a6 (a8 3) (a6 (m2 t7 (a8 3) (a8 7)) b9))) (mC (.int 0)))) (a6 (mC (.str "again")) (a6 (a8 7) b9))))) n4))
def a1W:MS:=
 (D6 6 (O2 (a6 (m2 t7 (m2 l9 (a2A 2 (a6 (a8 3) (a6 (a8 8) b9))) (mC (.int 0))) (m2 l9 (a2A 2 (a6 (a8 8) (a6 (a8 4) b9))) (mC (.int 0)))) (a6 (mC (.str "split")) (a6 (a8 8) b9)))))
def b2t:MS:=
 (i8 (p7 5 (F9 (a8 0) (A2 (a8 3)) (A2 (a8 4))))
 (i8 (p7 6 (a1E b9))
 (i8 (a0b 5 (v5 (mtV (f7 a2t (a6 (a8 5) b9))) (D6 6 (O2 (a6 (b1j 1 (m2 l9 (a8 5) (mC (.int 0)))) (a6 (mC (.str "alike")) (a6 (m2 (gI λi j=> .int (i - j)) (a8 4) (a8 3)) b9))))) n4))
 (i8 (X1 (a75 (a6 (mC (.int 1)) (a6 (m2 t7 (m2 Ω (m2 (gI λi j=> .int (i - j)) (a8 4) (a8 3)) (mC (.int 2))) (mC (.int 1))) b9))) (g9 7) a0B)
 (i8 (X1 (a75 (a6 (m2 t7 (a8 3) (mC (.int 1))) (a6 (a8 4) b9))) (g9 8) a1W)
 (a0J 6))))))
def a08:Λ:=k4 4 b2t
def T9:MS:=
 (i8 (p7 5 (m2 t7 (a8 4) (a8 3)))
 (b1i 2 (a6 (a8 4) (a6 (a8 5) b9)) (m1 b5b (a2B 2 (f7 a08 (a6 (a8 0) (a6 (a8 1) (a6 (a8 2) (a6 (a8 4) (a6 (a8 5) b9))))))))))
def a0A:MS:=
 (X1 (a0V (a6 (m2 t7 (m2 (gI λi j=> .int (i - j)) (m1 y9 (a8 0)) (a8 3)) (mC (.int 1))) b9)) (g9 4) T9)
def a5m:MS:=
 (i8 (p7 2 b8r)
 (i8 (X1 (a75 (a6 (mC (.int 1)) (a6 (m2 t7 (m1 y9 (a8 0)) (mC (.int 1))) b9))) (g9 3) a0A)
 (a0J 2)))
def L3:Λ:=k4 4 a5m
def b4N:MS:=
 (t6 (O2 (a6 (mC (.str "run")) (a6 (a8 0) (a6 (a8 1) b9)))))
def a1A:Λ:=k4 0 b4N
def a46(M2:Λ):MS:=
 (i8 (p7 5 (a2A 1 (a6 (a8 3) (a6 (a8 4) b9))))
 (i8 (v5 (G2 (m2 X5 (m2 l9 (a8 5) (mC (.int 1))) (mC (.str "alike")))) (t6 (a1E (a6 (a2z [("run_of",a1A)] 2 (a6 (m2 l9 (a8 0) (a8 3)) (a6 (m2 (gI λi j=> .int (i - j)) (a8 4) (a8 3)) b9))) b9))) n4)
 (i8 (v5 (G2 (m2 X5 (m2 l9 (a8 5) (mC (.int 1))) (mC (.str "again")))) (i8 (p7 6 (f7 M2 (a6 (a8 0) (a6 (a8 1) (a6 (a8 2) (a6 (a8 3) (a6 (m2 t7 (a8 3) (m2 l9 (a8 5) (mC (.int 2)))) b9)))))))
 (a0b 6 (t6 (a1E (a6 (O2 (a6 (mC (.str "again")) (a6 (m2 Ω (m2 (gI λi j=> .int (i - j)) (a8 4) (a8 3)) (m2 l9 (a8 5) (mC (.int 2)))) (a6 (a8 6) b9)))) b9))))) n4)
 (i8 (p7 7 (f7 M2 (a6 (a8 0) (a6 (a8 1) (a6 (a8 2) (a6 (a8 3) (a6 (m2 l9 (a8 5) (mC (.int 2))) b9)))))))
 (t6 (m2 t7 (a8 7) (f7 M2 (a6 (a8 0) (a6 (a8 1) (a6 (a8 2) (a6 (m2 l9 (a8 5) (mC (.int 2))) (a6 (a8 4) b9))))))))))))
def a1e:Nat->(Λ)
 |0=>(k4 3 (λ_=>ζ))
 |n+1=>(k4 3 (a46 ((a1e n))))
def a3U(n:Nat):Λ:=(a1e n)
def M3:Λ:=a3U 26
def b0I:MS:=
 (i8 (p7 3 (f7 L3 (a6 (a8 0) (a6 (a8 1) b9))))
 (t6 (a2B 3 (f7 M3 (a6 (a8 0) (a6 (a8 3) (a6 (a8 2) (a6 (mC (.int 0)) (a6 (m1 y9 (a8 0)) b9)))))))))
def Z8:Λ:=k4 1 b0I
def a5J:M:=
 (O2 (a6 (a8 2) (a6 (mC (.int 1)) b9)))
def b4M:MS:=
 (i8 (p7 1 (m1 b3H (a30 1 (a7f (a8 0)) (g9 2) a5a a5J)))
 (t6 (a5O 1 (f7 Z8 (a6 (a8 0) (a6 (a8 1) (a6 (mC (A6 "run_of")) b9)))))))
def V0:Λ:=k4 1 b4M
def b2w:MS:=
 (t6 (O2 (a6 (mC (.str "rows")) (a6 (a8 1) (a6 (f7 V0 (a6 (a8 0) b9)) b9)))))
def a16:Λ:=k4 0 b2w
def a3F(K7:Λ):MS:=
 (i8 (p7 5 (a2A 1 (a6 (a8 3) (a6 (a8 4) b9))))
 (i8 (v5 (G2 (m2 X5 (m2 l9 (a8 5) (mC (.int 1))) (mC (.str "alike")))) (t6 (a1E (a6 (a2z [("rows_of",a16)] 2 (a6 (m2 l9 (a8 0) (a8 3)) (a6 (m2 (gI λi j=> .int (i - j)) (a8 4) (a8 3)) b9))) b9))) n4)
 (i8 (v5 (G2 (m2 X5 (m2 l9 (a8 5) (mC (.int 1))) (mC (.str "again")))) (i8 (p7 6 (f7 K7 (a6 (a8 0) (a6 (a8 1) (a6 (a8 2) (a6 (a8 3) (a6 (m2 t7 (a8 3) (m2 l9 (a8 5) (mC (.int 2)))) b9)))))))
 (a0b 6 (t6 (a1E (a6 (O2 (a6 (mC (.str "again")) (a6 (m2 Ω (m2 (gI λi j=> .int (i - j)) (a8 4) (a8 3)) (m2 l9 (a8 5) (mC (.int 2)))) (a6 (a8 6) b9)))) b9))))) n4)
 (i8 (p7 7 (f7 K7 (a6 (a8 0) (a6 (a8 1) (a6 (a8 2) (a6 (a8 3) (a6 (m2 l9 (a8 5) (mC (.int 2))) b9)))))))
 (t6 (m2 t7 (a8 7) (f7 K7 (a6 (a8 0) (a6 (a8 1) (a6 (a8 2) (a6 (m2 l9 (a8 5) (mC (.int 2))) (a6 (a8 4) b9))))))))))))
def a0N:Nat->(Λ)
 |0=>(k4 3 (λ_=>ζ))
 |n+1=>(k4 3 (a3F ((a0N n))))
def a23(n:Nat):Λ:=(a0N n)
def K9:Λ:=a23 26
def a9x:MS:=
 (i8 (p7 3 (f7 L3 (a6 (a8 0) (a6 (a8 1) b9))))
 (t6 (a2B 3 (f7 K9 (a6 (a8 0) (a6 (a8 3) (a6 (a8 2) (a6 (mC (.int 0)) (a6 (m1 y9 (a8 0)) b9)))))))))
def U9:Λ:=k4 1 a9x
def a3V(a8O:Λ):MS:=
 (i8 (a3Z 1 (gI λi j=> .int (i+j)) (mC (.int 1)))
 (v5 (G2 (m2 X5 (m2 l9 (a8 2) (mC (.int 0))) (mC (.str "again")))) (a3Z 1 (gI λi j=> .int (i+j)) (f7 a8O (a6 (m2 l9 (a8 2) (mC (.int 2))) b9))) n4))
def b3u(a8O:Λ):MS:=
 (i8 (p7 1 (mC (.int 0)))
 (i8 (X1 (a0c (a8 0)) (g9 2) (a3V a8O))
 (a0J 1)))
def b8A:Nat->(Λ)
 |0=>(k4 2 (λ_=>ζ))
 |n+1=>(k4 2 (b3u ((b8A n))))
def a6r(n:Nat):Λ:=(b8A n)
def a4F:Λ:=a6r 26
def a2y:MS:=
 (v5 (G2 (c1N true 1 (a8 2))) (b8s 1 (a8 2) (m2 t7 (mC (.int 1)) (f7 a4F (a6 (f7 V0 (a6 (a8 2) b9)) b9)))) n4)
def b7M:MS:=
 (i8 (p7 1 c5O)
 (i8 (X1 (a0c (a8 0)) (g9 2) a2y)
 (t6 (a5O 1 (f7 U9 (a6 (a8 0) (a6 (a8 1) (a6 (mC (A6 "rows_of")) b9))))))))
def Y8:Λ:=k4 2 b7M
def N8(a0Y:Λ):MS:=
 (v5 (G2 (m2 X5 (m2 l9 (a8 2) (mC (.int 0))) (mC (.str "again")))) (p7 1 (m2 t7 (a8 1) (f7 a0Y (a6 (m2 l9 (a8 2) (mC (.int 2))) b9)))) n4)
def a4q(a0Y:Λ):MS:=
 (i8 (p7 1 (m1 y9 (a8 0)))
 (i8 (X1 (a0c (a8 0)) (g9 2) (N8 a0Y))
 (a0J 1)))
def a9Q:Nat->(Λ)
 |0=>(k4 2 (λ_=>ζ))
 |n+1=>(k4 2 (a4q ((a9Q n))))
def a1C(n:Nat):Λ:=(a9Q n)
def a69:Λ:=a1C 26
def a0E(a0g:Λ):MS:=
 (v5 (G2 (m2 X5 (m2 l9 (a8 2) (mC (.int 0))) (mC (.str "rows")))) (p7 1 (m2 t7 (a8 1) (f7 a69 (a6 (m2 l9 (a8 2) (mC (.int 2))) b9)))) (p7 1 (m2 t7 (a8 1) (f7 a0g (a6 (m2 l9 (a8 2) (mC (.int 2))) b9)))))
def a2V(a0g:Λ):MS:=
 (i8 (p7 1 (m1 y9 (a8 0)))
 (i8 (X1 (a0c (a8 0)) (g9 2) (a0E a0g))
 (a0J 1)))
def a8q:Nat->(Λ)
 |0=>(k4 2 (λ_=>ζ))
 |n+1=>(k4 2 (a2V ((a8q n))))
def a0z(n:Nat):Λ:=(a8q n)
def N1:Λ:=a0z 26
def l0:Str->Bool:=λz=>decide (z="again")||decide (z="rows")
def a5n:MS:=
 (t6 (c1K (m1 (a3o "int") (a8 0)) (c1K (c5N (m1 (a3o "bool") (a8 0))) (m2 (gI λi j=> .bool (decide (j<=i))) (a8 0) (a8 1)))))
def L4:Λ:=k4 0 a5n
def P0(S0:Λ):MS:=
 (i8 (v5 (a0K (P7 (mtV (m1 (a3o "tuple") (a8 1)))) (G2 (m2 gNe (m1 y9 (a8 1)) (mC (.int 3))))) (t6 (mC (.bool false))) n4)
 (v5 (G2 (m2 X5 (m2 l9 (a8 1) (mC (.int 0))) (mC (.str "run")))) (v5 (a0K (P7 (mtV (m1 (a3o "str") (m2 l9 (a8 1) (mC (.int 1)))))) (a0K (G2 (m2 gNe (m1 y9 (m2 l9 (a8 1) (mC (.int 1)))) (mC (.int 1)))) (P7 (mtV (f7 L4 (a6 (m2 l9 (a8 1) (mC (.int 2))) (a6 (mC (.int 1)) b9))))))) (t6 (mC (.bool false))) n4) (v5 (a0K (G2 (m2 gNe (m2 l9 (a8 1) (mC (.int 0))) (mC (.str "again")))) (a0K (P7 (mtV (f7 L4 (a6 (m2 l9 (a8 1) (mC (.int 1))) (a6 (mC (.int 2)) b9))))) (P7 (mtV (f7 S0 (a6 (m2 l9 (a8 1) (mC (.int 2))) b9)))))) (t6 (mC (.bool false))) n4)))
def a1n(S0:Λ):MS:=
 (i8 (v5 (a0K (P7 (mtV (m1 (a3o "list") (a8 0)))) (G2 (m2 X5 (a8 0) (a1E b9)))) (t6 (mC (.bool false))) n4)
 (i8 (X1 (a0c (a8 0)) (g9 1) (P0 S0))
 (t6 (mC (.bool true)))))
def a5R:Nat->(Λ)
 |0=>(k4 1 (λ_=>ζ))
 |n+1=>(k4 1 (a1n ((a5R n))))
def V2(n:Nat):Λ:=(a5R n)
def a3p:Λ:=V2 26
def O4(K6:Λ):MS:=
 (i8 (v5 (a0K (P7 (mtV (m1 (a3o "tuple") (a8 1)))) (G2 (m2 gNe (m1 y9 (a8 1)) (mC (.int 3))))) (t6 (mC (.bool false))) n4)
 (v5 (G2 (m2 X5 (m2 l9 (a8 1) (mC (.int 0))) (mC (.str "rows")))) (v5 (a0K (P7 (mtV (f7 L4 (a6 (m2 l9 (a8 1) (mC (.int 1))) (a6 (mC (.int 1)) b9))))) (P7 (mtV (f7 a3p (a6 (m2 l9 (a8 1) (mC (.int 2))) b9))))) (t6 (mC (.bool false))) n4) (v5 (a0K (G2 (m2 gNe (m2 l9 (a8 1) (mC (.int 0))) (mC (.str "again")))) (a0K (P7 (mtV (f7 L4 (a6 (m2 l9 (a8 1) (mC (.int 1))) (a6 (mC (.int 2)) b9))))) (P7 (mtV (f7 K6 (a6 (m2 l9 (a8 1) (mC (.int 2))) b9)))))) (t6 (mC (.bool false))) n4)))
def W0(K6:Λ):MS:=
 (i8 (v5 (a0K (P7 (mtV (m1 (a3o "list") (a8 0)))) (G2 (m2 X5 (a8 0) (a1E b9)))) (t6 (mC (.bool false))) n4)
 (i8 (X1 (a0c (a8 0)) (g9 1) (O4 K6))
 (t6 (mC (.bool true)))))
def a3a:Nat->(Λ)
 |0=>(k4 1 (λ_=>ζ))
 |n+1=>(k4 1 (W0 ((a3a n))))
def N2(n:Nat):Λ:=(a3a n)
def W2:Λ:=N2 26
def a3s(J4 Zac:Λ):M:=
 (f7 Zac (a6 (a8 1) b9))
def a4s(J4 Zac:Λ):MS:=
 (t6 (m2 T7 (mC (.str "")) (a30 1 (a1Z (a8 0)) (g9 1) a5a (a3s J4 Zac))))
def Y6(J4 Zac:Λ):MS:=
 (i8 (v5 (G2 (m2 X5 (m2 l9 (a8 0) (mC (.int 0))) (mC (.str "run")))) (t6 (m2 Q4 (m2 l9 (a8 0) (mC (.int 1))) (m2 l9 (a8 0) (mC (.int 2))))) n4)
 (t6 (m2 Q4 (f7 J4 (a6 (m2 l9 (a8 0) (mC (.int 2))) b9)) (m2 l9 (a8 0) (mC (.int 1))))))
def a0n:Nat->(Λ)×(Λ)
 |0=>(k4 0 (λ_=>ζ),k4 0 (λ_=>ζ))
 |n+1=>(k4 0 (a4s ((a0n n).1) ((a0n n).2)),k4 0 (Y6 ((a0n n).1) ((a0n n).2)))
def a0k(n:Nat):Λ:=(a0n n).1
def a2u:Λ:=a0k 30
def O9(n:Nat):Λ:=(a0n n).2
def a0F(a15:Λ):MS:=
 (v5 (G2 (m2 X5 (m2 l9 (a8 2) (mC (.int 0))) (mC (.str "rows")))) (a3Z 1 b0Z (m2 a7X (O2 (a6 (f7 a2u (a6 (m2 l9 (a8 2) (mC (.int 2))) b9)) b9)) (m2 l9 (a8 2) (mC (.int 1))))) (a3Z 1 b0Z (m2 a7X (f7 a15 (a6 (m2 l9 (a8 2) (mC (.int 2))) b9)) (m2 l9 (a8 2) (mC (.int 1))))))
def a6h(a15:Λ):MS:=
 (i8 (p7 1 (O2 b9))
 (i8 (X1 (a0c (a8 0)) (g9 2) (a0F a15))
 (a0J 1)))
def b1z:Nat->(Λ)
 |0=>(k4 2 (λ_=>ζ))
 |n+1=>(k4 2 (a6h ((b1z n))))
def a1a(n:Nat):Λ:=(b1z n)
def a6q:Λ:=a1a 6
def D3:MS:=
 (v5 (G2 (m2 X5 (a8 0) (m2 a7X (F9 (a8 0) P6 (A2 (a8 3))) (m2 Ω (m1 y9 (a8 0)) (a8 3))))) (p7 2 (m2 (gI λi j=> .int (if j<i then j else i)) (a8 2) (m2 t7 (mC (.int 1)) (a5M 1 (F9 (a8 0) P6 (A2 (a8 3))))))) n4)
def a02:MS:=
 (i8 (p7 2 (m2 t7 (mC (.int 1)) (a5M 1 (F9 (a8 0) P6 (A2 (mC (.int 1)))))))
 (i8 (v5 (G2 (m2 gNe (a8 0) (m2 a7X (F9 (a8 0) P6 (A2 (mC (.int 1)))) (m1 y9 (a8 0))))) (p7 2 (m2 (gIc b6l λi j=> .int (i ^ j.toNat)) (mC (.int 10)) (mC (.int 6)))) n4)
 (i8 (X1 (a75 (a6 (mC (.int 2)) (a6 (m1 y9 (a8 0)) b9))) (g9 3) D3)
 (a0J 2))))
def E7:Λ:=k4 2 a02
def a2w:MS:=
 (b1i 1 (a6 (a8 2) b9) (m2 t7 (mC (.int 1)) (f7 a4F (a6 (f7 V0 (a6 (a8 2) b9)) b9))))
def a0C:MS:=
 (p7 6 (m2 (gI λi j=> .int (if j<i then j else i)) (a8 6) (m2 t7 (a27 1 (F9 (a8 5) P6 (A2 (a8 7)))) (a27 1 (F9 (a8 5) (A2 (a8 7)) P6)))))
def V3:MS:=
 (i8 (p7 5 (F9 (a8 0) (A2 (a8 4)) (A2 (m2 t7 (a8 4) (a8 3)))))
 (v5 (G2 (a9N true 1 (a8 5))) (i8 (a0b 5 (p7 6 (b0r E7 1 (a8 5))))
 (i8 (v5 (G2 (m2 X5 (a8 5) (m2 Q4 (F9 (a8 5) P6 (A2 (mC (.int 1)))) (a8 3)))) (p7 6 (a27 1 (F9 (a8 5) P6 (A2 (mC (.int 1)))))) n4)
 (i8 (X1 (a75 (a6 (mC (.int 1)) (a6 (a8 3) b9))) (g9 7) a0C)
 (b0s 1 (a8 5) (a8 6))))) n4))
def a2x:MS:=
 (X1 (a0V (a6 (m2 t7 (m2 (gI λi j=> .int (i - j)) (m1 y9 (a8 0)) (a8 3)) (mC (.int 1))) b9)) (g9 4) V3)
def a9A:MS:=
 (i8 (p7 1 b8r)
 (i8 (X1 (a0c (a8 0)) (g9 2) a2w)
 (i8 (X1 (a75 (a6 (mC (.int 2)) (a6 (m2 t7 (m1 y9 (a8 0)) (mC (.int 1))) b9))) (g9 3) a2x)
 (t6 (a27 1 (a8 0))))))
def a1y:Λ:=k4 7 a9A
def a1Y:MS:=
 (a3Z 4 (gI λi j=> .int (i+j)) (mC (.int 1)))
def b2x:MS:=
 (i8 (p7 4 (a8 1))
 (i8 (T3 (a1N (G2 (m2 b3K (a8 4) (m1 y9 (a8 0)))) (G2 (a3t a2s a2s (a8 2) (m2 l9 (a8 0) (a8 4)) (a8 3)))) a1Y 4000)
 (a0J 4)))
def a86:Λ:=k4 1 b2x
def a6P:MS:=
 (t6 (f7 a86 (a6 (a8 0) (a6 (a8 1) (a6 (mC (.str "0")) (a6 (mC (.str "9")) b9))))))
def S3:Λ:=k4 0 a6P
def a9D:MS:=
 (i8 (v5 (a0K (P7 (G2 (a3t a2s a2s (mC (.int 1)) (m1 y9 (a8 0)) (mC a0T)))) (G2 (m2 gNe (f7 S3 (a6 (a8 0) (a6 (mC (.int 0)) b9))) (m1 y9 (a8 0))))) (t6 (mC .none)) n4)
 (i8 (v5 (a1N (G2 (m2 X5 (m2 l9 (a8 0) (mC (.int 0))) (mC (.str "0")))) (G2 (m2 (gI λi j=> .bool (decide (j<i))) (m1 y9 (a8 0)) (mC (.int 1))))) (t6 (mC .none)) n4)
 (t6 (m1 b8a (a8 0)))))
def a21:Λ:=k4 0 a9D
def a3E:MS:=
 (i8 (p7 3 (f7 a21 (a6 (a8 0) b9)))
 (i8 (v5 (a0K (G2 (m2 (a1U false) (a8 3) (mC .none))) (P7 (G2 (a3t a2s a2s (a8 1) (a8 3) (a8 2))))) (t6 (mC .none)) n4)
 (a0J 3)))
def W3:Λ:=k4 1 a3E
def a6Y:MS:=
 (i8 (p7 2 (f7 S3 (a6 (a8 0) (a6 (a8 1) b9))))
 (i8 (v5 (G2 (m2 X5 (a8 2) (a8 1))) (t6 (O2 (a6 (mC (.int 1)) (a6 (a8 2) b9)))) n4)
 (i8 (p7 3 (f7 W3 (a6 (F9 (a8 0) (A2 (a8 1)) (A2 (a8 2))) (a6 (mC (.int 2)) (a6 (mC S8) b9)))))
 (i8 (v5 (G2 (m2 (a1U false) (a8 3) (mC .none))) (t6 (mC .none)) n4)
 (t6 (O2 (a6 (a8 3) (a6 (a8 2) b9))))))))
def L6:Λ:=k4 2 a6Y
def a2g(Zae o9 A4:Λ):MS:=
 (i8 (v5 (G2 (m2 X5 (a8 2) (mC (.int 0)))) (t6 (mC .none)) n4)
 (i8 (p7 5 (f7 A4 (a6 (a8 0) (a6 (a8 1) (a6 (m2 (gI λi j=> .int (i - j)) (a8 2) (mC (.int 1))) (a6 (a8 3) b9))))))
 (i8 (v5 (a0K (G2 (m2 (a1U false) (a8 5) (mC .none))) (P7 (mtV (m3 M9 (a8 0) (a8 4) (m2 l9 (a8 5) (mC (.int 1))))))) (t6 (mC .none)) n4)
 (i8 (p7 6 (f7 L6 (a6 (a8 0) (a6 (m2 t7 (m2 l9 (a8 5) (mC (.int 1))) (mC (.int 1))) b9))))
 (i8 (v5 (a0K (G2 (m2 (a1U false) (a8 6) (mC .none))) (G2 (m2 X5 (m2 l9 (a8 6) (mC (.int 0))) (mC (.int 1))))) (t6 (mC .none)) n4)
 (t6 (O2 (a6 (O2 (a6 (mC (.str "again")) (a6 (m2 l9 (a8 6) (mC (.int 0))) (a6 (m2 l9 (a8 5) (mC (.int 0))) b9)))) (a6 (m2 l9 (a8 6) (mC (.int 1))) b9)))))))))
def G5(Zae o9 A4:Λ):MS:=
 (i8 (v5 (mtV (m3 M9 (a8 0) (mC (.str "(")) (a8 1))) (t6 (f7 Zae (a6 (a8 0) (a6 (m2 t7 (a8 1) (mC (.int 1))) (a6 (a8 2) (a6 (mC (A6 "fold_part_at")) (a6 (mC (.str ")")) b9))))))) n4)
 (i8 (v5 (P7 (G2 (a3t a2s a2s (mC (.str "a")) (F9 (a8 0) (A2 (a8 1)) (A2 (m2 t7 (a8 1) (mC (.int 1))))) (mC (.str "z"))))) (t6 (mC .none)) n4)
 (i8 (p7 3 (f7 L6 (a6 (a8 0) (a6 (m2 t7 (a8 1) (mC (.int 1))) b9))))
 (i8 (v5 (G2 (m2 (a1U false) (a8 3) (mC .none))) (t6 (mC .none)) n4)
 (t6 (O2 (a6 (f7 a1A (a6 (m2 l9 (a8 0) (a8 1)) (a6 (m2 l9 (a8 3) (mC (.int 0))) b9))) (a6 (m2 l9 (a8 3) (mC (.int 1))) b9))))))))
def b2a(Zae o9 A4:Λ):MS:=
 (i8 (p7 5 (a2z [("fold_part_at",o9)] 3 (a6 (a8 0) (a6 (a8 1) (a6 (a8 2) b9)))))
 (i8 (v5 (G2 (m2 (a1U false) (a8 5) (mC .none))) (t6 (mC .none)) n4)
 (i8 (D6 4 (m2 l9 (a8 5) (mC (.int 0))))
 (i8 (v5 (P7 (mtV (m3 M9 (a8 0) (mC (.str " ")) (m2 l9 (a8 5) (mC (.int 1)))))) (a0b 4 (t6 (O2 (a6 (a8 4) (a6 (m2 l9 (a8 5) (mC (.int 1))) b9))))) n4)
 (p7 1 (m2 t7 (m2 l9 (a8 5) (mC (.int 1))) (mC (.int 1))))))))
def b0K(Zae o9 A4:Λ):MS:=
 (i8 (p7 4 (a1E b9))
 (T3 (mtV (mC (.bool true))) (b2a Zae o9 A4) 4000))
def D5:Nat->(Λ)×(Λ)×(Λ)
 |0=>(k4 2 (λ_=>ζ),k4 1 (λ_=>ζ),k4 2 (λ_=>ζ))
 |n+1=>(k4 2 (a2g ((D5 n).1) ((D5 n).2.1) ((D5 n).2.2)),k4 1 (G5 ((D5 n).1) ((D5 n).2.1) ((D5 n).2.2)),k4 2 (b0K ((D5 n).1) ((D5 n).2.1) ((D5 n).2.2)))
def a22(n:Nat):Λ:=(D5 n).1
def M4(n:Nat):Λ:=(D5 n).2.1
def b02:Λ:=M4 42
def a0j(n:Nat):Λ:=(D5 n).2.2
def a7b:Λ:=a0j 42
def X9(a0X:Λ):MS:=
 (v5 (G2 (m2 X5 (m2 l9 (a8 2) (mC (.int 0))) (mC (.str "run")))) (a3Z 1 (gI λi j=> .int (i+j)) (m2 l9 (a8 2) (mC (.int 2)))) (a3Z 1 (gI λi j=> .int (i+j)) (m2 Q4 (m2 l9 (a8 2) (mC (.int 1))) (f7 a0X (a6 (m2 l9 (a8 2) (mC (.int 2))) b9)))))
def a4p(a0X:Λ):MS:=
 (i8 (p7 1 (mC (.int 0)))
 (i8 (X1 (a0c (a8 0)) (g9 2) (X9 a0X))
 (a0J 1)))
def a9P:Nat->(Λ)
 |0=>(k4 2 (λ_=>ζ))
 |n+1=>(k4 2 (a4p ((a9P n))))
def a1B(n:Nat):Λ:=(a9P n)
def a68:Λ:=a1B 16
def a9F:MX:=
 (a76 (b68 (P7 (mtV (m1 (a3o "str") (a8 0)))) (b9Q "NoFold" (a6 (mC (.str "what is no text writes no fold")) b9)) (a6J n4))
 (a76 (a6J (p7 1 (f7 a7b (a6 (a8 0) (a6 (mC (.int 0)) (a6 (mC O0) (a6 (mC (A6 "fold_part_at")) b9)))))))
 (a76 (b68 (a0K (G2 (m2 (a1U false) (a8 1) (mC .none))) (a0K (G2 (m2 gNe (m2 l9 (a8 1) (mC (.int 1))) (m1 y9 (a8 0)))) (G2 (m2 (gI λi j=> .bool (decide (j<i))) (f7 a68 (a6 (m2 l9 (a8 1) (mC (.int 0))) b9)) (mC S8))))) (b9Q "NoFold" (a6 (mC (.str "the text writes no fold of a line")) b9)) (a6J n4))
 (a6J (t6 (m2 l9 (a8 1) (mC (.int 0))))))))
def a1z:List PV->Υ (d4 ⊕ XT):=c0a 1 a9F
def b2v:MS:=
 (i8 (p7 2 (m3 b2N (a8 0) (mC (.str "]")) (a8 1)))
 (i8 (v5 (G2 (m2 b3K (a8 2) (mC (.int 0)))) (t6 (mC .none)) n4)
 (i8 (b9L (b22 3 a1z (a6 (F9 (a8 0) (A2 (a8 1)) (A2 (a8 2))) b9)) (inL ["NoFold"]) (t6 (mC .none)))
 (i8 (p7 4 (f7 L6 (a6 (a8 0) (a6 (m2 t7 (a8 2) (mC (.int 1))) b9))))
 (i8 (v5 (G2 (m2 (a1U false) (a8 4) (mC .none))) (t6 (mC .none)) n4)
 (t6 (O2 (a6 (O2 (a6 (mC (.str "rows")) (a6 (m2 l9 (a8 4) (mC (.int 0))) (a6 (a8 3) b9)))) (a6 (m2 l9 (a8 4) (mC (.int 1))) b9)))))))))
def a6p:Λ:=k4 3 b2v
def a9w(Zad w8 l8:Λ):MS:=
 (i8 (v5 (G2 (m2 X5 (a8 2) (mC (.int 0)))) (t6 (mC .none)) n4)
 (i8 (p7 5 (f7 w8 (a6 (a8 0) (a6 (a8 1) (a6 (m2 (gI λi j=> .int (i - j)) (a8 2) (mC (.int 1))) (a6 (a8 3) b9))))))
 (i8 (v5 (a0K (G2 (m2 (a1U false) (a8 5) (mC .none))) (P7 (mtV (m3 M9 (a8 0) (a8 4) (m2 l9 (a8 5) (mC (.int 1))))))) (t6 (mC .none)) n4)
 (i8 (p7 6 (f7 L6 (a6 (a8 0) (a6 (m2 t7 (m2 l9 (a8 5) (mC (.int 1))) (mC (.int 1))) b9))))
 (i8 (v5 (a0K (G2 (m2 (a1U false) (a8 6) (mC .none))) (G2 (m2 X5 (m2 l9 (a8 6) (mC (.int 0))) (mC (.int 1))))) (t6 (mC .none)) n4)
 (t6 (O2 (a6 (O2 (a6 (mC (.str "again")) (a6 (m2 l9 (a8 6) (mC (.int 0))) (a6 (m2 l9 (a8 5) (mC (.int 0))) b9)))) (a6 (m2 l9 (a8 6) (mC (.int 1))) b9)))))))))
def b1b(Zad w8 l8:Λ):MS:=
 (i8 (p7 5 (a2z [("weaving_part_at",l8)] 3 (a6 (a8 0) (a6 (a8 1) (a6 (a8 2) b9)))))
 (i8 (v5 (G2 (m2 (a1U false) (a8 5) (mC .none))) (t6 (mC .none)) n4)
 (i8 (D6 4 (m2 l9 (a8 5) (mC (.int 0))))
 (i8 (v5 (P7 (mtV (m3 M9 (a8 0) (mC (.str " ")) (m2 l9 (a8 5) (mC (.int 1)))))) (a0b 4 (t6 (O2 (a6 (a8 4) (a6 (m2 l9 (a8 5) (mC (.int 1))) b9))))) n4)
 (p7 1 (m2 t7 (m2 l9 (a8 5) (mC (.int 1))) (mC (.int 1))))))))
def a9E(Zad w8 l8:Λ):MS:=
 (i8 (p7 4 (a1E b9))
 (T3 (mtV (mC (.bool true))) (b1b Zad w8 l8) 4000))
def I0(Zad w8 l8:Λ):MS:=
 (i8 (v5 (mtV (m3 M9 (a8 0) (mC (.str "{")) (a8 1))) (t6 (f7 Zad (a6 (a8 0) (a6 (m2 t7 (a8 1) (mC (.int 1))) (a6 (a8 2) (a6 (mC (A6 "weaving_part_at")) (a6 (mC (.str "}")) b9))))))) n4)
 (i8 (v5 (mtV (m3 M9 (a8 0) (mC (.str "[")) (a8 1))) (t6 (f7 a6p (a6 (a8 0) (a6 (m2 t7 (a8 1) (mC (.int 1))) b9)))) n4)
 (t6 (mC .none))))
def B0:Nat->(Λ)×(Λ)×(Λ)
 |0=>(k4 2 (λ_=>ζ),k4 2 (λ_=>ζ),k4 0 (λ_=>ζ))
 |n+1=>(k4 2 (a9w ((B0 n).1) ((B0 n).2.1) ((B0 n).2.2)),k4 2 (a9E ((B0 n).1) ((B0 n).2.1) ((B0 n).2.2)),k4 0 (I0 ((B0 n).1) ((B0 n).2.1) ((B0 n).2.2)))
def a1V(n:Nat):Λ:=(B0 n).1
def W4(n:Nat):Λ:=(B0 n).2.1
def a5C:Λ:=W4 42
def E8(n:Nat):Λ:=(B0 n).2.2
def a7Y:Λ:=E8 42
def a1X(a14:Λ):MS:=
 (v5 (G2 (m2 X5 (m2 l9 (a8 2) (mC (.int 0))) (mC (.str "rows")))) (a3Z 1 (gI λi j=> .int (i+j)) (m2 l9 (a8 2) (mC (.int 1)))) (a3Z 1 (gI λi j=> .int (i+j)) (m2 Q4 (m2 l9 (a8 2) (mC (.int 1))) (f7 a14 (a6 (m2 l9 (a8 2) (mC (.int 2))) b9)))))
def a6g(a14:Λ):MS:=
 (i8 (p7 1 (mC (.int 0)))
 (i8 (X1 (a0c (a8 0)) (g9 2) (a1X a14))
 (a0J 1)))
def b1y:Nat->(Λ)
 |0=>(k4 2 (λ_=>ζ))
 |n+1=>(k4 2 (a6g ((b1y n))))
def a2v(n:Nat):Λ:=(b1y n)
def a85:Λ:=a2v 16
def R7(V9:Λ):MS:=
 (v5 (G2 (m2 X5 (m2 l9 (a8 2) (mC (.int 0))) (mC (.str "rows")))) (D6 1 (m1 y9 (f7 a2u (a6 (m2 l9 (a8 2) (mC (.int 2))) b9)))) (b0t 1 (f7 V9 (a6 (m2 l9 (a8 2) (mC (.int 2))) b9))))
def a1Q(V9:Λ):MS:=
 (i8 (p7 1 (a1E b9))
 (i8 (X1 (a0c (a8 0)) (g9 2) (R7 V9))
 (a0J 1)))
def a6T:Nat->(Λ)
 |0=>(k4 2 (λ_=>ζ))
 |n+1=>(k4 2 (a1Q ((a6T n))))
def S5(n:Nat):Λ:=(a6T n)
def a4G:Λ:=S5 16
def a5o:MX:=
 (a76 (b68 (P7 (mtV (m1 (a3o "str") (a8 0)))) (b9Q "NoWeaving" (a6 (mC (.str "what is no text writes no weaving")) b9)) (a6J n4))
 (a76 (a6J (p7 1 (f7 a5C (a6 (a8 0) (a6 (mC (.int 0)) (a6 (mC O0) (a6 (mC (A6 "weaving_part_at")) b9)))))))
 (a76 (b68 (a0K (G2 (m2 (a1U false) (a8 1) (mC .none))) (G2 (m2 gNe (m2 l9 (a8 1) (mC (.int 1))) (m1 y9 (a8 0))))) (b9Q "NoWeaving" (a6 (mC (.str "the text writes no weaving")) b9)) (a6J n4))
 (a76 (b68 (a0K (G2 (m2 (gI λi j=> .bool (decide (j<i))) (f7 a85 (a6 (m2 l9 (a8 1) (mC (.int 0))) b9)) (mC S8))) (G2 (m2 gNe (m1 a7W (f7 a4G (a6 (m2 l9 (a8 1) (mC (.int 0))) b9))) (mC (.int 1))))) (b9Q "NoWeaving" (a6 (mC (.str "the text writes a weaving of no cloth")) b9)) (a6J n4))
 (a6J (t6 (m2 l9 (a8 1) (mC (.int 0)))))))))
def V1:List PV->Υ (d4 ⊕ XT):=c0a 1 a5o
def a47:MS:=
 (i8 (v5 (G2 (m2 X5 (a8 0) (mC (.int 1)))) (t6 (mC (.str ""))) n4)
 (t6 (m1 b9u (a8 0))))
def R5:Λ:=k4 0 a47
def a1H(A8 Zab:Λ):M:=
 (f7 Zab (a6 (a8 1) b9))
def a1R(A8 Zab:Λ):MS:=
 (t6 (m2 T7 (mC (.str " ")) (a30 1 (a1Z (a8 0)) (g9 1) a5a (a1H A8 Zab))))
def Q6(A8 Zab:Λ):MS:=
 (i8 (v5 (G2 (m2 X5 (m2 l9 (a8 0) (mC (.int 0))) (mC (.str "run")))) (t6 (m2 t7 (m2 l9 (a8 0) (mC (.int 1))) (f7 R5 (a6 (m2 l9 (a8 0) (mC (.int 2))) b9)))) n4)
 (t6 (m2 t7 (m2 t7 (m2 t7 (mC (.str "(")) (f7 A8 (a6 (m2 l9 (a8 0) (mC (.int 2))) b9))) (mC (.str ")"))) (m1 b9u (m2 l9 (a8 0) (mC (.int 1)))))))
def S7:Nat->(Λ)×(Λ)
 |0=>(k4 0 (λ_=>ζ),k4 0 (λ_=>ζ))
 |n+1=>(k4 0 (a1R ((S7 n).1) ((S7 n).2)),k4 0 (Q6 ((S7 n).1) ((S7 n).2)))
def S6(n:Nat):Λ:=(S7 n).1
def a4H:Λ:=S6 30
def K1(n:Nat):Λ:=(S7 n).2
def L9(Zaa u6:Λ):MS:=
 (i8 (v5 (G2 (m2 X5 (m2 l9 (a8 0) (mC (.int 0))) (mC (.str "rows")))) (t6 (m2 t7 (m2 t7 (m2 t7 (mC (.str "[")) (f7 a4H (a6 (m2 l9 (a8 0) (mC (.int 2))) b9))) (mC (.str "]"))) (f7 R5 (a6 (m2 l9 (a8 0) (mC (.int 1))) b9)))) n4)
 (t6 (m2 t7 (m2 t7 (m2 t7 (mC (.str "{")) (f7 u6 (a6 (m2 l9 (a8 0) (mC (.int 2))) b9))) (mC (.str "}"))) (m1 b9u (m2 l9 (a8 0) (mC (.int 1)))))))
def a0a(Zaa u6:Λ):M:=
 (f7 Zaa (a6 (a8 1) b9))
def Y5(Zaa u6:Λ):MS:=
 (t6 (m2 T7 (mC (.str " ")) (a30 1 (a1Z (a8 0)) (g9 1) a5a (a0a Zaa u6))))
def A3:Nat->(Λ)×(Λ)
 |0=>(k4 0 (λ_=>ζ),k4 0 (λ_=>ζ))
 |n+1=>(k4 0 (L9 ((A3 n).1) ((A3 n).2)),k4 0 (Y5 ((A3 n).1) ((A3 n).2)))
def C6(n:Nat):Λ:=(A3 n).1
def L0(n:Nat):Λ:=(A3 n).2
def Y7:Λ:=L0 30
def a5I:MS:=
 (i8 (v5 (a0K (P7 (mtV (f7 W2 (a6 (a8 4) b9)))) (a0K (G2 (m2 gNe (f7 C1 (a6 (a8 4) b9)) (a8 3))) (G2 (m2 gNe (f7 a6q (a6 (a8 4) b9)) (a8 3))))) (t6 (mC (.bool false))) n4)
 (i8 (p7 5 (f7 N1 (a6 (a8 4) b9)))
 (i8 (v5 (G2 (m2 (gI λi j=> .bool (decide (j<i))) (a8 5) (f7 N1 (a6 (a8 2) b9)))) (t6 (mC (.bool false))) n4)
 (i8 (v5 (a1N (G2 (m2 a2s (m1 y9 (a8 3)) (mC (.int 8)))) (G2 (m2 gNe (a8 5) (f7 a1y (a6 (a8 3) b9))))) (t6 (mC (.bool false))) n4)
 (i8 (v5 (a1N (G2 (m2 a2s (m1 y9 (a8 3)) (mC (.int 8)))) (G2 (m2 (gI λi j=> .bool (decide (j<i))) (f7 N1 (a6 (f7 Y8 (a6 (m2 t7 (a8 3) (a8 3)) b9)) b9)) (m2 t7 (a8 5) (mC (.int 1)))))) (t6 (mC (.bool false))) n4)
 (i8 (v5 (G2 (m2 gNe (f7 C1 (a6 (f7 (left V1) (a6 (f7 Y7 (a6 (a8 4) b9)) b9)) b9)) (a8 3))) (t6 (mC (.bool false))) n4)
 n4))))))
def a70:MS:=
 (i8 (p7 2 (f7 a20 (a6 (a8 0) (a6 (m2 Q4 (mC (.int 40)) (a8 1)) b9))))
 (i8 (p7 3 (f7 C1 (a6 (a8 2) b9)))
 (a0b 2 (b5u l0 26 4 [3] [0,1,2,3,6] [5] (f7 Y8 (a6 (a8 3) b9)) a5I
 (i8 (p7 6 (f7 Y8 (a6 (a8 3) b9)))
 (a0b 6 (v5 (a0K (P7 (mtV (f7 W2 (a6 (a8 6) b9)))) (a0K (G2 (m2 gNe (f7 C1 (a6 (a8 6) b9)) (a8 3))) (G2 (m2 gNe (f7 N1 (a6 (a8 6) b9)) (a8 5))))) (t6 (mC (.bool false))) n4)))))))
def c4S:MS:=
 (i8 (X1 (a0V (a6 (mC (.int 2)) b9)) (g9 1) a70)
 (t6 (mC (.bool true))))
def c1l:Λ:=k4 6 c4S
set_option maxHeartbeats 1000000
theorem b59:∀(l:List Nat) (g:Nat->Nat),((l.map λc=>[g c]).map (·.length)).sum=l.length
 |[],_=>rfl
 |a::l,g=>by
  have:=b59 l g;simp only [AG,AU,Ad,List.sum_cons] at this ⊢
  lia
theorem b9v(l:List Nat)(g:Nat->Nat):a09 [] (l.map λc=>[g c])=l.map g:=by
 rw [b5e];have:(l.map λc=>[g c])=((l.map g).map λc=>[c]):=by rw [Ay];rfl
 rw [this,a9L]
theorem b6S{k:Nat}(hk:k<=10000)(g:Nat->Nat):T7 (.v (.str (S []))) (.own ((Ab k).map λj=>row [g j]))=φ (row ((Ab k).map g)):=by
 rw [a66 (rows:=(Ab k).map λj=>[g j]),b9v]
 ·show ξ _=ξ _;rw [Ay];rfl
 ·rw [b59,Ax,AZ,Ax];simp only [Ad];lia
inductive Pa where
 |run (c k:Nat)
 |again (k:Nat) (ps:List Pa)
abbrev a6M:PV:= .str (AQ "run")
abbrev C9:PV:= .str (AQ "again")
mutual
def E2:Pa->PV
 | .run c k=> .tuple [a6M,row [c],.int (k:Nat)]
 | .again k ps=> .tuple [C9,.int (k:Nat),.list (x8 ps)]
def x8:List Pa->List PV
 |[]=>[]
 |p::ps=>E2 p::x8 ps
end
mutual
def unP:Pa->List Nat
 | .run c k=>(Ab k).map λ_=>c
 | .again k ps=>((Ab k).map λ_=>B3 ps).flatten
def B3:List Pa->List Nat
 |[]=>[]
 |p::ps=>unP p++B3 ps
end
mutual
def dpP:Pa->Nat
 | .run _ _=>0
 | .again _ ps=>dpL ps+1
def dpL:List Pa->Nat
 |[]=>0
 |p::ps=>max (dpP p) (dpL ps)
end
mutual
def okP:Pa->Prop
 | .run c k=>1<=k/\k<=24/\(97<=c/\c<=122)
 | .again k ps=>2<=k/\k<=24/\ps≠[]/\okL ps
def okL:List Pa->Prop
 |[]=>True
 |p::ps=>okP p/\okL ps
end
theorem a6t:∀{ps:List Pa} {p:Pa},okL ps->p∈ps->okP p
 |q::ps,p,h,hp=>by
  rcases An.mp hp with e|hp
  ·rw [e];exact h.1
  ·exact a6t h.2 hp
theorem a64:∀{ps:List Pa} {p:Pa},p∈ps->dpP p<=dpL ps
 |q::ps,p,hp=>by
  rw [dpL];rcases An.mp hp with e|hp
  ·rw [e];exact Nat.le_max_left _ _
  ·exact Nat.le_trans (a64 hp) (Nat.le_max_right _ _)
theorem b4v:∀{ps:List Pa} {p:Pa},p∈ps->(unP p).length<=(B3 ps).length
 |q::ps,p,hp=>by
  rw [B3,AW];rcases An.mp hp with e|hp
  ·rw [e];lia
  ·have:=b4v hp
   lia
theorem Z7{α:Type}(l:List α):∀k:Nat,(((Ab k).map λ_=>l).flatten).length=k*l.length
 |0=>by simp
 |k+1=>by
  rw [List.range_succ,Ao,List.flatten_append,AW,Z7 l k,Nat.succ_mul];simp
theorem a1F(k:Nat)(ps:List Pa):(unP (.again k ps)).length=k*(B3 ps).length:=by rw [unP,Z7]
theorem a43(c k:Nat):(unP (.run c k)).length=k:=by rw [unP];simp
theorem b6f{k:Nat}{qs ps:List Pa}(h:okL ps)(hp:Pa.again k qs∈ps):okL qs/\qs≠[]/\2<=k/\k<=24/\k*(B3 qs).length<=(B3 ps).length/\(B3 qs).length<=(B3 ps).length/\dpL qs<dpL ps:=by
 obtain⟨h1,h2,h3,h4⟩:=a6t h hp;have e:=b4v hp;rw [a1F] at e;have d:=a64 hp;rw [dpP] at d;refine⟨h4,h3,h1,h2,e, ?_,by lia⟩
 have:1*(B3 qs).length<=k*(B3 qs).length:=Nat.mul_le_mul_right _ (by lia)
 lia
mutual
theorem c2W:∀{p:Pa},okP p->0<(unP p).length
 | .run c k,h=>by rw [a43];exact h.1
 | .again k ps,h=>by
   rw [a1F];exact Nat.mul_pos (by have:=h.1;lia) (a6E h.2.2.1 h.2.2.2)
theorem a6E:∀{ps:List Pa},ps≠[]->okL ps->0<(B3 ps).length
 |[],h,_=>absurd rfl h
 |p::ps,_,h=>by
  rw [B3,AW];have:=c2W h.1
  lia
end
theorem a8G:∀{ps:List Pa},okL ps->ps.length<=(B3 ps).length
 |[],_=>AN _
 |p::ps,h=>by
  have:=c2W h.1;have:=a8G h.2;rw [B3,AW,AU]
  lia
theorem a6S(p:Pa):(∃c k,p= .run c k/\E2 p= .tuple [a6M,row [c],.int (k:Nat)])\/∃k qs,p= .again k qs/\E2 p= .tuple [C9,.int (k:Nat),.list (x8 qs)]:=by
 cases p with
 |run c k=>exact .inl ⟨c,k,rfl,by rw [E2]⟩
 |again k qs=>exact .inr ⟨k,qs,rfl,by rw [E2]⟩
theorem c0X:X5 (.v a6M) (.v a6M)=φ (.bool true):=by rfl
theorem c0W:X5 (.v C9) (.v a6M)=φ (.bool false):=by rfl
theorem c6Y:X5 (.v C9) (.v C9)=φ (.bool true):=by rfl
theorem c6Z:X5 (.v a6M) (.v C9)=φ (.bool false):=by rfl
def dg(k:Nat):List Nat:=if k<10 then [48+k] else [48+k / 10,48+k % 10]
theorem a4w(k:Nat):1<=(dg k).length/\(dg k).length<=2:=by unfold dg;split<;>simp
def wt(k:Nat):List Nat:=if k=1 then [] else dg k
theorem b4w(k:Nat):(wt k).length<=2:=by
 unfold wt;split
 ·simp
 ·exact(a4w k).2
mutual
def shP:Pa->List Nat
 | .run c k=>c::wt k
 | .again k ps=>40::(a09 [32] (shW ps)++41::dg k)
def shW:List Pa->List (List Nat)
 |[]=>[]
 |p::ps=>shP p::shW ps
end
theorem b8J:∀ps:List Pa,shW ps=ps.map shP
 |[]=>by rw [shW];rfl
 |p::ps=>by rw [shW,AG,b8J ps]
def shL(ps:List Pa):List Nat:=a09 [32] (ps.map shP)
theorem b4p(c k:Nat):shP (.run c k)=c::wt k:=by rw [shP]
theorem a2M(k:Nat)(ps:List Pa):shP (.again k ps)=40::(shL ps++41::dg k):=by rw [shP,b8J];rfl
theorem a5D:∀ls:List (List Nat),(a09 [32] ls).length<=(ls.map λl=>l.length+1).sum
 |[]=>AN _
 |[x]=>by simp [a09]
 |x::y::r=>by
  have:=a5D (y::r);simp only [a09,AW,AU,Ad,AG,List.sum_cons] at this ⊢
  lia
mutual
theorem b8G:∀{p:Pa},okP p->(shP p).length+1<=5*(unP p).length
 | .run c k,h=>by
   rw [b4p,a43,AU];have:=b4w k;have:=h.1
   lia
 | .again k ps,h=>by
   rw [a2M,a1F,AU,AW,AU];have h1:=b0w h.2.2.2;have h2:=a5D (ps.map shP);rw [Ay] at h2;have h3:=(a4w k).2;have h4:=a6E h.2.2.1 h.2.2.2;have h5:2*(B3 ps).length<=k*(B3 ps).length:=Nat.mul_le_mul_right _ h.1;show(a09 [32] (ps.map shP)).length+_+1+1<=_;have h6:(ps.map ((λl=>l.length+1)∘shP)).sum=(ps.map λp=>(shP p).length+1).sum:=rfl
   lia
theorem b0w:∀{ps:List Pa},okL ps->(ps.map λp=>(shP p).length+1).sum<=5*(B3 ps).length
 |[],_=>by simp
 |p::ps,h=>by
  have h1:=b8G h.1;have h2:=b0w h.2;rw [AG,List.sum_cons,B3,AW]
  lia
end
theorem b8F{ps:List Pa}(h:okL ps):(shL ps).length<=5*(B3 ps).length:=by
 have h1:=b0w h;have h2:=a5D (ps.map shP);rw [Ay] at h2;have h6:(ps.map ((λl=>l.length+1)∘shP)).sum=(ps.map λp=>(shP p).length+1).sum:=rfl;unfold shL
 lia
def isD(x:Nat):Prop:=48<=x/\x<=57
theorem c3S(a b:Nat):a2s (.v (row [a])) (.v (row [b]))=φ (.bool (decide (a<=b))):=by
 show ξ (d4.v (.bool (!decide ((S [b]).cps.toList<(S [a]).cps.toList))))=_;rw [a7A,a7A]
 congr 3
 have:([b]<[a])↔b<a:=by rw [List.cons_lt_cons_iff];simp
 by_cases h:a<=b
 ·rw [decide_eq_true h,decide_eq_false (λz=>by have:=this.mp z;lia)];rfl
 ·rw [decide_eq_false h,decide_eq_true (this.mpr (by lia))];rfl
theorem a8D{pre r:List Nat}{x:Nat}(hl:(pre++x::r).length<=10000):l9 (.v (row (pre++x::r))) (.v (.int (pre.length:Nat)))=φ (row [x]):=by
 refine c1h (by lia) ?_
 rw [b2s,List.getElem?_append_right (AN _),Nat.sub_self]
 rfl
theorem a0o{pre r:List Nat}{x y:Nat}:M9 (.v (row (pre++x::r))) (.v (row [y])) (.v (.int (pre.length:Nat)))=φ (.bool (decide (x=y))):=by
 show ξ (d4.v (.bool _))=_
 congr 3
 have f:fromIndex (S (pre++x::r)).length (pre.length:Nat)=pre.length:=by
  unfold fromIndex;rw [if_neg (by lia)]
  lia
 rw [f,a1L,a1L];have h1:decide (pre.length+[y].length<=(pre++x::r).length)=true:=decide_eq_true (by simp)
 rw [h1,Bool.true_and];unfold Builtin.Str.subAt;rw [a1L];have e:(S (pre++x::r)).cps.extract pre.length (pre.length+[y].length)= #[x]:=by
  apply Array.ext';rw [Array.toList_extract,a7A];simp [List.drop_append,List.extract]
 rw [e];show(#[x]== #[y])=_
 by_cases h:x=y
 ·subst h;simp
 ·rw [decide_eq_false h];simp [h]
theorem b7x{pre:List Nat}{y:Nat}:M9 (.v (row pre)) (.v (row [y])) (.v (.int (pre.length:Nat)))=φ (.bool false):=by
 show ξ (d4.v (.bool _))=_
 congr 3
 have f:fromIndex (S pre).length (pre.length:Nat)=pre.length:=by
  unfold fromIndex;rw [if_neg (by lia)]
  lia
 rw [f,a1L,a1L];have h1:decide (pre.length+[y].length<=pre.length)=false:=decide_eq_false (by simp)
 rw [h1,Bool.false_and]
theorem R4{l:List Nat}(h:l.length<=10000):y9 (.v (row l))=φ (.int (l.length:Nat)):=by
 show(if(S l).length<=AL then ξ (d4.v (.int ((S l).length:Nat))) else ζ)=_
 rw [a1L,if_pos (by rw [sizeLine_eq];lia)]
theorem a6n(a b:List Nat):X5 (.v (row a)) (.v (row b))=φ (.bool (a==b)):=by
 have h:=c3H a b;rw [b01 (x:= .v (row a)) (y:= .v (row b)) ⟨rfl,rfl⟩] at h;rw [a4E (x:= .v (row a)) (y:= .v (row b)) ⟨rfl,rfl⟩];have h:=Option.some.inj h;injection h with h
 injection h with h
 rw [Bool.not_inj h]
theorem b45{post:List Nat}(hp:∀y r,post=y::r->¬isD y){T:List Nat}(hT:T.length<=10000){q1:Υ d4}:∀(ds pre:List Nat) (fuel:Nat),T=pre++(ds++post)->(∀x∈ds,isD x)->ds.length<fuel->
 T3 (a1N (G2 (m2 b3K (a8 4) (m1 y9 (a8 0)))) (G2 (a3t a2s a2s (a8 2) (m2 l9 (a8 0) (a8 4)) (a8 3)))) a1Y fuel [φ (row T),q1,φ (row [48]),φ (row [57]),φ (.int (pre.length:Nat))]
 =ξ (.nx [φ (row T),q1,φ (row [48]),φ (row [57]),φ (.int ((pre.length+ds.length:Nat):Int))])
 |[],pre,0,_,_,h=>by lia
 |[],pre,fuel+1,e,hd,_=>by
  rw [AY] at e;have gl:y9 (.v (row T))=φ (.int (T.length:Nat)):=R4 hT;have c:a1N (G2 (m2 b3K (a8 4) (m1 y9 (a8 0)))) (G2 (a3t a2s a2s (a8 2) (m2 l9 (a8 0) (a8 4)) (a8 3))) [φ (row T),q1,φ (row [48]),φ (row [57]),φ (.int (pre.length:Nat))]=ξ false:=by
   cases post with
   |nil=>
    have hlt:decide ((pre.length:Int)<(T.length:Int))=false:=decide_eq_false (by rw [e];simp)
    simp! [a67,d8,m9,b5,d3,g5,i7,z6,a4o,AD,gl,hlt]
   |cons y r=>
    have hlt:decide ((pre.length:Int)<(T.length:Int))=true:=decide_eq_true (by rw [e];simp;lia)
    have sa:l9 (.v (row T)) (.v (.int (pre.length:Nat)))=φ (row [y]):=by rw [e];exact a8D (by rw [<-e];exact hT)
    have hy:=hp y r rfl;unfold isD at hy
    by_cases h1:48<=y
    ·have h2:decide (y<=57)=false:=decide_eq_false (by lia)
     simp! [a67,a1b,b4P,d8,m9,b5,d3,g5,i7,z6,a01,AD,gl,hlt,sa,c3S,decide_eq_true h1,h2]
    ·simp! [a67,a1b,c6U,d8,m9,b5,d3,g5,i7,z6,a01,AD,gl,hlt,sa,c3S,decide_eq_false h1]
  rw [T3,c]
  rfl
 |d::ds,pre,0,_,_,h=>by simp at h
 |d::ds,pre,fuel+1,e,hd,h=>by
  rw [AU] at h;have gl:y9 (.v (row T))=φ (.int (T.length:Nat)):=R4 hT;have hlt:decide ((pre.length:Int)<(T.length:Int))=true:=decide_eq_true (by rw [e];simp;lia)
  have sa:l9 (.v (row T)) (.v (.int (pre.length:Nat)))=φ (row [d]):=by rw [e,Aa];exact a8D (by rw [<-Aa,<-e];exact hT)
  have hd1:=hd d Ak;have c:a1N (G2 (m2 b3K (a8 4) (m1 y9 (a8 0)))) (G2 (a3t a2s a2s (a8 2) (m2 l9 (a8 0) (a8 4)) (a8 3))) [φ (row T),q1,φ (row [48]),φ (row [57]),φ (.int (pre.length:Nat))]=ξ true:=by
   simp! [a67,a1b,b4P,d8,m9,b5,d3,g5,i7,z6,a01,AD,gl,hlt,sa,c3S,decide_eq_true hd1.1,decide_eq_true hd1.2]
  have b:a1Y [φ (row T),q1,φ (row [48]),φ (row [57]),φ (.int (pre.length:Nat))]=ξ (.nx [φ (row T),q1,φ (row [48]),φ (row [57]),φ (.int ((pre++[d]).length:Nat))]):=by
   unfold a1Y a3Z;show ξ _=_;rw [AW,List.length_singleton,Int.natCast_add]
   rfl
  have ih:=b45 hp hT (q1:=q1) ds (pre++[d]) fuel (by rw [e];simp) (λx hx=>hd x (Al _ hx)) (by lia)
  rw [T3,c,AD,if_pos rfl,b,AD];show T3 _ _ fuel _=_;rw [ih,AW,List.length_singleton,AU,show pre.length+1+ds.length=pre.length+(ds.length+1) by lia]
theorem b6O{pre ds post:List Nat}(hp:∀y r,post=y::r->¬isD y)(hd:∀x∈ds,isD x)(hl:ds.length<90)(hT:(pre++(ds++post)).length<=10000):S3 [row (pre++(ds++post)),.int (pre.length:Nat)]=φ (.int ((pre.length+ds.length:Nat):Int)):=by
 have e:=b45 hp (T:=pre++(ds++post)) hT (q1:=φ (.int (pre.length:Nat))) ds pre 4000 rfl hd (by lia)
 have s0:AQ "0"=S [48]:=rfl;have s9:AQ "9"=S [57]:=rfl;unfold S3 a6P a86 b2x;rw [s0,s9];simp! [e8,b5,d3,b8,b6,b7,e9,g7,p8,j7,u5,f8,i6,i3,j5,AD,AG,AR,Ac,AX,Af,Aa,AY,AS,AT,Q7,Q8,e]
theorem c6W{k:Nat}(hk:k<25):∀x∈dg k,isD x:=by
 unfold dg isD;intro x hx;split at hx
 ·have:x=48+k:=by simpa using hx
  lia
 ·have:x=48+k / 10\/x=48+k % 10:=by simpa using hx
  lia
theorem c5U{k:Nat}(h2:2<=k)(hk:k<25):a21 [row (dg k)]=φ (.int (k:Nat)):=by
 have fe:=b6O (pre:=[]) (ds:=dg k) (post:=[]) (λy r h=>nomatch h) (c6W hk) (by have:=a4w k;lia) (by have:=a4w k;simp;lia)
 rw [Af,AY,Ad,Nat.zero_add] at fe;have fe:S3 [row (dg k),.int 0]=φ (.int ((dg k).length:Nat)):=fe;have it:b8a (.v (row (dg k)))=φ (.int (k:Nat)):=by
  match k,hk with
  |2,_=>kernel_rfl
  |3,_=>kernel_rfl
  |4,_=>kernel_rfl
  |5,_=>kernel_rfl
  |6,_=>kernel_rfl
  |7,_=>kernel_rfl
  |8,_=>kernel_rfl
  |9,_=>kernel_rfl
  |10,_=>kernel_rfl
  |11,_=>kernel_rfl
  |12,_=>kernel_rfl
  |13,_=>kernel_rfl
  |14,_=>kernel_rfl
  |15,_=>kernel_rfl
  |16,_=>kernel_rfl
  |17,_=>kernel_rfl
  |18,_=>kernel_rfl
  |19,_=>kernel_rfl
  |20,_=>kernel_rfl
  |21,_=>kernel_rfl
  |22,_=>kernel_rfl
  |23,_=>kernel_rfl
  |24,_=>kernel_rfl
  |k+25,h=>lia
 obtain⟨d1,d2⟩:=a4w k;have gl:y9 (.v (row (dg k)))=φ (.int ((dg k).length:Nat)):=R4 (by lia)
 have g1:decide ((1:Int)<=((dg k).length:Int))=true:=decide_eq_true (by lia)
 have g2:decide (((dg k).length:Int)<=4)=true:=decide_eq_true (by lia)
 obtain⟨x,r,ex⟩:∃x r,dg k=x::r:=by
  cases h:dg k with
  |nil=>rw [h] at d1;simp at d1
  |cons x r=>exact⟨x,r,rfl⟩
 have hx0:x≠48:=by
  unfold dg at ex;split at ex
  ·injection ex with e1 _;lia
  ·injection ex with e1 _;lia
 have i0:l9 (.v (row (dg k))) (.v (.int 0))=φ (row [x]):=by rw [ex];exact a8D (pre:=[]) (by have:(x::r).length<=2:=ex▸d2;simp only [AY];lia)
 have q0:X5 (.v (row [x])) (.v (.str (AQ "0")))=φ (.bool false):=by
  have:=a6n [x] [48];rw [show AQ "0"=S [48] from rfl,this];simp [hx0]
 unfold a21 a9D a0T;simp! [c1i,a1b,b4P,d8,m9,e8,b5,b8,b6,b7,e9,j7,u5,f8,i6,f6,y0,l7,i3,j5,g5,i7,D4,P8,z6,a34,a4o,AD,Ar,AG,AR,AX,Af,Bool.not_true,beq_self_eq_true,b8c,gl,g1,g2,fe,i0,q0,it]
theorem c3k{pre ds post:List Nat}:cut (pre++(ds++post)) (ξ (pre.length:Nat)) (ξ ((pre.length+ds.length:Nat):Int))=ds:=by
 unfold cut;have h1:HT.sIx (pre++(ds++post)).length 0 (ξ (pre.length:Nat))=pre.length:=by rw [HT.sIx_nat];simp
 have h2:HT.sIx (pre++(ds++post)).length (pre++(ds++post)).length (ξ ((pre.length+ds.length:Nat):Int))=pre.length+ds.length:=by
  rw [HT.sIx_nat];simp
 rw [h1,h2,List.drop_left,Nat.add_sub_cancel_left,List.take_left]
theorem b7u{pre ds post:List Nat}(hT:(pre++(ds++post)).length<=10000):gSl (.v (row (pre++(ds++post)))) (ξ (pre.length:Nat)) (ξ ((pre.length+ds.length:Nat):Int))=φ (row ds):=by
 show(if(S (pre++(ds++post))).length<=AL then ξ (d4.v (.str ⟨(cut (S (pre++(ds++post))).cps.toList (ξ (pre.length:Nat)) (ξ ((pre.length+ds.length:Nat):Int))).toArray⟩)) else ζ)=_
 rw [a1L,if_pos (by rw [sizeLine_eq];lia),a7A,c3k]
 rfl
theorem b6y{k:Nat}(h2:2<=k)(hk:k<25):W3 [row (dg k),.int 2,.int 24]=φ (.int (k:Nat)):=by
 have nb:=c5U h2 hk;have g1:decide ((2:Int)<=(k:Int))=true:=decide_eq_true (by lia)
 have g2:decide ((k:Int)<=24)=true:=decide_eq_true (by lia)
 have is:a1U false (.v (.int (k:Nat))) (.v .none)=φ (.bool false):=rfl;unfold W3 a3E;simp! [c1i,a1b,b4P,d8,e8,b5,d3,b8,b6,b7,e9,g7,p8,f8,i6,f6,y0,l7,i3,j5,g5,i7,D4,P8,a34,AD,Ar,AG,AR,Ac,AX,Aa,AY,AS,AT,Bool.not_true,Q7,Q8,nb,is,g1,g2]
theorem b6a{pre post:List Nat}{k:Nat}(h2:2<=k)(hk:k<25)(hp:∀y r,post=y::r->¬isD y)(hT:(pre++(dg k++post)).length<=10000):L6 [row (pre++(dg k++post)),.int (pre.length:Nat)]=φ (.tuple [.int (k:Nat),.int ((pre.length+(dg k).length:Nat):Int)]):=by
 obtain⟨d1,d2⟩:=a4w k;have fe:=b6O (pre:=pre) (ds:=dg k) (post:=post) hp (c6W hk) (by lia) hT
 have sl:=b7u (pre:=pre) (ds:=dg k) (post:=post) hT;have bt:=b6y h2 hk;have c':(((pre.length+(dg k).length:Nat):Int)==(pre.length:Int))=false:=by rw [beq_eq_false_iff_ne];lia
 have is:a1U false (.v (.int (k:Nat))) (.v .none)=φ (.bool false):=rfl;unfold L6 a6Y S8;generalize pre++(dg k++post)=T at fe sl ⊢;generalize pre.length+(dg k).length=e at fe sl c' ⊢;simp! [d8,e8,b5,d3,b8,b6,b7,v9,e9,g7,p8,j7,u5,f8,i6,f6,y0,l7,i3,j5,g5,i7,AD,AG,AR,Ac,AX,Aa,AY,AS,AT,AU,Ad,↓reduceIte,k6,k7,u4,sz,Nat.reduceAdd,Ai,a9M,fe,c',sl,bt,is]
theorem b7z{pre post:List Nat}(hp:∀y r,post=y::r->¬isD y)(hT:(pre++post).length<=10000):L6 [row (pre++post),.int (pre.length:Nat)]=φ (.tuple [.int 1,.int (pre.length:Nat)]):=by
 have fe:=b6O (pre:=pre) (ds:=[]) (post:=post) hp (λx h=>nomatch h) (by simp) (by rw [AY];exact hT)
 rw [AY,Ad,Nat.add_zero] at fe;unfold L6 a6Y;simp! [d8,e8,b5,d3,b8,b6,b7,v9,e9,g7,p8,j7,u5,f8,i6,a0R,f6,D8,i3,j5,g5,i7,AD,AG,AR,Ac,AX,Aa,AY,AS,AT,AU,Ad,↓reduceIte,sz,Nat.reduceAdd,Ai,beq_self_eq_true,a9M,fe]
theorem b6b{pre post:List Nat}{k:Nat}(h1:1<=k)(hk:k<25)(hp:∀y r,post=y::r->¬isD y)(hT:(pre++(wt k++post)).length<=10000):L6 [row (pre++(wt k++post)),.int (pre.length:Nat)]=φ (.tuple [.int (k:Nat),.int ((pre.length+(wt k).length:Nat):Int)]):=by
 by_cases c:k=1
 ·subst c;exact b7z hp hT
 ·have e:wt k=dg k:=by unfold wt;rw [if_neg c]
  rw [e] at hT ⊢;exact b6a (by lia) hk hp hT
structure Kg(π:Type) where
 sh:π->List Nat
 pv:π->PV
 ag:Nat->List π->π
 op:Nat
 cl:Nat
 fn:Str
 sha:∀k ps,sh (ag k ps)=op::(a09 [32] (ps.map sh)++cl::dg k)
 pva:∀k ps,pv (ag k ps)= .tuple [C9,.int (k:Nat),.list (ps.map pv)]
 cln:cl≠32/\¬isD cl
def Bpt(f:Str)(RF:Λ):MS:=
 (i8 (p7 5 (a2z [(f,RF)] 3 (a6 (a8 0) (a6 (a8 1) (a6 (a8 2) b9)))))
 (i8 (v5 (G2 (m2 (a1U false) (a8 5) (mC .none))) (t6 (mC .none)) n4)
 (i8 (D6 4 (m2 l9 (a8 5) (mC (.int 0))))
 (i8 (v5 (P7 (mtV (m3 M9 (a8 0) (mC (.str " ")) (m2 l9 (a8 5) (mC (.int 1)))))) (a0b 4 (t6 (O2 (a6 (a8 4) (a6 (m2 l9 (a8 5) (mC (.int 1))) b9))))) n4)
 (p7 1 (m2 t7 (m2 l9 (a8 5) (mC (.int 1))) (mC (.int 1))))))))
section
variable {π:Type}(K:Kg π)
def shG(ps:List π):List Nat:=a09 [32] (ps.map K.sh)
def stop(post:List Nat):Prop:=post=[]\/∃r,post=K.cl::r
variable {K}
theorem stop.D{post:List Nat}(h:stop K post):∀y r,post=y::r->¬isD y:=λy r e=>by
 rcases h with h|⟨t,h⟩
 ·rw [h] at e;cases e
 ·rw [h] at e;injection e with e1 _;rw [<-e1];exact K.cln.2
theorem b2C{x:Str}{g:Λ}{i:Nat}{m:MA}{ρ:c9}{qs:List PV}{r:d4}{tab:List (Str×(Λ))}(h:ρ[i]?=ξ (φ (A6 x)))(hl:tab.lookup x=ξ g)(hm:m ρ=ξ qs)(hg:g qs=ξ r):a2z tab i m ρ=ξ r:=by
 unfold a2z;rw [h];show(tab.lookup x).bind (λg=>(m ρ).bind g)=_;rw [hl,AD,hm,AD,hg]
theorem b4K{RA RF RP:Λ}{pre post:List Nat}{k:Nat}{qs:List π}{left:Int}(h2:2<=k)(hk:k<25)(hl:left≠0)(hp:∀y r,post=y::r->¬isD y){T:List Nat}(eT:T=pre++(K.sh (K.ag k qs)++post))(hT:T.length<=10000)
 (hR:RP [row T,.int ((pre.length+1:Nat):Int),.int (left - 1),(A6 K.fn)]=φ (.tuple [.list (qs.map K.pv),.int ((pre.length+1+(shG K qs).length:Nat):Int)])):
 k4 2 (a2g RA RF RP) [row T,.int ((pre.length+1:Nat):Int),.int left,(A6 K.fn),row [K.cl]]=φ (.tuple [K.pv (K.ag k qs),.int ((pre.length+(K.sh (K.ag k qs)).length:Nat):Int)]):=by
 rw [K.sha] at eT
 have eT:T=pre++(K.op::(shG K qs++K.cl::dg k)++post):=eT
 have e2:T=(pre++K.op::shG K qs)++K.cl::(dg k++post):=by rw [eT];simp
 have e3:T=(pre++K.op::(shG K qs++[K.cl]))++(dg k++post):=by rw [eT];simp
 have l2:(pre++K.op::shG K qs).length=pre.length+1+(shG K qs).length:=by simp;lia
 have l3:(pre++K.op::(shG K qs++[K.cl])).length=pre.length+1+(shG K qs).length+1:=by simp;lia
 have st:=a0o (pre:=pre++K.op::shG K qs) (r:=dg k++post) (x:=K.cl) (y:=K.cl)
 rw [<-e2,l2,decide_eq_true rfl] at st
 have tm:=b6a (pre:=pre++K.op::(shG K qs++[K.cl])) (post:=post) h2 hk hp (by rw [<-e3];exact hT)
 rw [<-e3,l3] at tm
 have e4:pre.length+1+(shG K qs).length+1+(dg k).length=pre.length+(K.sh (K.ag k qs)).length:=by
  rw [K.sha];show _=pre.length+(K.op::(shG K qs++K.cl::dg k)).length;simp;lia
 rw [e4] at tm
 have c0:(left==0)=false:=by rw [beq_eq_false_iff_ne];exact hl
 have ck:((k:Int)==1)=false:=by rw [beq_eq_false_iff_ne];lia
 have is1:∀y:PV,a1U false (.v (.tuple [.list (qs.map K.pv),y])) (.v .none)=φ (.bool false):=λ_=>rfl
 have is2:∀y:PV,a1U false (.v (.tuple [.int (k:Nat),y])) (.v .none)=φ (.bool false):=λ_=>rfl
 have e1:((pre.length+1+(shG K qs).length:Nat):Int)+1=((pre.length+1+(shG K qs).length+1:Nat):Int):=by lia
 rw [K.pva]
 clear eT e2 e3 e4 l2 l3
 generalize pre.length+1+(shG K qs).length=a1 at hR st tm e1 ⊢
 generalize pre.length+(K.sh (K.ag k qs)).length=a2 at tm ⊢
 unfold a2g
 simp! [l6,K3,a2r,a1w,d8,e8,b5,d3,b8,b6,b7,v9,e9,g7,p8,j7,u5,f8,i6,f6,y0,l7,i3,j5,G3,g5,i7,Y2,D4,P8,a34,AD,Ar,AG,AR,Ac,AX,Aa,AY,AS,AT,AU,Ad,↓reduceIte,Bool.not_true,sz,Nat.reduceAdd,Ai,a9M,c0,hR,is1,a5L,st,e1,tm,is2,ck]
theorem b1v{RF:Λ}{left:Int}{post:List Nat}(hs:stop K post){T:List Nat}:∀(ps:List π) (pre:List Nat) (acc:List PV) (fuel:Nat) (q5:Υ d4),ps≠[]->T=pre++(shG K ps++post)->
 (∀p∈ps,∀pre post':List Nat,(∀y r,post'=y::r->¬isD y)->T=pre++(K.sh p++post')->RF [row T,.int (pre.length:Nat),.int left]=φ (.tuple [K.pv p,.int ((pre.length+(K.sh p).length:Nat):Int)]))->ps.length<=fuel->acc.length+ps.length<10000->
 T3 (mtV (mC (.bool true))) (Bpt K.fn RF) fuel [φ (row T),φ (.int (pre.length:Nat)),φ (.int left),φ (A6 K.fn),ξ (.own acc),q5]
 =ξ (.rt (.v (.tuple [.list (acc++(ps.map K.pv)),.int ((pre.length+(shG K ps).length:Nat):Int)])))
 |[],_,_,_,_,h,_,_,_,_=>absurd rfl h
 |p::ps,pre,acc,0,q5,_,_,_,hf,_=>by simp at hf
 |p::ps,pre,acc,fuel+1,q5,_,eT,hR,hf,hn=>by
  rw [AU] at hf hn
  ext y
  have s1:AQ " "=S [32]:=rfl;have key:∀(post':List Nat),(∀y r,post'=y::r->¬isD y)->T=pre++(K.sh p++post')->∀b:Bool,M9 (.v (row T)) (.v (row [32])) (.v (.int ((pre.length+(K.sh p).length:Nat):Int)))=φ (.bool b)->
   Bpt K.fn RF [φ (row T),φ (.int (pre.length:Nat)),φ (.int left),φ (A6 K.fn),ξ (.own acc),q5]=if b=true then ξ (.nx [φ (row T),φ (.int ((pre.length+(K.sh p).length+1:Nat):Int)),φ (.int left),φ (A6 K.fn),ξ (.own (acc++[K.pv p])),φ (.tuple [K.pv p,.int ((pre.length+(K.sh p).length:Nat):Int)])]) else ξ (.rt (.v (.tuple [.list (acc++[K.pv p]),.int ((pre.length+(K.sh p).length:Nat):Int)]))):=λpost' h1 h2 b hb=>by
   have hr:=hR p Ak pre post' h1 h2
   have hc:a2z [(K.fn,RF)] 3 (a6 (a8 0) (a6 (a8 1) (a6 (a8 2) b9))) [φ (row T),φ (.int (pre.length:Nat)),φ (.int left),φ (A6 K.fn),ξ (.own acc),q5]=φ (.tuple [K.pv p,.int ((pre.length+(K.sh p).length:Nat):Int)]):=
    b2C (x:=K.fn) (qs:=[row T,.int (pre.length:Nat),.int left]) rfl List.lookup_cons_self (by simp! [b5,d3,b8,b6,b7,AD]) hr
   have ap:=B5 (i:=4) (m:=m2 l9 (a8 5) (mC (.int 0))) (ρ:=[φ (row T),φ (.int (pre.length:Nat)),φ (.int left),φ (A6 K.fn),ξ (.own acc),φ (.tuple [K.pv p,.int ((pre.length+(K.sh p).length:Nat):Int)])]) (r:= .v (K.pv p)) (p:=K.pv p) (ps:=acc) (by simp! [a2r,d8,e8,b5,d3,AD]) rfl rfl (by lia)
   have fz:∀(nn:MS) (a b c d e:Υ d4) (L:List PV),a0b 4 nn [a,b,c,d,ξ (.ow (.lst L)),e]=nn [a,b,c,d,φ (.list L),e]:=λ_ _ _ _ _ _ _=>rfl
   have e1:((pre.length+(K.sh p).length:Nat):Int)+1=((pre.length+(K.sh p).length+1:Nat):Int):=by lia
   unfold Bpt
   rw [s1]
   clear eT hR hr h2
   generalize pre.length+(K.sh p).length=a at hb hc ap e1 ⊢
   cases b with
   |true=>simp! [l6,a1w,d8,e8,b5,d3,g7,p8,f8,i6,f6,y0,l7,G3,g5,i7,Y2,D4,AD,Ar,AS,AT,↓reduceIte,Bool.not_true,hc,isN,ap,a5L,hb,e1]
   |false=>simp! [a1w,d8,e8,b5,d3,b8,b6,b7,v9,g7,p8,j7,u5,f8,i6,a0R,f6,D8,y0,l7,G3,g5,i7,Y2,D4,AD,Ar,AS,AT,AU,Ad,↓reduceIte,Bool.not_false,BF,sz,Nat.reduceAdd,Ai,hc,isN,ap,a5L,hb,fz]
  cases ps with
  |nil=>
   have eL:shG K [p]=K.sh p:=rfl;rw [eL] at eT ⊢;have hb:M9 (.v (row T)) (.v (row [32])) (.v (.int ((pre.length+(K.sh p).length:Nat):Int)))=φ (.bool false):=by
    rcases hs with h|⟨r,h⟩
    ·have:T=pre++K.sh p:=by rw [eT,h,Af]
     rw [this,<-AW];exact b7x
    ·have:T=(pre++K.sh p)++K.cl::r:=by rw [eT,h,List.append_assoc]
     rw [this,<-AW,a0o,decide_eq_false K.cln.1]
   have k:=key post hs.D eT false hb;rw [if_neg BB] at k;rw [T3];show((Bpt K.fn RF [φ (row T),φ (.int (pre.length:Nat)),φ (.int left),φ (A6 K.fn),ξ (.own acc),q5]).bind _)=_;rw [k,AG,AR]
   rfl
  |cons q r=>
   have eL:shG K (p::q::r)=K.sh p++32::shG K (q::r):=by
    show K.sh p++[32]++shG K (q::r)=_;simp
   rw [eL] at eT ⊢;have e2:T=pre++(K.sh p++(32::(shG K (q::r)++post))):=by rw [eT];simp
   have hb:M9 (.v (row T)) (.v (row [32])) (.v (.int ((pre.length+(K.sh p).length:Nat):Int)))=φ (.bool true):=by
    have:T=(pre++K.sh p)++32::(shG K (q::r)++post):=by rw [e2,List.append_assoc]
    rw [this,<-AW];exact a0o
   have k:=key (32::(shG K (q::r)++post)) (λy t h=>by injection h with h1 _;unfold isD;lia) e2 true hb
   rw [if_pos rfl] at k;have ih:=b1v (RF:=RF) (left:=left) hs (q::r) (pre++(K.sh p++[32])) (acc++[K.pv p]) fuel (φ (.tuple [K.pv p,.int ((pre.length+(K.sh p).length:Nat):Int)])) (by simp) (by rw [e2];simp) (λp' hp'=>hR p' (Al _ hp')) (by lia) (by rw [AW,List.length_singleton];lia)
   have l1:(pre++(K.sh p++[32])).length=pre.length+(K.sh p).length+1:=by simp;lia
   rw [l1] at ih;rw [T3];show((Bpt K.fn RF [φ (row T),φ (.int (pre.length:Nat)),φ (.int left),φ (A6 K.fn),ξ (.own acc),q5]).bind _)=_;rw [k];show T3 _ _ fuel _=_;rw [ih,AG (l:=q::r),List.append_assoc];have l2:pre.length+(K.sh p).length+1+(shG K (q::r)).length=pre.length+(K.sh p++32::shG K (q::r)).length:=by simp;lia
   rw [l2]
   rfl
theorem b28{b:MS}{RF:Λ}(hb:b=i8 (p7 4 (a1E b9)) (T3 (mtV (mC (.bool true))) (Bpt K.fn RF) 4000)){left:Int}{post:List Nat}(hs:stop K post){T:List Nat}{ps:List π}{pre:List Nat}(hne:ps≠[])(eT:T=pre++(shG K ps++post))
 (hR:∀p∈ps,∀pre post':List Nat,(∀y r,post'=y::r->¬isD y)->T=pre++(K.sh p++post')->RF [row T,.int (pre.length:Nat),.int left]=φ (.tuple [K.pv p,.int ((pre.length+(K.sh p).length:Nat):Int)])) (hl:ps.length<=4000):
 k4 2 b [row T,.int (pre.length:Nat),.int left,A6 K.fn]=φ (.tuple [.list (ps.map K.pv),.int ((pre.length+(shG K ps).length:Nat):Int)]):=by
 have e:=b1v (K:=K) hs (T:=T) ps pre [] 4000 ζ hne eT hR hl (by simp;lia)
 rw [AY] at e
 rw [hb]
 simp! [b8,D9,g7,Z4,f8,i6,i3,j5,AD,AG,AR,Ac,AX,Aa,AY,AS,AT,Ad,↓reduceIte,sz,Ai,e]
end
theorem a0M:∀ps:List Pa,x8 ps=ps.map E2
 |[]=>by rw [x8];rfl
 |p::ps=>by rw [x8,AG,a0M ps]
abbrev fnP:PV:=A6 (AQ "fold_part_at")
def KP:Kg Pa where
 sh:=shP
 pv:=E2
 ag:= .again
 op:=40
 cl:=41
 fn:=AQ "fold_part_at"
 sha:=a2M
 pva:=λk ps=>by rw [E2,a0M]
 cln:=⟨by decide,by unfold isD;lia⟩
theorem c2q{RA RF RP:Λ}{pre post:List Nat}{c k:Nat}{left:Int}(ok:okP (.run c k))(hp:∀y r,post=y::r->¬isD y)(hT:(pre++(shP (.run c k)++post)).length<=10000):
 k4 1 (G5 RA RF RP) [row (pre++(shP (.run c k)++post)),.int (pre.length:Nat),.int left]=φ (.tuple [E2 (.run c k),.int ((pre.length+(shP (.run c k)).length:Nat):Int)]):=by
 obtain⟨k1,k2,hc⟩:=ok
 rw [b4p] at hT ⊢
 have hcc:c≠40/\97<=c/\c<=122:=⟨by lia,hc⟩
 have eT:pre++(c::wt k++post)=pre++c::(wt k++post):=rfl
 have st:=a0o (pre:=pre) (r:=wt k++post) (x:=c) (y:=40)
 rw [decide_eq_false hcc.1] at st
 have sg:=a8D (pre:=pre) (r:=wt k++post) (x:=c) hT
 have sl:=b7u (pre:=pre) (ds:=[c]) (post:=wt k++post) hT
 have tm:=b6b (pre:=pre++[c]) (post:=post) k1 (by lia) hp (by rw [List.append_assoc];exact hT)
 rw [List.append_assoc,AW,List.length_singleton] at tm
 have e1:(pre.length:Int)+1=((pre.length+1:Nat):Int):=by lia
 have e2:pre.length+1+(wt k).length=pre.length+(c::wt k).length:=by rw [AU];lia
 rw [e2] at tm
 rw [List.length_singleton] at sl
 have is:∀x:PV,a1U false (.v (.tuple [.int (k:Nat),x])) (.v .none)=φ (.bool false):=λ_=>rfl
 have g1:decide (97<=c)=true:=decide_eq_true hcc.2.1
 have g2:decide (c<=122)=true:=decide_eq_true hcc.2.2
 have ro:a1A [row [c],.int (k:Nat)]=φ (E2 (.run c k)):=by rw [E2];rfl
 have s1:AQ "("=S [40]:=rfl
 have s2:AQ "a"=S [97]:=rfl
 have s3:AQ "z"=S [122]:=rfl
 have tm:L6 [row (pre++c::(wt k++post)),.int ((pre.length+1:Nat):Int)]=_:=tm
 have sl:gSl (.v (row (pre++c::(wt k++post)))) (ξ (pre.length:Nat)) (ξ ((pre.length+1:Nat):Int))=_:=sl
 rw [eT]
 generalize pre++c::(wt k++post)=T at st sg sl tm ⊢
 generalize pre.length+(c::wt k).length=e at tm ⊢
 unfold G5
 rw [s1,s2,s3]
 simp! [l6,a1b,b4P,a2r,a1w,d8,e8,b5,d3,b8,b6,b7,v9,e9,g7,p8,j7,u5,f8,i6,f6,y0,l7,i3,j5,G3,g5,i7,Y2,D4,AD,Ar,AG,AR,Ac,AX,Aa,AY,AS,AT,AU,Ad,↓reduceIte,Bool.not_true,k6,k7,u4,sz,Nat.reduceAdd,Ai,a5L,st,e1,sl,c3S,g1,g2,tm,is,sg,ro]
theorem b6v{RA RF RP:Λ}{pre r:List Nat}{left:Int}{v:PV}{T:List Nat}(eT:T=pre++40::r)
 (hA:RA [row T,.int ((pre.length+1:Nat):Int),.int left,fnP,row [41]]=φ v):k4 1 (G5 RA RF RP) [row T,.int (pre.length:Nat),.int left]=φ v:=by
 have st:=a0o (pre:=pre) (r:=r) (x:=40) (y:=40)
 rw [<-eT,decide_eq_true rfl] at st
 have e1:(pre.length:Int)+1=((pre.length+1:Nat):Int):=by lia
 have s1:AQ "("=S [40]:=rfl
 have s2:AQ ")"=S [41]:=rfl
 unfold G5
 rw [s1,s2]
 simp! [l6,d8,e8,b5,d3,b8,b6,b7,e9,j7,u5,f8,a0R,f6,D8,i3,j5,G3,Y2,AD,AG,AR,Ac,AX,Aa,AY,a5L,st,e1,hA]
theorem b5U:∀(n:Nat) (ps:List Pa) (pre post:List Nat) (left:Nat) (T:List Nat),okL ps->ps≠[]->(B3 ps).length<=24->dpL ps<=left->3*dpL ps+2<=n->stop KP post->T=pre++(shL ps++post)->T.length<=10000->
 a0j n [row T,.int (pre.length:Nat),.int (left:Nat),fnP]=φ (.tuple [.list (x8 ps),.int ((pre.length+(shL ps).length:Nat):Int)])
 |0,_,_,_,_,_,_,_,_,_,h,_,_,_=>by lia
 |1,_,_,_,_,_,_,_,_,_,h,_,_,_=>by lia
 |m+2,ps,pre,post,left,T,ok,hne,hl,hd,hn,hs,eT,hT=>by
  have hm:=a8G ok;rw [a0M];refine b28 (K:=KP) (RF:=M4 (m+1)) rfl hs hne eT (λp hp pre' post' hD eT'=> ?_) (by lia)
  rcases a6S p with⟨c,k,rfl,_⟩|⟨k,qs,rfl,_⟩
  ·show k4 1 (G5 (a22 m) (M4 m) (a0j m)) _=_;have eT':T=pre'++(shP (.run c k)++post'):=eT';rw [eT'];exact c2q (a6t ok hp) hD (by rw [<-eT'];exact hT)
  ·obtain⟨h1,h2,h3,h4,h5,h6,h7⟩:=b6f ok hp;obtain⟨m',rfl⟩:∃m',m=m'+1:=⟨m - 1,by lia⟩
   have eT':T=pre'++(shP (.again k qs)++post'):=eT';have ih:=b5U m' qs (pre'++[40]) (41::(dg k++post')) (left - 1) T h1 h2 (by lia) (by lia) (by lia) (.inr ⟨_,rfl⟩) (by rw [eT',a2M];simp) hT
   rw [AW,List.length_singleton,show((left - 1:Nat):Int)=(left:Int) - 1 by lia,a0M] at ih
   show k4 1 (G5 (a22 (m'+1)) (M4 (m'+1)) (a0j (m'+1))) _=_;refine b6v (r:=shL qs++41::dg k++post') (by rw [eT',a2M];simp) ?_
   show k4 2 (a2g (a22 m') (M4 m') (a0j m')) _=_;exact b4K (K:=KP) h3 (by lia) (by lia) hD eT' hT ih
theorem b8i{R:Λ}{q0:Υ d4}:∀(ps:List Pa) (a:Int) (q2:Υ d4),okL ps->(B3 ps).length<=24->(∀k qs,Pa.again k qs∈ps->R [.list (x8 qs)]=φ (.int ((B3 qs).length:Nat)))->
 ∃q2',O1 (X9 R) (g9 2) (x8 ps) [q0,φ (.int a),q2]=ξ (.nx [q0,φ (.int (a+((B3 ps).length:Nat))),q2'])
 |[],a,q2,_,_,_=>⟨q2,by rw [x8,B3];show ξ _=_;simp⟩
 |p::ps,a,q2,ok,hl,hR=>by
  rw [B3,AW] at hl;obtain⟨q2',e⟩:=b8i (R:=R) (q0:=q0) ps (a+((unP p).length:Nat)) (φ (E2 p)) ok.2 (by lia) λk qs h=>hR k qs (Al _ h)
  refine⟨q2', ?_⟩;have hb:X9 R [q0,φ (.int a),φ (E2 p)]=ξ (.nx [q0,φ (.int (a+((unP p).length:Nat))),φ (E2 p)]):=by
   have aug:∀(m:M) (y:Int),m [q0,φ (.int a),φ (E2 p)]=φ (.int y)->a3Z 1 (gI λi j=> .int (i+j)) m [q0,φ (.int a),φ (E2 p)]=ξ (.nx [q0,φ (.int (a+y)),φ (E2 p)]):=λm y hm=>by
    unfold a3Z;show((m [q0,φ (.int a),φ (E2 p)]).bind _)=_;rw [hm]
    rfl
   unfold X9;rcases a6S p with⟨c,k,rfl,ep⟩|⟨k,qs,rfl,ep⟩
   ·ext f
    ext l
    simp! [d8,e8,b5,d3,f6,D8,g5,i7,AD,i0,c0X];rw [a43];exact aug _ _ (by simp! [d8,e8,b5,d3,AD,i2])
   ·ext e
    ext j
    ext c
    have hr:=hR k qs Ak;have hk:=ok.1;obtain⟨k1,k2,_,_⟩:=hk;rw [a1F] at hl ⊢;have hq:(B3 qs).length<=24:=by
     have:1*(B3 qs).length<=k*(B3 qs).length:=Nat.mul_le_mul_right _ (by lia)
     lia
    simp! [d8,e8,b5,d3,f6,y0,g5,i7,AD,i0,c0W];refine aug _ _ ?_;simp! [T8,d8,e8,b5,d3,b8,b6,b7,e9,AD,i1,i2,hr];rw [Int.natCast_mul]
  rw [x8,O1];show(X9 R [q0,φ (.int a),φ (E2 p)]).bind _=_;rw [hb,AD,B3,AW,Int.natCast_add,<-Int.add_assoc];exact e
theorem b5j:∀(n:Nat) (ps:List Pa),okL ps->(B3 ps).length<=24->dpL ps<n->a1B n [.list (x8 ps)]=φ (.int ((B3 ps).length:Nat))
 |0,_,_,_,h=>by lia
 |n+1,ps,ok,hl,hd=>by
  obtain⟨q2,e⟩:=b8i (R:=a1B n) (q0:=φ (.list (x8 ps))) ps 0 ζ ok hl λk qs hq=>by
   obtain⟨h1,h2,h3,h4,h5,h6,h7⟩:=b6f ok hq;exact b5j n qs h1 (by lia) (by lia)
  ext x
  rw [Int.zero_add] at e;show k4 2 (a4p (a1B n)) [.list (x8 ps)]=_;unfold a4p;simp! [e8,b5,b7,g7,p8,f8,i6,i3,j5,u9,AD,AG,AR,Ac,AX,Aa,AY,AS,AT,F8,Q7,Q8,hit,e]
def c47(n:MX):FX->Υ FX
 | .fl (.nx ρ)=>n ρ
 |f=>ξ f
def c7K(m n:MX)(ρ:c9)(b:Bool):Υ FX:=if b=true then m ρ else n ρ
def c41:FX->Υ (d4 ⊕ XT)
 | .fl (.rt r)=>ξ (.inl r)
 | .fl (.nx _)=>ξ (.inl (.v .none))
 | .rz c _=>ξ (.inr c)
 |_=>ζ
theorem b23(m n:MX)(ρ:c9):a76 m n ρ=(m ρ).bind (c47 n):=ω
theorem b6j(n:MX)(ρ:c9):c47 n (.fl (.nx ρ))=n ρ:=ω
theorem b5B(c:MT)(m n:MX)(ρ:c9):b68 c m n ρ=(c ρ).bind (c7K m n ρ):=ω
theorem c23(m n:MX)(ρ:c9):c7K m n ρ false=n ρ:=ω
theorem b5C(m:MS)(ρ:c9):a6J m ρ=(m ρ).map .fl:=ω
theorem b53(n:Nat)(b:MX)(ps:List PV):c0a n b ps=(b (ps.map (λp=>ξ (d4.v p))++AV n ζ)).bind c41:=ω
theorem b52(r:d4):c41 (.fl (.rt r))=ξ (.inl r):=ω
theorem c32{i:Nat}{g:List PV->Υ (d4 ⊕ XT)}{m:MA}{ρ:c9}{ps:List PV}{p:PV}(h1:m ρ=ξ ps)(h2:g ps=ξ (.inl (.v p))):b22 i g m ρ=ξ (.fl (.nx (ρ.set i (φ p)))):=by
 unfold b22 c0z;rw [h1,AD,h2]
 rfl
theorem c4o{ps:List Pa}(ok:okL ps)(hne:ps≠[])(hl:(B3 ps).length<=24)(hd:dpL ps<=12):a1z [row (shL ps)]=ξ (.inl (.v (.list (x8 ps)))):=by
 have hsl:=b8F ok;have pe:=b5U 42 ps [] [] 12 (shL ps) ok hne hl (by lia) (by lia) (.inl rfl) (by simp) (by lia)
 rw [Ad,Nat.zero_add] at pe;have pe:a7b [row (shL ps),.int 0,.int 12,fnP]=φ (.tuple [.list (x8 ps),.int ((shL ps).length:Nat)]):=pe;have kn:a68 [.list (x8 ps)]=_:=b5j 16 ps ok hl (by lia)
 have gl:=R4 (l:=shL ps) (by lia)
 ext y
 have hs:a3o "str" (.v (row (shL ps)))=φ (.bool true):=rfl;have g1:decide ((24:Int)<((B3 ps).length:Int))=false:=decide_eq_false (by lia)
 unfold a1z a9F O0 S8;simp! [K3,a2r,a1w,d8,m9,e8,b5,d3,b8,b6,b7,e9,g7,p8,j7,u5,l7,G3,g5,i7,Y2,D4,P8,a34,AD,Ar,AG,AR,Ac,AX,Aa,AY,AS,AT,Bool.not_true,beq_self_eq_true,b8c,b53,b23,b5B,hs,c23,b5C,b6j,pe,isN,gl,kn,g1,b52]
 try rfl
inductive Wa where
 |rows (k:Nat) (ps:List Pa)
 |again (k:Nat) (ws:List Wa)
abbrev a9T:PV:= .str (AQ "rows")
mutual
def X2:Wa->PV
 | .rows k ps=> .tuple [a9T,.int (k:Nat),.list (x8 ps)]
 | .again k ws=> .tuple [C9,.int (k:Nat),.list (j8 ws)]
def j8:List Wa->List PV
 |[]=>[]
 |w::ws=>X2 w::j8 ws
end
mutual
def unV:Wa->List (List Nat)
 | .rows k ps=>(Ab k).map λ_=>B3 ps
 | .again k ws=>((Ab k).map λ_=>B7 ws).flatten
def B7:List Wa->List (List Nat)
 |[]=>[]
 |w::ws=>unV w++B7 ws
end
mutual
def dpV:Wa->Nat
 | .rows _ _=>0
 | .again _ ws=>Q0 ws+1
def Q0:List Wa->Nat
 |[]=>0
 |w::ws=>max (dpV w) (Q0 ws)
end
def gFo(ps:List Pa):Prop:=okL ps/\ps≠[]/\dpL ps<=12/\(B3 ps).length<=24
mutual
def gVx:Wa->Prop
 | .rows k ps=>gFo ps/\1<=k/\k<=24
 | .again k ws=>(2<=k/\k<=24)/\ws≠[]/\U8 ws
def U8:List Wa->Prop
 |[]=>True
 |w::ws=>gVx w/\U8 ws
end
mutual
def knV:Wa->Nat
 | .rows k _=>k
 | .again k ws=>w6 ws*k
def w6:List Wa->Nat
 |[]=>0
 |w::ws=>knV w+w6 ws
end
mutual
def shV:Wa->List Nat
 | .rows k ps=>91::(shL ps++93::wt k)
 | .again k ws=>123::(a09 [32] (c2A ws)++125::dg k)
def c2A:List Wa->List (List Nat)
 |[]=>[]
 |w::ws=>shV w::c2A ws
end
theorem b55:∀ws:List Wa,c2A ws=ws.map shV
 |[]=>by rw [c2A];rfl
 |w::ws=>by rw [c2A,AG,b55 ws]
def a41(ws:List Wa):List Nat:=a09 [32] (ws.map shV)
theorem a8C(k:Nat)(ps:List Pa):shV (.rows k ps)=91::(shL ps++93::wt k):=by rw [shV]
theorem a2a(k:Nat)(ws:List Wa):shV (.again k ws)=123::(a41 ws++125::dg k):=by rw [shV,b55];rfl
theorem c6q(w:Wa):(∃k ps,w= .rows k ps/\X2 w= .tuple [a9T,.int (k:Nat),.list (x8 ps)])\/∃k ws,w= .again k ws/\X2 w= .tuple [C9,.int (k:Nat),.list (j8 ws)]:=by
 cases w with
 |rows k ps=>exact .inl ⟨k,ps,rfl,by rw [X2]⟩
 |again k ws=>exact .inr ⟨k,ws,rfl,by rw [X2]⟩
theorem a6o:∀{ws:List Wa} {w:Wa},U8 ws->w∈ws->gVx w
 |q::ws,w,h,hp=>by
  rw [U8] at h;rcases An.mp hp with e|hp
  ·rw [e];exact h.1
  ·exact a6o h.2 hp
theorem b0m:∀{ws:List Wa} {w:Wa},w∈ws->dpV w<=Q0 ws
 |q::ws,w,hp=>by
  rw [Q0];rcases An.mp hp with e|hp
  ·rw [e];exact Nat.le_max_left _ _
  ·exact Nat.le_trans (b0m hp) (Nat.le_max_right _ _)
mutual
theorem b8h:∀{w:Wa},gVx w->1<=knV w
 | .rows k ps,v=>by rw [gVx] at v;rw [knV];exact v.2.1
 | .again k ws,v=>by
   rw [gVx] at v;rw [knV];have:=Nat.mul_le_mul (a5G v.2.1 v.2.2) v.1.1
   lia
theorem a5G:∀{ws:List Wa},ws≠[]->U8 ws->1<=w6 ws
 |[],h,_=>absurd rfl h
 |w::ws,_,v=>by
  rw [U8] at v;rw [w6];have:=b8h v.1
  lia
end
theorem b1a:∀{ws:List Wa},U8 ws->ws.length<=w6 ws
 |[],_=>AN _
 |w::ws,v=>by
  rw [U8] at v;have h1:=b8h v.1;have h2:=b1a v.2;rw [w6,AU]
  lia
theorem b3R:∀{ws:List Wa} {w:Wa},w∈ws->knV w<=w6 ws
 |q::ws,w,hp=>by
  rw [w6];rcases An.mp hp with e|hp
  ·rw [e];lia
  ·have:=b3R hp
   lia
theorem a4L{k:Nat}{qs ws:List Wa}(g:U8 ws)(h:Wa.again k qs∈ws):U8 qs/\qs≠[]/\2<=k/\k<=24/\w6 qs*k<=w6 ws/\w6 qs<=w6 ws/\Q0 qs<Q0 ws:=by
 have g1:=a6o g h;have d:=b0m h;have e:=b3R h;rw [gVx] at g1;rw [dpV] at d;rw [knV] at e;have:w6 qs*1<=w6 qs*k:=Nat.mul_le_mul_left _ (by lia)
 exact⟨g1.2.2,g1.2.1,g1.1.1,g1.1.2,e,by lia,by lia⟩
theorem a6c(k:Nat)(ps:List Pa):unV (.rows k ps)=(Ab k).map λ_=>B3 ps:=by rw [unV]
theorem a4b(k:Nat)(ws:List Wa):unV (.again k ws)=((Ab k).map λ_=>B7 ws).flatten:=by rw [unV]
mutual
theorem b4t:∀w:Wa,(unV w).length=knV w
 | .rows k ps=>by rw [a6c,knV];simp
 | .again k ws=>by rw [a4b,Z7,knV,a0S ws,Nat.mul_comm]
theorem a0S:∀ws:List Wa,(B7 ws).length=w6 ws
 |[]=>by rw [B7,w6];rfl
 |w::ws=>by rw [B7,w6,AW,b4t w,a0S ws]
end
theorem c2x(p q:Pa)(ps:List Pa):shL (p::q::ps)=shP p++32::shL (q::ps):=by
 unfold shL;rw [AG,AG];show shP p++[32]++a09 [32] (shP q::ps.map shP)=_;simp
theorem c4T(k:Nat)(h:k<=24):∀x∈dg k,x<=57:=by
 intro x hx;unfold dg at hx;split at hx
 ·simp at hx;lia
 ·simp at hx;lia
theorem c7J(k:Nat)(h:k<=24):∀x∈wt k,x<=57:=by
 intro x hx;unfold wt at hx;split at hx
 ·cases hx
 ·exact c4T k h x hx
mutual
theorem c2y:∀{p:Pa},okP p->∀x∈shP p,x≠93
 | .run c k,g,x,hx=>by
   obtain⟨g1,g2,g3⟩:=g;rw [b4p] at hx;rcases An.mp hx with e|h
   ·lia
   ·have:=c7J k g2 x h
    lia
 | .again k ps,g,x,hx=>by
   obtain⟨g1,g2,_,g4⟩:=g;rw [a2M] at hx;rcases An.mp hx with e|h
   ·lia
   ·rcases Aq.mp h with h|h
    ·exact b7t g4 x h
    ·rcases An.mp h with e|h
     ·lia
     ·have:=c4T k g2 x h
      lia
theorem b7t:∀{ps:List Pa},okL ps->∀x∈shL ps,x≠93
 |[],_,x,hx=>by cases hx
 |[p],g,x,hx=>by exact c2y g.1 x hx
 |p::q::ps,g,x,hx=>by
  rw [c2x] at hx;rcases Aq.mp hx with h|h
  ·exact c2y g.1 x h
  ·rcases An.mp h with e|h
   ·lia
   ·exact b7t g.2 x h
end
mutual
theorem c5p:∀{p:Pa},okP p->2 ^ dpP p<=(unP p).length
 | .run c k,g=>by rw [dpP,a43];exact g.1
 | .again k ps,g=>by
   have h:=b0N g.2.2.1 g.2.2.2;have:=Nat.mul_le_mul g.1 h;rw [dpP,a1F,Nat.pow_succ,Nat.mul_comm];exact this
theorem b0N:∀{ps:List Pa},ps≠[]->okL ps->2 ^ dpL ps<=(B3 ps).length
 |[],h,_=>absurd rfl h
 |p::ps,_,g=>by
  have h1:=c5p g.1;rw [dpL,B3,AW]
  by_cases e:ps=[]
  ·subst e;rw [dpL,Nat.max_zero]
   lia
  ·have h2:=b0N e g.2;rcases Nat.le_total (dpP p) (dpL ps) with z|z
   ·rw [Nat.max_eq_right z];lia
   ·rw [Nat.max_eq_left z];lia
end
mutual
theorem c0N:∀{p:Wa},gVx p->2 ^ dpV p<=knV p
 | .rows k ps,g=>by rw [gVx] at g;rw [dpV,knV];exact g.2.1
 | .again k ps,g=>by
   rw [gVx] at g;have h:=b0l g.2.1 g.2.2;have:=Nat.mul_le_mul h g.1.1;rw [dpV,knV,Nat.pow_succ];exact this
theorem b0l:∀{ps:List Wa},ps≠[]->U8 ps->2 ^ Q0 ps<=w6 ps
 |[],h,_=>absurd rfl h
 |[p],_,g=>by
  rw [U8] at g;have:=c0N g.1;rw [Q0,Q0,w6,w6,Nat.max_eq_left (Nat.zero_le _)]
  lia
 |p::q::ps,_,g=>by
  rw [U8] at g;have h1:=c0N g.1;have h2:=b0l (ps:=q::ps) (by simp) g.2
  rw [Q0,w6];rcases Nat.le_total (dpV p) (Q0 (q::ps)) with z|z
  ·rw [Nat.max_eq_right z];lia
  ·rw [Nat.max_eq_left z];lia
end
theorem a8l{d k:Nat}(h:2 ^ d<=k)(hk:k<=24):d<=4:=by
 apply Classical.byContradiction;intro z;have:2 ^ 5<=2 ^ d:=Nat.pow_le_pow_right (by lia) (by lia)
 have:(2:Nat)^ 5=32:=by decide
 lia
theorem c3B{pre a b:List Nat}{c:Nat}(h:∀x∈a,x≠c):b74 (S (pre++(a++c::b))) (S [c]) (pre.length:Nat)=((pre.length+a.length:Nat):Int):=by
 have sp:=PySem.StrLaws.find3_spec (S (pre++(a++c::b))) c (pre.length:Nat);have f:fromIndex (S (pre++(a++c::b))).length (pre.length:Nat)=pre.length:=by
  unfold fromIndex;rw [if_neg (by lia)]
  lia
 have gd:∀v,(S (pre++(a++c::b))).cps.getD v 0=(pre++(a++c::b)).getD v 0:=λv=>by simp [S,Array.getD,List.getD_eq_getElem?_getD];split<;>simp_all
 rw [f,a1L] at sp;simp only [gd] at sp;have show_:b74 (S (pre++(a++c::b))) (S [c]) (pre.length:Nat)=Txt.find3 (S (pre++(a++c::b))) ⟨#[c]⟩ (pre.length:Nat):=rfl;rw [show_];have inA:∀v,pre.length<=v->v<pre.length+a.length->(pre++(a++c::b)).getD v 0≠c:=λv h1 h2=>by
  rw [List.getD_eq_getElem?_getD,List.getElem?_append_right h1,BE (by lia),BC (by lia)]
  exact h _ (List.getElem_mem (l:=a) (n:=v - pre.length) (by lia))
 have aty:(pre++(a++c::b)).getD (pre.length+a.length) 0=c:=by
  rw [List.getD_eq_getElem?_getD,List.getElem?_append_right (by lia),List.getElem?_append_right (by lia),show pre.length+a.length - pre.length - a.length=0 by lia]
  rfl
 rcases sp with⟨_,h⟩|⟨k,h1,h2,h3,h4,h5⟩
 ·exact absurd aty (h _ (by lia) (by simp))
 ·rw [h1];have hk1:¬k<pre.length+a.length:=λz=>inA k h2 z h4;have hk2:¬pre.length+a.length<k:=λz=>h5 _ (by lia) z aty
  have:k=pre.length+a.length:=by lia
  rw [this]
theorem Y0:∀ws:List Wa,j8 ws=ws.map X2
 |[]=>by rw [j8];rfl
 |w::ws=>by rw [j8,AG,Y0 ws]
abbrev fnW:PV:=A6 (AQ "weaving_part_at")
def KW:Kg Wa where
 sh:=shV
 pv:=X2
 ag:= .again
 op:=123
 cl:=125
 fn:=AQ "weaving_part_at"
 sha:=a2a
 pva:=λk ps=>by rw [X2,Y0]
 cln:=⟨by decide,by unfold isD;lia⟩
theorem c3Y{b:MX}{inm:Str->Bool}{hd:MS}{ρ:c9}{f:Fl}(h:b ρ=ξ (.fl f)):b9L b inm hd ρ=ξ f:=by
 unfold b9L;rw [h];rfl
theorem c1e(t:List Nat)(i:Int):b2N (.v (row t)) (.v (row [93])) (.v (.int i))=φ (.int (b74 (S t) (S [93]) i)):=rfl
theorem c4r{pre post:List Nat}{k:Nat}{ps:List Pa}(g:gFo ps)(k1:1<=k)(k2:k<=24)(hp:∀y r,post=y::r->¬isD y){T:List Nat}(eT:T=pre++(shL ps++93::(wt k++post)))(hT:T.length<=10000):a6p [row T,.int (pre.length:Nat)]=φ (.tuple [X2 (.rows k ps),.int ((pre.length+(shL ps).length+1+(wt k).length:Nat):Int)]):=by
 have fd:=c1e T (pre.length:Nat);rw [eT,c3B (b7t g.1),<-eT] at fd;have s93:AQ "]"=S [93]:=rfl;have g1:decide (((pre.length+(shL ps).length:Nat):Int)<0)=false:=decide_eq_false (by lia)
 have e2:T=(pre++shL ps++[93])++(wt k++post):=by rw [eT];simp
 have sl:=b7u (pre:=pre) (ds:=shL ps) (post:=93::(wt k++post)) (by rw [<-eT];exact hT)
 rw [<-eT] at sl;have rd0:=c4o g.1 g.2.1 g.2.2.2 g.2.2.1;have tm:=b6b (pre:=pre++shL ps++[93]) (post:=post) k1 (by lia) hp (by rw [<-e2];exact hT)
 have hl2:(pre++shL ps++[93]).length=pre.length+(shL ps).length+1:=by simp;lia
 rw [<-e2,hl2] at tm;have e1:((pre.length+(shL ps).length:Nat):Int)+1=((pre.length+(shL ps).length+1:Nat):Int):=by lia
 clear eT e2 hl2;have ma:(a6 (F9 (a8 0) (A2 (a8 1)) (A2 (a8 2))) b9) [φ (row T),φ (.int (pre.length:Nat)),φ (.int ((pre.length+(shL ps).length:Nat):Int)),ζ,ζ]=ξ [row (shL ps)]:=by simp! [b5,d3,b8,b6,b7,AD,k6,k7,u4,sl]
 have tr:b9L (b22 3 a1z (a6 (F9 (a8 0) (A2 (a8 1)) (A2 (a8 2))) b9)) (inL ["NoFold"]) (t6 (mC .none)) [φ (row T),φ (.int (pre.length:Nat)),φ (.int ((pre.length+(shL ps).length:Nat):Int)),ζ,ζ]=ξ (.nx [φ (row T),φ (.int (pre.length:Nat)),φ (.int ((pre.length+(shL ps).length:Nat):Int)),φ (.list (x8 ps)),ζ]):=by
  rw [c3Y (c32 ma rd0)]
  rfl
 have is2:∀y:PV,a1U false (.v (.tuple [.int (k:Nat),y])) (.v .none)=φ (.bool false):=λ_=>rfl;have pe:X2 (.rows k ps)= .tuple [.str (AQ "rows"),.int (k:Nat),.list (x8 ps)]:=by rw [X2]
 rw [pe];unfold a6p b2v;rw [s93];generalize pre.length+(shL ps).length=e at*;simp! [l6,a67,a2r,a1w,d8,e8,b5,d3,b8,b6,b7,v9,e9,g7,p8,j7,u5,f8,i6,f6,y0,l7,i3,j5,g5,i7,AD,AG,AR,Ac,AX,Aa,AY,AS,AT,AU,Ad,↓reduceIte,sz,Nat.reduceAdd,Ai,a5L,fd,g1,tr,e1,tm,is2]
 try rfl
theorem b7s{RA RF RP:Λ}{pre post:List Nat}{k:Nat}{ps:List Pa}{left:Int}(g:gVx (.rows k ps))(hp:∀y r,post=y::r->¬isD y){T:List Nat}(eT:T=pre++(shV (.rows k ps)++post))(hT:T.length<=10000):
 k4 0 (I0 RA RP RF) [row T,.int (pre.length:Nat),.int left]=φ (.tuple [X2 (.rows k ps),.int ((pre.length+(shV (.rows k ps)).length:Nat):Int)]):=by
 rw [gVx] at g
 rw [a8C] at eT ⊢
 have e2:T=pre++91::(shL ps++93::(wt k++post)):=by rw [eT];simp
 have st:=a0o (pre:=pre) (r:=shL ps++93::(wt k++post)) (x:=91) (y:=123)
 have st2:=a0o (pre:=pre) (r:=shL ps++93::(wt k++post)) (x:=91) (y:=91)
 rw [<-e2,decide_eq_false (by decide)] at st
 rw [<-e2,decide_eq_true rfl] at st2
 have tm:=c4r (pre:=pre++[91]) (post:=post) g.1 g.2.1 g.2.2 hp (T:=T) (by rw [e2];simp) hT
 have el:(pre++[91]).length+(shL ps).length+1+(wt k).length=pre.length+(91::(shL ps++93::wt k)).length:=by simp;lia
 rw [el,AW,List.length_singleton] at tm
 have e1:(pre.length:Int)+1=((pre.length+1:Nat):Int):=by lia
 have s1:AQ "{"=S [123]:=rfl
 have s2:AQ "["=S [91]:=rfl
 clear eT e2 el
 unfold I0
 rw [s1,s2]
 generalize pre.length+(91::(shL ps++93::wt k)).length=e at*
 simp! [l6,d8,e8,b5,d3,b8,b6,b7,e9,j7,u5,f8,i6,a0R,f6,D8,y0,l7,i3,j5,G3,Y2,AD,AG,AR,AX,Af,a5L,st,st2,e1,tm]
 try rfl
theorem b4J{RA RF RP:Λ}{pre r:List Nat}{left:Int}{v:PV}{T:List Nat}(eT:T=pre++123::r)
 (hA:RA [row T,.int ((pre.length+1:Nat):Int),.int left,fnW,row [125]]=φ v):k4 0 (I0 RA RP RF) [row T,.int (pre.length:Nat),.int left]=φ v:=by
 have st:=a0o (pre:=pre) (r:=r) (x:=123) (y:=123)
 rw [<-eT,decide_eq_true rfl] at st
 have e1:(pre.length:Int)+1=((pre.length+1:Nat):Int):=by lia
 have s1:AQ "{"=S [123]:=rfl
 have s2:AQ "}"=S [125]:=rfl
 unfold I0
 rw [s1,s2]
 simp! [l6,d8,e8,b5,d3,b8,b6,b7,e9,j7,u5,f8,a0R,f6,D8,i3,j5,G3,Y2,AD,AG,AR,AX,Af,a5L,st,e1,hA]
theorem b27:∀(n:Nat) (ps:List Wa) (pre post:List Nat) (left:Nat) (T:List Nat),U8 ps->ps≠[]->w6 ps<=24->Q0 ps<=left->3*Q0 ps+2<=n->stop KW post->T=pre++(a41 ps++post)->T.length<=10000->
 W4 n [row T,.int (pre.length:Nat),.int (left:Nat),fnW]=φ (.tuple [.list (j8 ps),.int ((pre.length+(a41 ps).length:Nat):Int)])
 |0,_,_,_,_,_,_,_,_,_,h,_,_,_=>by lia
 |1,_,_,_,_,_,_,_,_,_,h,_,_,_=>by lia
 |m+2,ps,pre,post,left,T,ok,hne,hl,hd,hn,hs,eT,hT=>by
  have hm:=b1a ok;rw [Y0];refine b28 (K:=KW) (RF:=E8 (m+1)) rfl hs hne eT (λp hp pre' post' hD eT'=> ?_) (by lia)
  cases p with
  |rows k qs=>exact b7s (RA:=a1V m) (RF:=E8 m) (RP:=W4 m) (a6o ok hp) hD eT' hT
  |again k qs=>
   obtain⟨h1,h2,h3,h4,h5,h6,h7⟩:=a4L ok hp;obtain⟨m',rfl⟩:∃m',m=m'+1:=⟨m - 1,by lia⟩
   have eT':T=pre'++(shV (.again k qs)++post'):=eT';have ih:=b27 m' qs (pre'++[123]) (125::(dg k++post')) (left - 1) T h1 h2 (by lia) (by lia) (by lia) (.inr ⟨_,rfl⟩) (by rw [eT',a2a];simp) hT
   rw [AW,List.length_singleton,show((left - 1:Nat):Int)=(left:Int) - 1 by lia,Y0] at ih
   refine b4J (RA:=a1V (m'+1)) (RF:=E8 (m'+1)) (RP:=W4 (m'+1)) (r:=a41 qs++125::dg k++post') (by rw [eT',a2a];simp) ?_
   exact b4K (K:=KW) (RA:=a1V m') (RF:=E8 m') (RP:=W4 m') h3 (by lia) (by lia) hD eT' hT ih
theorem c4Y:∀ls:List (List Nat),a09 [] ls=ls.flatten
 |[]=>rfl
 |[x]=>by simp [a09]
 |x::y::r=>by
  have:=c4Y (y::r);simp only [a09,List.flatten_cons] at this ⊢;rw [this];simp
theorem b8g{rows:List (List Nat)}{y:d4}(h:PyData.items? y.rd=ξ (rows.map row))(hl:rows.flatten.length<=10000):T7 (.v (.str (AQ ""))) y=φ (row rows.flatten):=by
 have:=a66 (sep:=[]) h (by
  have e:(rows.map (·.length)).sum=rows.flatten.length:=by rw [List.length_flatten]
  rw [e,Ad,Nat.mul_zero,Nat.add_zero];lia)
 rw [c4Y] at this;exact this
theorem V6:∀ps:List Pa,B3 ps=(ps.map unP).flatten
 |[]=>by rw [B3];rfl
 |p::ps=>by rw [B3,AG,List.flatten_cons,V6 ps]
theorem b5p{R:Λ}{q0:Υ d4}:∀(ps:List Pa) (acc:List (List Nat)) (q2:Υ d4),okL ps->(B3 ps).length<=24->(∀k qs,Pa.again k qs∈ps->R [.list (x8 qs)]=φ (row (B3 qs)))->acc.length+ps.length<10000->
 ∃q2',O1 (J2 R) (g9 2) (x8 ps) [q0,ξ (.own (acc.map row)),q2]=ξ (.nx [q0,ξ (.own ((acc++ps.map unP).map row)),q2'])
 |[],acc,q2,_,_,_,_=>⟨q2,by rw [x8,AR,Af];rfl⟩
 |p::ps,acc,q2,ok,hl,hR,hn=>by
  rw [AU] at hn;rw [B3,AW] at hl;obtain⟨q2',e⟩:=b5p (R:=R) (q0:=q0) ps (acc++[unP p]) (φ (E2 p)) ok.2 (by lia) (λk qs h=>hR k qs (Al _ h)) (by rw [AW,List.length_singleton];lia)
  refine⟨q2', ?_⟩;have hb:J2 R [q0,ξ (.own (acc.map row)),φ (E2 p)]=ξ (.nx [q0,ξ (.own ((acc++[unP p]).map row)),φ (E2 p)]):=by
   have fin:∀m:M,m [q0,ξ (.own (acc.map row)),φ (E2 p)]=φ (row (unP p))->D6 1 m [q0,ξ (.own (acc.map row)),φ (E2 p)]=ξ (.nx [q0,ξ (.own ((acc++[unP p]).map row)),φ (E2 p)]):=λm hm=>by
    rw [B5 hm rfl rfl (by rw [AZ];lia),Ao]
    rfl
   rcases a6S p with⟨c,k,rfl,ep⟩|⟨k,qs,rfl,ep⟩
   ·ext f
    ext r
    ext l
    rw [a43] at hl;have cm:=a0m (ι:=λj:Nat=>PyData.int (j:Nat)) (f:=λ_=>row [c]) (k:=1) (it:=a0V (a6 (m2 l9 (a8 2) (mC (.int 2))) b9)) (elt:=a0H R) (tg:=g9 3) (ρ:=[q0,ξ (.own (acc.map row)),φ (E2 (.run c k))]) (Ab k) (b20 (n:=k) (by simp! [d8,e8,b5,d3,AD,i2]) (by lia)) (by rw [Ax];lia) λj _=>⟨_,rfl,by unfold a0H;simp! [d8,e8,b5,d3,b7,AD,Ac,AX,Aa,AY,AS,AT,i1]⟩
    have jn:T7 (.v (.str (AQ ""))) (.own ((Ab k).map λ_=>row [c]))=φ (row (unP (.run c k))):=by
     have:=b6S (k:=k) (by lia) λ_=>c
     rw [unP];exact this
    unfold J2;simp! [d8,e8,b5,d3,f6,D8,g5,i7,AD,i0,c0X];exact fin _ (by simp! [d8,e8,AD,cm,jn])
   ·ext e
    ext j
    ext c
    rw [a1F] at hl;have hk:=ok.1;obtain⟨k1,k2,_,_⟩:=hk;have hr:=hR k qs Ak;have cm:=a0m (ι:=λj:Nat=>PyData.int (j:Nat)) (f:=λ_=>row (B3 qs)) (k:=1) (it:=a0V (a6 (m2 l9 (a8 2) (mC (.int 1))) b9)) (elt:=a0I R) (tg:=g9 3) (ρ:=[q0,ξ (.own (acc.map row)),φ (E2 (.again k qs))]) (Ab k) (b20 (n:=k) (by simp! [d8,e8,b5,d3,AD,i1]) (by lia)) (by rw [Ax];lia) λj _=>⟨_,rfl,by unfold a0I;simp! [d8,e8,b5,d3,b8,b6,b7,e9,AD,Ac,AX,Aa,AY,AS,AT,i2,hr]⟩
    have jn:T7 (.v (.str (AQ ""))) (.own ((Ab k).map λ_=>row (B3 qs)))=φ (row (unP (.again k qs))):=by
     rw [unP];exact b8g (y:= .own ((Ab k).map λ_=>row (B3 qs))) (by rw [Ay];rfl) (by rw [Z7];lia)
    unfold J2;simp! [d8,e8,b5,d3,f6,y0,g5,i7,AD,i0,c0W];exact fin _ (by simp! [d8,e8,AD,cm,jn])
  rw [x8,O1];show(J2 R [q0,ξ (.own (acc.map row)),φ (E2 p)]).bind _=_;rw [hb,AD];rw [List.append_assoc] at e;exact e
theorem a74:∀(n:Nat) (ps:List Pa),okL ps->(B3 ps).length<=24->dpL ps<n->R6 n [.list (x8 ps)]=φ (row (B3 ps))
 |0,_,_,_,h=>by lia
 |n+1,ps,ok,hl,hd=>by
  have hm:=a8G ok;obtain⟨q2,e⟩:=b5p (R:=R6 n) (q0:=φ (.list (x8 ps))) ps [] ζ ok hl (λk qs hq=>by
   obtain⟨h1,h2,h3,h4,h5,h6,h7⟩:=b6f ok hq;exact a74 n qs h1 (by lia) (by lia)) (by simp;lia)
  ext x
  rw [AY] at e;have jn:T7 (.v (.str (AQ ""))) (.bo (.lst ((ps.map unP).map row)))=φ (row (B3 ps)):=by
   rw [V6];exact b8g (y:= .bo (.lst ((ps.map unP).map row))) rfl (by rw [<-V6];lia)
  show k4 2 (a0s (R6 n)) [.list (x8 ps)]=_;unfold a0s;simp! [b5,b8,b7,D9,g7,Z4,f8,i6,i3,u9,AD,AG,AR,Ac,AX,Aa,AY,AS,AT,Ad,↓reduceIte,F8,sz,Ai,hit];rw [show(ξ (d4.own []))=ξ (d4.own (([]:List (List Nat)).map row)) from rfl,e];simp! [d8,e8,a4N,d3,j7,u5,i6,j5,AD,jn]
theorem b4k(ps:List Pa):(x8 ps).length=ps.length:=by rw [a0M,AZ]
theorem b7y{k:Nat}(hk:k<25):b9u (.v (.int (k:Nat)))=φ (row (dg k)):=by
 match k,hk with
 |0,_=>rfl
 |1,_=>rfl
 |2,_=>rfl
 |3,_=>rfl
 |4,_=>rfl
 |5,_=>rfl
 |6,_=>rfl
 |7,_=>rfl
 |8,_=>rfl
 |9,_=>rfl
 |10,_=>rfl
 |11,_=>rfl
 |12,_=>rfl
 |13,_=>rfl
 |14,_=>rfl
 |15,_=>rfl
 |16,_=>rfl
 |17,_=>rfl
 |18,_=>rfl
 |19,_=>rfl
 |20,_=>rfl
 |21,_=>rfl
 |22,_=>rfl
 |23,_=>rfl
 |24,_=>rfl
 |k+25,h=>lia
theorem c45{k:Nat}(hk:k<25):R5 [.int (k:Nat)]=φ (row (wt k)):=by
 unfold R5 a47 wt
 by_cases c:k=1
 ·subst c
  rfl
 ·rw [if_neg c];have c':((k:Int)==1)=false:=by rw [beq_eq_false_iff_ne];lia
  simp! [d8,m9,e8,b5,j7,u5,f8,i6,f6,y0,l7,i3,j5,g5,i7,AD,AG,AR,AX,Af,a9M,c',b7y hk]
theorem c1z{ls:List (List Nat)}{y:d4}(h:PyData.items? y.rd=ξ (ls.map row))(hl:(ls.map λl=>l.length+1).sum<=10000):T7 (.v (.str (AQ " "))) y=φ (row (a09 [32] ls)):=by
 refine a66 (sep:=[32]) h ?_;have e:∀ls:List (List Nat),(ls.map (·.length)).sum+ls.length*[32].length=(ls.map λl=>l.length+1).sum:=λls=>by
  induction ls with
  |nil=>rfl
  |cons x r ih=>
   simp only [AG,List.sum_cons,AU,Ad] at ih ⊢
   lia
 rw [e];lia
theorem c4v{RF RP:Λ}{p:Pa}(ok:okP p)(hl:(unP p).length<=24)(hF:∀k qs,p= .again k qs->RF [.list (x8 qs)]=φ (row (shL qs))):k4 0 (Q6 RF RP) [E2 p]=φ (row (shP p)):=by
 have hsl:=b8G ok;unfold Q6;rcases a6S p with⟨c,k,rfl,ep⟩|⟨k,qs,rfl,ep⟩
 ·ext f
  ext r
  ext l
  rw [a43] at hl;have w:=c45 (k:=k) (by lia)
  have ad:=a3n (l:=[c]) (k:=wt k) (by have:=b4w k;simp;lia)
  rw [b4p];simp! [d8,e8,b5,b8,b6,b7,e9,j7,u5,f8,a0R,f6,D8,i3,j5,g5,i7,AD,AG,AR,AX,Af,Aa,AY,i0,i1,i2,c0X,w,ad]
 ·ext e
  ext j
  ext c
  have hr:=hF k qs rfl;obtain⟨k1,k2,_,okq⟩:=ok;have d2:=a4w k;rw [a2M,AU,AW,AU] at hsl;have a1:=a3n (l:=[40]) (k:=shL qs) (by simp;lia)
  have a2:=a3n (l:=40::shL qs) (k:=[41]) (by simp;lia)
  have a3:=a3n (l:=40::(shL qs++[41])) (k:=dg k) (by simp;lia)
  have e:40::(shL qs++[41])++dg k=shP (.again k qs):=by rw [a2M];simp
  rw [e] at a3;have s1:AQ "("=S [40]:=rfl;have s2:AQ ")"=S [41]:=rfl;rw [s1,s2];simp! [d8,m9,e8,b5,b8,b6,b7,e9,j7,u5,f8,i6,f6,y0,l7,i3,j5,g5,i7,AD,AG,AR,AX,Af,Aa,AY,i0,i1,i2,c0W,hr,a1,a2,b7y (k:=k) (by lia),a3]
theorem b56:∀(n:Nat) (ps:List Pa),okL ps->(B3 ps).length<=24->2*dpL ps+2<=n->S6 n [.list (x8 ps)]=φ (row (shL ps))
 |0,_,_,_,h=>by lia
 |1,_,_,_,h=>by lia
 |m+2,ps,ok,hl,hd=>by
  have hm:=a8G ok;have cm:=a0m (ι:=E2) (f:=λp=>row (shP p)) (k:=1) (it:=a1Z (a8 0)) (elt:=a1H (S6 (m+1)) (K1 (m+1))) (tg:=g9 1) (ρ:=[φ (.list (x8 ps))]) ps
   (a5N (r:= .v (.list (x8 ps))) rfl (by rw [a0M];rfl)) (by lia) λp hp=>⟨_,rfl,by
    have:=b4v hp;have e:K1 (m+1) [E2 p]=φ (row (shP p)):=c4v (RF:=S6 m) (RP:=K1 m) (a6t ok hp) (by lia) λk qs hq=>by
     subst hq;obtain⟨h1,h2,h3,h4,h5,h6,h7⟩:=b6f ok hp;exact b56 m qs h1 (by lia) (by lia)
    unfold a1H;simp! [b5,d3,b8,b6,b7,e9,AD,Ac,AX,Aa,AY,AS,AT,e]⟩
  have hs:=b0w ok;have jn:T7 (.v (.str (AQ " "))) (.own (ps.map λp=>row (shP p)))=φ (row (shL ps)):=
   c1z (ls:=ps.map shP) (y:= .own (ps.map λp=>row (shP p))) (by rw [Ay];rfl) (by
    rw [Ay];have h6:(ps.map ((λl=>l.length+1)∘shP)).sum=(ps.map λp=>(shP p).length+1).sum:=rfl
    lia)
  show k4 0 (a1R (S6 (m+1)) (K1 (m+1))) [.list (x8 ps)]=_;unfold a1R;simp! [d8,e8,j7,u5,i3,j5,AD,AG,AR,AX,Af,cm,jn]
theorem a1c(c:Int):∃N:Int,0<=N/\G1 [.int c]=φ (.int N):=by
 refine⟨(c % 2147483629+48611)*69621 % 2147483629,by lia, ?_⟩
 unfold G1 a7G;simp! [l6,T8,C4,d8,e8,b5,j7,u5,i3,j5,AD,AG,AR,AX,Af]
theorem b0j{cs:List Int}(h:0<cs.length)(a:Int):∃c:Int,l9 (.v (.list (cs.map .int))) (.v (.int (a %(cs.length:Int))))=φ (.int c):=by
 have h0:0<=a %(cs.length:Int):=Int.emod_nonneg _ (by lia)
 have h1:a %(cs.length:Int)<cs.length:=Int.emod_lt_of_pos _ (by lia)
 have hk:(a %(cs.length:Int)).toNat<cs.length:=by lia
 refine⟨cs[(a %(cs.length:Int)).toNat],a7V ?_⟩;rw [b6x h0,Az,BC hk]
 rfl
abbrev L5:List Nat:=[97,98,99,120,122]
abbrev fv5(l:List Nat):Prop:=∀x∈l,x∈L5
theorem c2k{x:Nat}(h:x∈L5):97<=x/\x<=122:=by
 simp only [L5,An,List.not_mem_nil,or_false] at h
 lia
theorem c4O{c k:Nat}(h:c∈L5):fv5 (unP (.run c k)):=λx hx=>by
 rw [unP] at hx;obtain⟨_,_,rfl⟩:=Ah.mp hx;exact h
theorem c0h{k:Nat}{qs:List Pa}(h:fv5 (B3 qs)):fv5 (unP (.again k qs)):=λx hx=>by
 rw [unP] at hx;obtain⟨l,hl,hx⟩:=List.mem_flatten.mp hx;obtain⟨_,_,rfl⟩:=Ah.mp hl;exact h x hx
theorem c2R{ps:List Pa}{p:Pa}(h:fv5 (B3 ps))(g:fv5 (unP p)):fv5 (B3 (ps++[p])):=λx hx=>by
 rw [V6,Ao,List.flatten_append] at hx;rcases Aq.mp hx with hx|hx
 ·exact h x (by rw [V6];exact hx)
 ·exact g x (by simpa using hx)
theorem c5l{N:Int}(h:0<=N):∃c,c∈L5/\l9 (.v (.str (AQ "abcxz"))) (.v (.int (N / 405 % 5)))=φ (row [c]):=by
 have:N / 405 % 5=0\/N / 405 % 5=1\/N / 405 % 5=2\/N / 405 % 5=3\/N / 405 % 5=4:=by lia
 rcases this with e|e|e|e|e<;>rw [e]
 ·exact⟨97,by simp,rfl⟩
 ·exact⟨98,by simp,rfl⟩
 ·exact⟨99,by simp,rfl⟩
 ·exact⟨120,by simp,rfl⟩
 ·exact⟨122,by simp,rfl⟩
theorem b9n{R:Λ}{cs:List Int}(hcs:0<cs.length){deep g B:Nat}(hdeep:deep<=3)
 (hR:0<deep->∀a room:Nat,1<=room->room<=24->a<=B->∃(qs:List Pa) (a':Nat),(okL qs/\fv5 (B3 qs))/\qs≠[]/\(B3 qs).length<=room/\dpL qs+1<=deep/\a'<=a+g/\R [.list (cs.map .int),.int (a:Nat),.int (room:Nat),.int ((deep:Int) - 1)]=φ (.tuple [.list (x8 qs),.int (a':Nat)]))
 {a left:Nat} (ha:a<=40000) (hB:a+2<=B) (hl:0<left) (hl2:left<=24) {acc:List PV} (hacc:acc.length<1000) (q2 q6 q7 q8 q9 q10:Υ d4):
 ∃(p:Pa) (a' left':Nat) (q8' q9' q10':Υ d4),(okP p/\fv5 (unP p))/\dpP p<=deep/\(unP p).length+left'=left/\a'<=a+2+g/\
  N9 R [φ (.list (cs.map .int)),φ (.int (a:Nat)),q2,φ (.int (deep:Nat)),ξ (.own acc),φ (.int (left:Nat)),q6,q7,q8,q9,q10]
  =ξ (.nx [φ (.list (cs.map .int)),φ (.int (a':Nat)),q2,φ (.int (deep:Nat)),ξ (.own (acc++[E2 p])),φ (.int (left':Nat)),q6,q7,q8',q9',q10']):=by
 obtain⟨c,hc⟩:=b0j hcs (((a+1:Nat):Int))
 obtain⟨N,hN,eN⟩:=a1c (c+5*((a+1:Nat):Int))
 have gl:y9 (.v (.list (cs.map .int)))=φ (.int (cs.length:Nat)):=by rw [W1,AZ]
 have e1:(a:Int)+1=((a+1:Nat):Int):=by lia
 have p0:decide ((0:Int)<(left:Int))=true:=decide_eq_true (by lia)
 by_cases hb:0<deep/\1<left/\N % 3=0
 ·obtain⟨b1,b2,b3⟩:=hb
  obtain⟨m,hm,ma1,ma2⟩:∃m:Nat,(if(left:Int) - 1<3 then(left:Int) - 1 else 3)=(m:Int)/\1<=m/\m+1<=left/\m<=3:=⟨(if(left:Int) - 1<3 then(left:Int) - 1 else 3).toNat,by split<;>lia,by split<;>lia,by split<;>lia,by split<;>lia⟩
  have r0:0<=N / 3 %(m:Int):=Int.emod_nonneg _ (by lia)
  have r1:N / 3 %(m:Int)<m:=Int.emod_lt_of_pos _ (by lia)
  obtain⟨k,hk,k1,k2,k3⟩:∃k:Nat,2+N / 3 %(m:Int)=(k:Int)/\2<=k/\k<=left/\k<=4:=⟨(2+N / 3 %(m:Int)).toNat,by lia,by lia,by lia,by lia⟩
  have hroom:1<=left / k:=(Nat.le_div_iff_mul_le (by lia)).mpr (by lia)
  have hroom2:left / k<=24:=Nat.le_trans (Nat.div_le_self _ _) hl2
  obtain⟨qs,a',⟨okq,q5q⟩,qne,hq,dq,ha',eR⟩:=hR b1 (a+2) (left / k) hroom hroom2 (by lia)
  have hmul:k*(B3 qs).length<=left:=by
   have:=Nat.mul_le_mul_left k hq;have:=Nat.mul_div_le left k
   lia
  have hlu:C5 [.list (x8 qs)]=φ (row (B3 qs)):=a74 26 qs okq (by lia) (by lia)
  have gl2:=R4 (l:=B3 qs) (by lia)
  have c1:decide ((0:Int)<(deep:Int))=true:=decide_eq_true (by lia)
  have c2:decide ((1:Int)<(left:Int))=true:=decide_eq_true (by lia)
  have c3:(N % 3==0)=true:=by rw [beq_iff_eq];exact b3
  have e2:((a+1:Nat):Int)+1=((a+2:Nat):Int):=by lia
  have e3:(left:Int)/(k:Int)=((left / k:Nat):Int):=(Int.natCast_ediv left k).symm
  have e4:(left:Int) - (k:Int)*((B3 qs).length:Int)=((left - k*(B3 qs).length:Nat):Int):=by rw [Int.ofNat_sub hmul,Int.natCast_mul]
  refine⟨.again k qs,a',left - k*(B3 qs).length,φ (.int N),φ (.int (k:Nat)),φ (.list (x8 qs)),⟨⟨k1,by lia,qne,okq⟩,c0h q5q⟩,by rw [dpP];lia,by rw [a1F];lia,by lia, ?_⟩
  have ep:E2 (.again k qs)= .tuple [C9,.int (k:Nat),.list (x8 qs)]:=by rw [E2]
  have ap:=B5 (i:=4) (m:=O2 (a6 (mC (.str (AQ "again"))) (a6 (a8 9) (a6 (a8 10) b9)))) (ρ:=[φ (.list (cs.map .int)),φ (.int (a':Nat)),q2,φ (.int (deep:Nat)),ξ (.own acc),φ (.int (left:Nat)),q6,q7,φ (.int N),φ (.int (k:Nat)),φ (.list (x8 qs))]) (r:= .v (E2 (.again k qs))) (p:=E2 (.again k qs)) (ps:=acc) (by rw [ep];simp! [e8,b5,d3,b8,b6,b7,v9,AD,AU,Ad,↓reduceIte,sz,Nat.reduceAdd,Ai]) rfl rfl (by lia)
  unfold N9
  simp! [l6,K3,T8,C4,G6,d8,m9,e8,b5,d3,b8,b6,b7,e9,g7,p8,f8,i6,f6,D8,g5,i7,z6,a01,b5w,c2Y,AD,AS,AT,a9M,p0,e1,gl,hc,eN,c1,c2,c3,hm,hk,e2,e3,eR,ap,hlu,gl2,e4]
 ·obtain⟨col,hcol,ecol⟩:=c5l hN
  have w0:0<=N / 81 % 5 / 4/\N / 81 % 5 / 4<=1:=by lia
  obtain⟨m,hm,ma1,ma2⟩:∃m:Nat,(if 3+9*(N / 81 % 5 / 4)<(left:Int) then 3+9*(N / 81 % 5 / 4) else(left:Int))=(m:Int)/\1<=m/\m<=left:=⟨(if 3+9*(N / 81 % 5 / 4)<(left:Int) then 3+9*(N / 81 % 5 / 4) else(left:Int)).toNat,by split<;>lia,by split<;>lia,by split<;>lia⟩
  have r0:0<=N / 3 %(m:Int):=Int.emod_nonneg _ (by lia)
  have r1:N / 3 %(m:Int)<m:=Int.emod_lt_of_pos _ (by lia)
  obtain⟨k,hk,k1,k2⟩:∃k:Nat,1+N / 3 %(m:Int)=(k:Int)/\1<=k/\k<=left:=⟨(1+N / 3 %(m:Int)).toNat,by lia,by lia,by lia⟩
  have e4:(left:Int) - (k:Int)=((left - k:Nat):Int):=by lia
  refine⟨.run col k,a+1,left - k,φ (.int N),φ (.int (k:Nat)),q10,⟨⟨k1,by lia,c2k hcol⟩,c4O hcol⟩,by rw [dpP];lia,by rw [a43];lia,by lia, ?_⟩
  have ep:E2 (.run col k)= .tuple [a6M,row [col],.int (k:Nat)]:=by rw [E2]
  have ap:=B5 (i:=4) (m:=O2 (a6 (mC (.str (AQ "run"))) (a6 (m2 l9 (mC (.str (AQ "abcxz"))) (m2 Θ (m2 Ω (a8 8) (mC (.int 405))) (mC (.int 5)))) (a6 (a8 9) b9)))) (ρ:=[φ (.list (cs.map .int)),φ (.int ((a+1:Nat):Int)),q2,φ (.int (deep:Nat)),ξ (.own acc),φ (.int (left:Nat)),q6,q7,φ (.int N),φ (.int (k:Nat)),q10]) (r:= .v (E2 (.run col k))) (p:=E2 (.run col k)) (ps:=acc) (by rw [ep];simp! [C4,G6,d8,e8,b5,d3,b8,b6,b7,v9,AD,AU,Ad,↓reduceIte,sz,Nat.reduceAdd,Ai,ecol]) rfl rfl (by lia)
  unfold N9
  by_cases b1:0<deep
  ·have c1:decide ((0:Int)<(deep:Int))=true:=decide_eq_true (by lia)
   by_cases b2:1<left
   ·have c2:decide ((1:Int)<(left:Int))=true:=decide_eq_true (by lia)
    have c3:(N % 3==0)=false:=by rw [beq_eq_false_iff_ne];exact λz=>hb ⟨b1,b2,z⟩
    simp! [l6,K3,T8,C4,G6,d8,m9,e8,b5,d3,b8,b6,b7,e9,g7,p8,f8,i6,f6,D8,y0,g5,i7,z6,a01,AD,AS,AT,a9M,p0,e1,gl,hc,eN,c1,c2,c3,hm,hk,ap,e4]
   ·have c2:decide ((1:Int)<(left:Int))=false:=decide_eq_false (by lia)
    simp! [l6,K3,T8,C4,G6,d8,m9,e8,b5,d3,b8,b6,b7,e9,g7,p8,f8,i6,f6,D8,y0,g5,i7,z6,a01,a4o,AD,AS,AT,p0,e1,gl,hc,eN,c1,c2,hm,hk,ap,e4]
  ·have c1:decide ((0:Int)<(deep:Int))=false:=decide_eq_false (by lia)
   simp! [l6,K3,T8,C4,G6,d8,m9,e8,b5,d3,b8,b6,b7,e9,g7,p8,f8,i6,f6,D8,y0,g5,i7,z6,a4o,AD,AS,AT,p0,e1,gl,hc,eN,c1,hm,hk,ap,e4]
theorem a36(ps:List Pa)(p:Pa):x8 (ps++[p])=x8 ps++[E2 p]:=by rw [a0M,a0M,Ao];rfl
theorem c2S(ps:List Pa)(p:Pa):(B3 (ps++[p])).length=(B3 ps).length+(unP p).length:=by
 rw [V6,V6,Ao,List.flatten_append,AW];simp
theorem a8b:∀{ps:List Pa} {p:Pa},okL ps->okP p->okL (ps++[p])
 |[],p,_,h=>⟨h,trivial⟩
 |q::ps,p,h,g=>⟨h.1,a8b h.2 g⟩
theorem a7M:∀{ps:List Pa} {p:Pa} {d:Nat},dpL ps<=d->dpP p<=d->dpL (ps++[p])<=d
 |[],p,d,_,h=>by
  show dpL [p]<=d;rw [dpL,dpL];lia
 |q::ps,p,d,h,g=>by
  rw [dpL] at h;rw [Aa,dpL];have:=a7M (ps:=ps) (p:=p) (d:=d) (by lia) g
  lia
def grw:Nat->Nat
 |0=>8
 |d+1=>4*(2+grw d)
theorem b76{cs:List Int}(hcs:0<cs.length):∀(n deep a room:Nat),deep<n->deep<=3->1<=room->room<=24->a<=30000 - grw deep->grw deep<=5000->
 ∃(ps:List Pa) (a':Nat),(okL ps/\fv5 (B3 ps))/\ps≠[]/\(B3 ps).length<=room/\dpL ps<=deep/\a'<=a+grw deep/\Q5 n [.list (cs.map .int),.int (a:Nat),.int (room:Nat),.int (deep:Nat)]=φ (.tuple [.list (x8 ps),.int (a':Nat)])
 |0,deep,a,room,h,_,_,_,_,_=>by lia
 |n+1,deep,a,room,hn,hd,hr1,hr2,ha,hg=>by
  obtain⟨c,hc⟩:=b0j hcs (a:Int);obtain⟨N,hN,eN⟩:=a1c (c+(a:Int));have gl:y9 (.v (.list (cs.map .int)))=φ (.int (cs.length:Nat)):=by rw [W1,AZ]
  obtain⟨mn,emn,mn1,mn2⟩:∃mn:Nat,1+N % 4=(mn:Int)/\1<=mn/\mn<=4:=⟨(1+N % 4).toNat,by lia,by lia,by lia⟩
  obtain⟨gi,hgi,hgi2,hR⟩:∃gi:Nat,4*(2+gi)<=grw deep/\gi<=5000/\(0<deep->∀b rm:Nat,1<=rm->rm<=24->b<=a+3*(2+gi)+2->∃(qs:List Pa) (a':Nat),(okL qs/\fv5 (B3 qs))/\qs≠[]/\(B3 qs).length<=rm/\dpL qs+1<=deep/\a'<=b+gi/\Q5 n [.list (cs.map .int),.int (b:Nat),.int (rm:Nat),.int ((deep:Int) - 1)]=φ (.tuple [.list (x8 qs),.int (a':Nat)])):=by
   cases deep with
   |zero=>exact⟨0,by show 4*(2+0)<=8;lia,by lia,λh=>absurd h (Nat.lt_irrefl 0)⟩
   |succ d=>
    have e:grw (d+1)=4*(2+grw d):=rfl;refine⟨grw d,by lia,by lia,λ_ b rm h1 h2 h3=> ?_⟩
    obtain⟨qs,a',x1,x2,x3,x4,x5,x6⟩:=b76 hcs n d b rm (by lia) (by lia) h1 h2 (by lia) (by lia)
    exact⟨qs,a',x1,x2,x3,by lia,x5,by rw [show((d+1:Nat):Int) - 1=(d:Int) by lia];exact x6⟩
  obtain⟨ρ1,e1,ps,a',left,q7,q8,q9,q10,x1,x2,x3,x4,x5,x6,rfl⟩:=D1 (body:=N9 (Q5 n)) (tg:=g9 7) (λi ρ=>∃(ps:List Pa) (a' left:Nat) (q7 q8 q9 q10:Υ d4),(okL ps/\fv5 (B3 ps))/\(0<i->ps≠[])/\(B3 ps).length+left=room/\dpL ps<=deep/\a'<=a+i*(2+gi)/\ps.length<=i/\
   ρ=[φ (.list (cs.map .int)),φ (.int (a':Nat)),φ (.int (room:Nat)),φ (.int (deep:Nat)),ξ (.own (x8 ps)),φ (.int (left:Nat)),φ (.int (mn:Nat)),q7,q8,q9,q10])
   (ps:=K4 0 ((mn:Nat):Int)) (ρ:=[φ (.list (cs.map .int)),φ (.int (a:Nat)),φ (.int (room:Nat)),φ (.int (deep:Nat)),ξ (.own []),φ (.int (room:Nat)),φ (.int (mn:Nat)),ζ,ζ,ζ,ζ])
   (by
    rintro i p hp ρ ⟨ps,a',left,q7,q8,q9,q10,x1,x2,x3,x4,x5,x6,rfl⟩;obtain⟨rfl,hi⟩:=W6 hp;have hi4:i<4:=by lia
    have hb:i*(2+gi)<=3*(2+gi):=Nat.mul_le_mul_right _ (by lia)
    have e5:(i+1)*(2+gi)=i*(2+gi)+(2+gi):=Nat.succ_mul _ _
    by_cases hl:0<left
    ·obtain⟨p,b,left',r8,r9,r10,y1,y2,y3,y4,y5⟩:=b9n (R:=Q5 n) hcs (deep:=deep) (g:=gi) (B:=a+3*(2+gi)+2) hd hR (a:=a') (left:=left) (by lia) (by lia) hl (by lia) (acc:=x8 ps) (by rw [b4k];lia) (φ (.int (room:Nat))) (φ (.int (mn:Nat))) (φ (.int ((0:Int)+(i:Int)))) q8 q9 q10
     refine G4 rfl y5 ⟨ps++[p],b,left',φ (.int ((0:Int)+(i:Int))),r8,r9,r10,⟨a8b x1.1 y1.1,c2R x1.2 y1.2⟩,λ_=>by simp,by rw [c2S];lia,a7M x4 y2,by lia,by rw [AW,List.length_singleton];lia,by rw [a36]⟩
    ·have p0:decide ((0:Int)<(left:Int))=false:=decide_eq_false (by lia)
     refine G4 rfl (ρ2:=[φ (.list (cs.map .int)),φ (.int (a':Nat)),φ (.int (room:Nat)),φ (.int (deep:Nat)),ξ (.own (x8 ps)),φ (.int (left:Nat)),φ (.int (mn:Nat)),φ (.int ((0:Int)+(i:Int))),q8,q9,q10]) ?_ ⟨ps,a',left,_,q8,q9,q10,x1,λ_ z=>by
      subst z;rw [B3] at x3;simp at x3
      lia,x3,x4,by lia,by lia,rfl⟩
     show N9 (Q5 n) [φ (.list (cs.map .int)),φ (.int (a':Nat)),φ (.int (room:Nat)),φ (.int (deep:Nat)),ξ (.own (x8 ps)),φ (.int (left:Nat)),φ (.int (mn:Nat)),φ (.int ((0:Int)+(i:Int))),q8,q9,q10]=_;unfold N9;simp! [K3,d8,e8,b5,d3,f6,y0,l7,g5,i7,AD,p0]) ⟨[],a,room,ζ,ζ,ζ,ζ,⟨trivial,λx hx=>by rw [B3] at hx;cases hx⟩,λh=>absurd h (Nat.lt_irrefl 0),by rw [B3];simp,by rw [dpL];lia,by simp,AN _,by rw [x8]⟩
  have hlen:(K4 0 ((mn:Nat):Int)).length=mn:=by rw [a6z,AZ,Ax]
  rw [hlen] at x2 x5;have hb:mn*(2+gi)<=4*(2+gi):=Nat.mul_le_mul_right _ mn2;refine⟨ps,a',x1,x2 (by lia),by lia,x4,by lia, ?_⟩
  have fz:∀(nn:MS) (s0 s1 s2 s3 s5 s6 s7 s8 s9 s10:Υ d4) (L:List PV),a0b 4 nn [s0,s1,s2,s3,ξ (.ow (.lst L)),s5,s6,s7,s8,s9,s10]=nn [s0,s1,s2,s3,φ (.list L),s5,s6,s7,s8,s9,s10]:=λ_ _ _ _ _ _ _ _ _ _ _ _=>rfl;show k4 7 (a4r (Q5 n)) [.list (cs.map .int),.int (a:Nat),.int (room:Nat),.int (deep:Nat)]=_;unfold a4r;simp! [l6,C4,d8,m9,e8,b5,d3,b8,b6,b7,v9,D9,e9,g7,p8,Z4,j7,u5,f8,i6,i3,j5,u9,M5,a1r,AD,AG,AR,Ac,AX,Aa,AY,AS,AT,AU,Ad,↓reduceIte,sz,Nat.reduceAdd,Ai,gl,hc,eN,emn,e1,fz]
theorem a8T{ns:List Int}{k:Int}(h0:0<=k):∃c:Int,S4 [.list (ns.map .int),.int k]=φ (.int c):=by
 unfold S4 a6Q
 by_cases h:k<ns.length
 ·have hk:k.toNat<ns.length:=by lia
  have e:L2.atI (ns.map PyData.int) k=ξ (.int ns[k.toNat]):=by
   rw [b6x h0,Az,BC hk];rfl
  refine⟨ns[k.toNat], ?_⟩;simp! [a67,W1,d8,m9,b5,d3,f8,f6,i3,g5,i7,AD,AG,AR,AX,Af,AZ,a7V e];simp only [h,decide_true];simp! [d8,b5,d3,j7,u5,a0R,D8,j5,AD,a7V e]
 ·refine⟨0, ?_⟩;simp! [a67,W1,d8,m9,b5,d3,f8,f6,i3,g5,i7,AD,AG,AR,AX,Af,AZ];simp only [h,decide_false];simp! [e8,j7,u5,i6,y0,l7,j5,AD]
theorem b8L(cs:List Int)(lo hi:Υ Int):gSl (.v (.list (cs.map .int))) lo hi=ξ (.own ((cut cs lo hi).map .int)):=by
 show ξ _=_;rw [show cut (cs.map PyData.int) lo hi=(cut cs lo hi).map PyData.int by unfold cut;rw [AZ,List.map_take,List.map_drop]]
theorem b4Z(ns:List Int)(hn:ns.length<=63){at_:Nat}(ha:at_<=100):∃ps:List Pa,(okL ps/\fv5 (B3 ps))/\ps≠[]/\(B3 ps).length<=12/\dpL ps<=3/\a1x [.list (ns.map .int),.int (at_:Nat),.int 12]=φ (.list (x8 ps)):=by
 have gs:=b8L ns (ξ (at_:Nat)) ζ;have hcut:=b3A ns (ξ ((at_:Nat):Int)) ζ;have cat:t7 (.own ((cut ns (ξ ((at_:Nat):Int)) ζ).map .int)) (.own [.int 1])=ξ (.own ((cut ns (ξ ((at_:Nat):Int)) ζ++[1]).map .int)):=by
  rw [b78 (by rw [AZ,sizeLine_eq];simp only [AU,Ad];lia),Ao]
  rfl
 have hcs:0<(cut ns (ξ ((at_:Nat):Int)) ζ++[1]).length:=by rw [AW,List.length_singleton];lia
 generalize cut ns (ξ ((at_:Nat):Int)) ζ++[1]=cs at cat hcs;obtain⟨c,hc⟩:=a8T (ns:=ns) (k:=(at_:Nat)) (by lia)
 obtain⟨N,hN,eN⟩:=a1c c;have hx:∃room:Nat,1<=room/\room<=12/\l9 (.own [.int 12,.int 12,.int 6,.int 5]) (.v (.int (N / 4 % 4)))=φ (.int (room:Nat)):=by
  have:N / 4 % 4=0\/N / 4 % 4=1\/N / 4 % 4=2\/N / 4 % 4=3:=by lia
  rcases this with e|e|e|e<;>rw [e]
  ·exact⟨12,by lia,by lia,rfl⟩
  ·exact⟨12,by lia,by lia,rfl⟩
  ·exact⟨6,by lia,by lia,rfl⟩
  ·exact⟨5,by lia,by lia,rfl⟩
 obtain⟨room,hr1,hr2,hx⟩:=hx;obtain⟨ps,a',x1,x2,x3,x4,_,x6⟩:=b76 hcs 5 3 0 room (by lia) (by lia) hr1 (by lia) (by decide) (by decide)
 refine⟨ps,x1,x2,by lia,x4, ?_⟩
 have x6:a7a [.list (cs.map .int),.int 0,.int (room:Nat),.int 3]=_:=x6;have fz:∀(nn:MS) (s0 s1 s2 s4:Υ d4) (L:List PV),a0b 3 nn [s0,s1,s2,ξ (.ow (.lst L)),s4]=nn [s0,s1,s2,φ (.list L),s4]:=λ_ _ _ _ _ _=>rfl;unfold a1x a9z;simp! [C4,G6,a2r,d8,e8,b5,d3,b8,b6,b7,D9,e9,g7,p8,Z4,j7,u5,f8,i6,i3,j5,AD,AG,AR,Ac,AX,Aa,AY,AS,AT,AU,Ad,↓reduceIte,k6,k7,n8,u4,sz,Nat.reduceAdd,Ai,Int.reduceDiv,gs,cat,hc,eN,hx,fz,x6]
theorem c5R{l:List Nat}{k:Nat}(h:l.length*k<=10000)(hk:k<=10000):Q4 (.v (row l)) (.v (.int (k:Nat)))=φ (row (((Ab k).map λ_=>l).flatten)):=by
 show(if okC (λk n=>0<=k/\k<=1000000/\n*k<=16777216) (k:Int) (S l).length=true then ξ (d4.v (.str ⟨(AV (k:Int).toNat (S l).cps.toList).flatten.toArray⟩)) else ζ)=_
 have e:((Ab k).map λ_=>l)=AV k l:=by rw [List.map_const',Ax]
 rw [if_pos (a28.mpr ⟨by lia,by lia,by
  rw [a1L,<-Int.natCast_mul]
  lia⟩),e,a7A,BI]
 rfl
theorem c2X{RU RP:Λ}{p:Pa}(ok:okP p)(hl:(unP p).length<=24)(hU:∀k qs,p= .again k qs->RU [.list (x8 qs)]=φ (row (B3 qs))):k4 0 (Y6 RU RP) [E2 p]=φ (row (unP p)):=by
 unfold Y6;rcases a6S p with⟨c,k,rfl,ep⟩|⟨k,qs,rfl,ep⟩
 ·ext f
  ext r
  ext l
  rw [a43] at hl;have ml:=c5R (l:=[c]) (k:=k) (by simp;lia) (by lia)
  have e:(((Ab k).map λ_=>[c]).flatten)=unP (.run c k):=by
   rw [unP];generalize Ab k=r
   induction r with
   |nil=>rfl
   |cons a r ih=>rw [AG,List.flatten_cons,ih,AG];rfl
  rw [e] at ml;simp! [d8,e8,b5,j7,u5,f8,a0R,f6,D8,i3,j5,g5,i7,AD,AG,AR,AX,Af,i0,i1,i2,c0X,ml]
 ·ext e
  ext j
  ext c
  rw [a1F] at hl;obtain⟨k1,k2,_,_⟩:=ok;have hr:=hU k qs rfl;have ml:=c5R (l:=B3 qs) (k:=k) (by rw [Nat.mul_comm];lia) (by lia)
  have e:(((Ab k).map λ_=>B3 qs).flatten)=unP (.again k qs):=by rw [unP]
  rw [e] at ml;simp! [d8,e8,b5,b8,b6,b7,e9,j7,u5,f8,i6,f6,y0,l7,i3,j5,g5,i7,AD,AG,AR,AX,Af,i0,i1,i2,c0W,hr,ml]
theorem b7C:∀(n:Nat) (ps:List Pa),okL ps->(B3 ps).length<=24->2*dpL ps+2<=n->a0k n [.list (x8 ps)]=φ (row (B3 ps))
 |0,_,_,_,h=>by lia
 |1,_,_,_,h=>by lia
 |m+2,ps,ok,hl,hd=>by
  have hm:=a8G ok;have cm:=a0m (ι:=E2) (f:=λp=>row (unP p)) (k:=1) (it:=a1Z (a8 0)) (elt:=a3s (a0k (m+1)) (O9 (m+1))) (tg:=g9 1) (ρ:=[φ (.list (x8 ps))]) ps
   (a5N (r:= .v (.list (x8 ps))) rfl (by rw [a0M];rfl)) (by lia) λp hp=>⟨_,rfl,by
    have:=b4v hp;have e:O9 (m+1) [E2 p]=φ (row (unP p)):=c2X (RU:=a0k m) (RP:=O9 m) (a6t ok hp) (by lia) λk qs hq=>by
     subst hq;obtain⟨h1,h2,h3,h4,h5,h6,h7⟩:=b6f ok hp;exact b7C m qs h1 (by lia) (by lia)
    unfold a3s;simp! [b5,d3,b8,b6,b7,e9,AD,Ac,AX,Aa,AY,AS,AT,e]⟩
  have jn:T7 (.v (.str (AQ ""))) (.own (ps.map λp=>row (unP p)))=φ (row (B3 ps)):=by
   rw [V6];exact b8g (y:= .own (ps.map λp=>row (unP p))) (by rw [Ay];rfl) (by rw [<-V6];lia)
  show k4 0 (a4s (a0k (m+1)) (O9 (m+1))) [.list (x8 ps)]=_;unfold a4s;simp! [d8,e8,j7,u5,i3,j5,AD,AG,AR,AX,Af,cm,jn]
mutual
def coP:Pa->Nat
 | .run _ _=>1
 | .again _ ps=>1+coL ps
def coL:List Pa->Nat
 |[]=>0
 |p::ps=>coP p+coL ps
end
theorem b7P{R:Λ}{q0:Υ d4}:∀(ps:List Pa) (a:Int) (q2:Υ d4),(∀k qs,Pa.again k qs∈ps->R [.list (x8 qs)]=φ (.int (coL qs:Nat)))->
 ∃q2',O1 (a3V R) (g9 2) (x8 ps) [q0,φ (.int a),q2]=ξ (.nx [q0,φ (.int (a+(coL ps:Nat))),q2'])
 |[],a,q2,_=>⟨q2,by rw [x8,coL];show ξ _=_;rw [Int.natCast_zero,Int.add_zero]⟩
 |p::ps,a,q2,hR=>by
  obtain⟨q2',e⟩:=b7P (R:=R) (q0:=q0) ps (a+(coP p:Nat)) (φ (E2 p)) λk qs h=>hR k qs (Al _ h);refine⟨q2', ?_⟩;have hb:a3V R [q0,φ (.int a),φ (E2 p)]=ξ (.nx [q0,φ (.int (a+(coP p:Nat))),φ (E2 p)]):=by
   have aug:∀(x:Int) (m:M) (y:Int),m [q0,φ (.int x),φ (E2 p)]=φ (.int y)->a3Z 1 (gI λi j=> .int (i+j)) m [q0,φ (.int x),φ (E2 p)]=ξ (.nx [q0,φ (.int (x+y)),φ (E2 p)]):=λx m y hm=>by
    unfold a3Z;show((m [q0,φ (.int x),φ (E2 p)]).bind _)=_;rw [hm]
    rfl
   unfold a3V;rcases a6S p with⟨c,k,rfl,ep⟩|⟨k,qs,rfl,ep⟩
   ·ext f
    rw [coP];simp! [d8,e8,b5,d3,f8,i6,f6,y0,l7,g5,i7,AD,Int.cast_ofNat_Int,aug a (mC (.int 1)) 1 rfl,i0,c6Z]
   ·ext e
    ext c
    have hr:=hR k qs Ak;rw [coP];simp! [d8,e8,b5,d3,f8,i6,f6,D8,g5,i7,AD,aug a (mC (.int 1)) 1 rfl,i0,c6Y];rw [aug (a+1) _ (coL qs:Nat) (by simp! [d8,e8,b5,d3,b8,b6,b7,e9,AD,i2,hr])]
    rw [Int.natCast_add,Int.add_assoc]
    rfl
  rw [x8,O1];show(a3V R [q0,φ (.int a),φ (E2 p)]).bind _=_;rw [hb,AD,coL,Int.natCast_add,<-Int.add_assoc];exact e
theorem b7S:∀(n:Nat) (ps:List Pa),dpL ps<n->a6r n [.list (x8 ps)]=φ (.int (coL ps:Nat))
 |0,_,h=>by lia
 |n+1,ps,hd=>by
  obtain⟨q2,e⟩:=b7P (R:=a6r n) (q0:=φ (.list (x8 ps))) ps 0 ζ λk qs hq=>by
   have d:=a64 hq;rw [dpP] at d;exact b7S n qs (by lia)
  ext x
  rw [Int.zero_add] at e;show k4 2 (b3u (a6r n)) [.list (x8 ps)]=_;unfold b3u;simp! [e8,b5,b7,g7,p8,f8,i6,i3,j5,u9,AD,AG,AR,Ac,AX,Aa,AY,AS,AT,F8,Q7,Q8,hit,e]
theorem b5l{R:Λ}{q0:Υ d4}:∀(ps:List Pa) (a:Int) (q2:Υ d4),(∀k qs,Pa.again k qs∈ps->R [.list (x8 qs)]=φ (.int (coL qs:Nat)))->
 ∃q2',O1 (N8 R) (g9 2) (x8 ps) [q0,φ (.int a),q2]=ξ (.nx [q0,φ (.int (a+(coL ps:Nat) - (ps.length:Nat))),q2'])
 |[],a,q2,_=>⟨q2,by rw [x8,coL];show ξ _=_;simp⟩
 |p::ps,a,q2,hR=>by
  have key:∀b:Int,b=a+(coP p:Nat) - 1->N8 R [q0,φ (.int a),φ (E2 p)]=ξ (.nx [q0,φ (.int b),φ (E2 p)])->∃q2',O1 (N8 R) (g9 2) (x8 (p::ps)) [q0,φ (.int a),q2]=ξ (.nx [q0,φ (.int (a+(coL (p::ps):Nat) - ((p::ps).length:Nat))),q2']):=λb eb hb=>by
   obtain⟨q2',e⟩:=b5l (R:=R) (q0:=q0) ps b (φ (E2 p)) λk qs h=>hR k qs (Al _ h);refine⟨q2', ?_⟩;rw [x8,O1];show(N8 R [q0,φ (.int a),φ (E2 p)]).bind _=_;rw [hb,AD,coL,AU];have:b+(coL ps:Nat) - (ps.length:Nat)=a+((coP p+coL ps:Nat):Int) - ((ps.length+1:Nat):Int):=by lia
   rw [<-this];exact e
  rcases a6S p with⟨c,k,rfl,ep⟩|⟨k,qs,rfl,ep⟩
  ·ext f
   refine key a (by rw [coP];lia) ?_
   unfold N8;simp! [d8,e8,b5,d3,f6,y0,l7,g5,i7,AD,i0,c6Z]
  ·ext e
   ext c
   have hr:=hR k qs Ak;refine key (a+(coL qs:Nat)) (by rw [coP];lia) ?_
   unfold N8;simp! [l6,d8,e8,b5,d3,b8,b6,b7,e9,g7,p8,f6,D8,g5,i7,AD,AS,AT,i0,i2,c6Y,hr]
theorem b5m:∀(n:Nat) (ps:List Pa),dpL ps<n->a1C n [.list (x8 ps)]=φ (.int (coL ps:Nat))
 |0,_,h=>by lia
 |n+1,ps,hd=>by
  obtain⟨q2,e⟩:=b5l (R:=a1C n) (q0:=φ (.list (x8 ps))) ps (ps.length:Nat) ζ λk qs hq=>by
   have d:=a64 hq;rw [dpP] at d;exact b5m n qs (by lia)
  ext x
  have e1:(ps.length:Int)+(coL ps:Nat) - (ps.length:Nat)=(coL ps:Nat):=by lia
  rw [e1] at e;show k4 2 (a4q (a1C n)) [.list (x8 ps)]=_;unfold a4q;simp! [W1,m9,b5,b7,g7,p8,f8,i6,i3,j5,u9,AD,AG,AR,Ac,AX,Aa,AY,AS,AT,F8,Q7,Q8,b4k,hit,e]
theorem b0o:∀(n:Nat) (ps:List Pa),2*dpL ps+3<=n->J9 (x8 ps) n=true
 |0,_,h=>by lia
 |1,_,h=>by lia
 |2,_,h=>by lia
 |m+3,ps,h=>by
  rw [a0M];refine a3N λp hp=> ?_;obtain⟨p,hp1,rfl⟩:=Ah.mp hp;have d:=a64 hp1;rcases a6S p with⟨c,k,rfl,ep⟩|⟨k,qs,rfl,ep⟩
  ·rw [ep];rfl
  ·rw [ep];rw [dpP] at d;show J9 [C9,.int (k:Nat),.list (x8 qs)] (m+2)=true;refine a3N λq hq=> ?_;simp only [An,List.not_mem_nil,or_false] at hq;rcases hq with rfl|rfl|rfl
   ·rfl
   ·rfl
   ·exact b0o (m+1) qs (by lia)
theorem c7W(i:Int):a7c "int" (.int i)=true:=rfl
theorem c7V(i:Int):a7c "bool" (.int i)=false:=rfl
theorem a7K{i j:Int}(h:j<=i):L4 [.int i,.int j]=φ (.bool true):=by
 unfold L4 a5n;simp! [K3,d8,m9,b5,d3,j7,u5,i3,j5,b1h,c1M,c0t,c5T,c1g,AD,AG,AR,AX,Af,Bool.not_false,c1v,c6T,c7W,c7V,decide_eq_true h]
theorem b5g{R:Λ}{q0:Υ d4}:∀(ps:List Pa) (q1:Υ d4),okL ps->(∀k qs,Pa.again k qs∈ps->R [.list (x8 qs)]=φ (.bool true))->∃q1',O1 (P0 R) (g9 1) (x8 ps) [q0,q1]=ξ (.nx [q0,q1'])
 |[],q1,_,_=>⟨q1,by rw [x8];rfl⟩
 |p::ps,q1,ok,hR=>by
  obtain⟨q1',e⟩:=b5g (R:=R) (q0:=q0) ps (φ (E2 p)) ok.2 λk qs h=>hR k qs (Al _ h);refine⟨q1', ?_⟩;have hb:P0 R [q0,φ (E2 p)]=ξ (.nx [q0,φ (E2 p)]):=by
   unfold P0;rcases a6S p with⟨c,k,rfl,ep⟩|⟨k,qs,rfl,ep⟩
   ·ext f
    ext r
    ext l
    have it:a3o "tuple" (.v (E2 (.run c k)))=φ (.bool true):=by rw [ep];rfl
    have is_:a3o "str" (.v (row [c]))=φ (.bool true):=rfl;have il:y9 (.v (E2 (.run c k)))=φ (.int 3):=by rw [ep];rfl
    have ic:=R4 (l:=[c]) (by simp)
    have n3:gNe (.v (.int 3)) (.v (.int 3))=φ (.bool false):=a0y rfl;have n1:gNe (.v (.int (([c].length:Nat):Int))) (.v (.int 1))=φ (.bool false):=a0y rfl;obtain⟨⟨k1,_,_⟩,_⟩:=ok;have hc:=a7K (i:=(k:Nat)) (j:=1) (by lia)
    simp! [d8,m9,e8,b5,d3,b8,b6,b7,e9,f8,i6,f6,D8,y0,l7,G3,g5,i7,Y2,D4,P8,a34,AD,Ar,AU,Ad,Bool.not_true,Nat.reduceAdd,Int.cast_ofNat_Int,beq_self_eq_true,b8c,it,il,n3,i0,c0X,i1,is_,ic,n1,i2,hc]
   ·ext e
    ext j
    ext c
    have it:a3o "tuple" (.v (E2 (.again k qs)))=φ (.bool true):=by rw [ep];rfl
    have il:y9 (.v (E2 (.again k qs)))=φ (.int 3):=by rw [ep];rfl
    have n3:gNe (.v (.int 3)) (.v (.int 3))=φ (.bool false):=a0y rfl;have na:gNe (.v C9) (.v C9)=φ (.bool false):=a0y rfl;obtain⟨⟨k1,_,_,_⟩,_⟩:=ok;have hc:=a7K (i:=(k:Nat)) (j:=2) (by lia)
    have hr:=hR k qs Ak;simp! [d8,m9,e8,b5,d3,b8,b6,b7,e9,f8,i6,f6,y0,l7,G3,g5,i7,Y2,D4,P8,a34,AD,Ar,Bool.not_true,it,il,n3,i0,c0W,na,i1,hc,i2,hr]
  rw [x8,O1];show(P0 R [q0,φ (E2 p)]).bind _=_;rw [hb,AD];exact e
theorem c1x:∀(n:Nat) (ps:List Pa),okL ps->ps≠[]->dpL ps<=23->dpL ps<n->V2 n [.list (x8 ps)]=φ (.bool true)
 |0,_,_,_,_,h=>by lia
 |n+1,ps,ok,hne,h23,hd=>by
  obtain⟨q1,e⟩:=b5g (R:=V2 n) (q0:=φ (.list (x8 ps))) ps ζ ok λk qs hq=>by
   have d:=a64 hq;rw [dpP] at d;obtain⟨_,_,h3,h4⟩:=a6t ok hq;exact c1x n qs h4 h3 (by lia) (by lia)
  ext x
  have il:a3o "list" (.v (.list (x8 ps)))=φ (.bool true):=rfl;have hq:X5 (.v (.list (x8 ps))) (.ow (.lst []))=φ (.bool false):=by
   rw [a4E (x:= .v (.list (x8 ps))) (y:= .ow (.lst [])) ⟨by show J9 (x8 ps) 49=true;exact b0o 49 ps (by lia),rfl⟩]
   congr 3
   show η (.list (x8 ps)) (.list [])=false;cases ps with
   |nil=>exact absurd rfl hne
   |cons p ps=>rw [x8];simp [η,θ]
  show k4 1 (a1n (V2 n)) [.list (x8 ps)]=_;unfold a1n;simp! [d8,m9,e8,b5,b8,b7,D9,j7,u5,f8,i6,f6,y0,l7,i3,j5,G3,g5,i7,Y2,D4,P8,a34,u9,AD,Ar,AG,AR,Ac,AX,Aa,AY,Ad,↓reduceIte,Bool.not_true,F8,sz,Ai,il,hq,hit,e]
theorem b6M:X5 (.v a9T) (.v a9T)=φ (.bool true):=by rfl
theorem b6K:X5 (.v C9) (.v a9T)=φ (.bool false):=by rfl
theorem b5Y(ws:List Wa):(j8 ws).length=ws.length:=by rw [Y0,AZ]
theorem a7p(k:Nat)(ps:List Pa):l9 (.v (X2 (.rows k ps))) (.v (.int 0))=φ a9T/\l9 (.v (X2 (.rows k ps))) (.v (.int 1))=φ (.int (k:Nat))/\l9 (.v (X2 (.rows k ps))) (.v (.int 2))=φ (.list (x8 ps)):=by
 rw [X2];exact⟨rfl,rfl,rfl⟩
theorem a7o(k:Nat)(ws:List Wa):l9 (.v (X2 (.again k ws))) (.v (.int 0))=φ C9/\l9 (.v (X2 (.again k ws))) (.v (.int 1))=φ (.int (k:Nat))/\l9 (.v (X2 (.again k ws))) (.v (.int 2))=φ (.list (j8 ws)):=by
 rw [X2];exact⟨rfl,rfl,rfl⟩
theorem c6R{q0 q2:Υ d4}{a:Int}(m:M)(y:Int)(hm:m [q0,φ (.int a),q2]=φ (.int y)):a3Z 1 (gI λi j=> .int (i+j)) m [q0,φ (.int a),q2]=ξ (.nx [q0,φ (.int (a+y)),q2]):=by
 unfold a3Z;show((m [q0,φ (.int a),q2]).bind _)=_;rw [hm]
 rfl
theorem a3S{body:MS}{i:Nat}{p:PV}{ps:List PV}{ρ ρ1:c9}{f:Υ Fl}(ht:g9 i p ρ=ξ ρ1){ρ2:c9}(hb:body ρ1=ξ (.nx ρ2))(h:O1 body (g9 i) ps ρ2=f):O1 body (g9 i) (p::ps) ρ=f:=by
 rw [O1,ht,AD,hb,AD];exact h
theorem b8C{R:Λ}{q0:Υ d4}:∀(ws:List Wa) (a:Int) (q2:Υ d4),U8 ws->(∀k qs,Wa.again k qs∈ws->R [.list (j8 qs)]=φ (.int (w6 qs:Nat)))->
 ∃q2',O1 (a1X R) (g9 2) (j8 ws) [q0,φ (.int a),q2]=ξ (.nx [q0,φ (.int (a+(w6 ws:Nat))),q2'])
 |[],a,q2,_,_=>⟨q2,by rw [j8,w6];show ξ _=_;simp⟩
 |w::ws,a,q2,g,hR=>by
  rw [U8] at g;obtain⟨q2',e⟩:=b8C (R:=R) (q0:=q0) ws (a+(knV w:Nat)) (φ (X2 w)) g.2 λk qs h=>hR k qs (Al _ h);refine⟨q2', ?_⟩;have hb:a1X R [q0,φ (.int a),φ (X2 w)]=ξ (.nx [q0,φ (.int (a+(knV w:Nat))),φ (X2 w)]):=by
   unfold a1X;cases w with
   |rows k ps=>
    obtain⟨i0,i1,i2⟩:=a7p k ps;simp! [d8,e8,b5,d3,f6,D8,g5,i7,AD,i0,b6M];rw [knV];exact c6R _ _ (by simp! [d8,e8,b5,d3,AD,i1])
   |again k qs=>
    obtain⟨i0,i1,i2⟩:=a7o k qs;have hr:=hR k qs Ak;have mm:Q4 (.v (.int (k:Nat))) (.v (.int (w6 qs:Nat)))=φ (.int ((k:Int)*(w6 qs:Nat))):=T8 (by have g1:=g.1;rw [gVx] at g1;lia)
    simp! [d8,e8,b5,d3,f6,y0,g5,i7,AD,i0,b6K];refine c6R _ _ ?_;simp! [d8,e8,b5,d3,b8,b6,b7,e9,AD,i1,i2,hr,mm];rw [knV,Nat.mul_comm,Int.natCast_mul]
  rw [w6,Int.natCast_add,<-Int.add_assoc,j8];exact a3S rfl hb e
theorem b3i:∀(n:Nat) (ws:List Wa),U8 ws->Q0 ws<n->a2v n [.list (j8 ws)]=φ (.int (w6 ws:Nat))
 |0,_,_,h=>by lia
 |n+1,ws,g,hd=>by
  obtain⟨q2,e⟩:=b8C (R:=a2v n) (q0:=φ (.list (j8 ws))) ws 0 ζ g λk qs hq=>by
   obtain⟨h1,_,_,_,_,_,h7⟩:=a4L g hq;exact b3i n qs h1 (by lia)
  ext p
  rw [Int.zero_add] at e;show k4 2 (a6g (a2v n)) [.list (j8 ws)]=_;unfold a6g;simp! [e8,b5,b7,g7,p8,f8,i6,i3,j5,u9,AD,AG,AR,Ac,AX,Aa,AY,AS,AT,F8,Q7,Q8,hit,e]
mutual
def lnV:Wa->List Nat
 | .rows _ ps=>[(B3 ps).length]
 | .again _ ws=>R8 ws
def R8:List Wa->List Nat
 |[]=>[]
 |w::ws=>lnV w++R8 ws
end
abbrev zLx(l:List Nat):List Int:=l.map λn:Nat=>(n:Int)
abbrev inP(l:List Nat):List PV:=l.map λn:Nat=> .int (n:Nat)
mutual
theorem b8k:∀{w:Wa},gVx w->(lnV w).length<=knV w
 | .rows k ps,g=>by rw [gVx] at g;rw [lnV,knV];exact g.2.1
 | .again k ws,g=>by
   rw [gVx] at g;have:=b1e g.2.2;have:w6 ws*1<=w6 ws*k:=Nat.mul_le_mul_left _ (by lia)
   rw [lnV,knV]
   lia
theorem b1e:∀{ws:List Wa},U8 ws->(R8 ws).length<=w6 ws
 |[],_=>by rw [R8];exact Nat.zero_le _
 |w::ws,g=>by
  rw [U8] at g;have:=b8k g.1;have:=b1e g.2;rw [R8,w6,AW]
  lia
end
theorem c5w{i:Nat}{m:M}{ρ:c9}{ps qs:List PV}(h1:m ρ=ξ (.own qs))(h3:ρ[i]?=ξ (ξ (.own ps)))(h:ps.length+qs.length<=16777216):b0t i m ρ=ξ (.nx (ρ.set i (ξ (.own (ps++qs))))):=by
 unfold b0t;rw [h1,AD];show(match ρ[i]? with
  |some (ξ (.ow (.lst ps)))=>if ps.length+qs.length<=AL then ξ (Fl.nx (ρ.set i (ξ (.own (ps++qs))))) else ζ
  |_=>ζ)=_
 rw [h3];exact if_pos (by rw [sizeLine_eq];exact h)
theorem b8l{R:Λ}{q0:Υ d4}:∀(ws:List Wa) (acc:List Nat) (q2:Υ d4),U8 ws->(∀k qs,Wa.again k qs∈ws->R [.list (j8 qs)]=ξ (.own (inP (R8 qs))))->acc.length+w6 ws<=10000->
 ∃q2',O1 (R7 R) (g9 2) (j8 ws) [q0,ξ (.own (inP acc)),q2]=ξ (.nx [q0,ξ (.own (inP (acc++R8 ws))),q2'])
 |[],a,q2,_,_,_=>⟨q2,by rw [j8,R8,Af];rfl⟩
 |w::ws,acc,q2,g,hR,hl=>by
  rw [U8] at g;rw [w6] at hl;have hw:=b8k g.1;obtain⟨q2',e⟩:=b8l (R:=R) (q0:=q0) ws (acc++lnV w) (φ (X2 w)) g.2 (λk qs h=>hR k qs (Al _ h)) (by rw [AW];lia)
  refine⟨q2', ?_⟩;have hb:R7 R [q0,ξ (.own (inP acc)),φ (X2 w)]=ξ (.nx [q0,ξ (.own (inP (acc++lnV w))),φ (X2 w)]):=by
   unfold R7;cases w with
   |rows k ps=>
    ext q
    obtain⟨⟨a1,a2,a3,a4⟩,_⟩:=g1;have un:=b7C 30 ps (a1) a4 (by lia)
    have un:a2u [.list (x8 ps)]=_:=un;have gl:=R4 (l:=B3 ps) (by lia)
    simp! [d8,e8,b5,d3,f6,D8,g5,i7,AD,i0,b6M];refine(B5 (r:= .v (.int ((B3 ps).length:Nat))) (p:= .int ((B3 ps).length:Nat)) (ps:=inP acc) (by simp! [d8,m9,e8,b5,d3,b8,b6,b7,e9,AD,i2,un,gl]) rfl rfl (by rw [AZ];lia)).trans ?_
    rw [lnV,show ∀b,inP (acc++b)=inP acc++inP b from λb=>Ao]
    rfl
   |again k qs=>
    obtain⟨i0,i1,i2⟩:=a7o k qs;have hr:=hR k qs Ak;rw [lnV] at hw;simp! [d8,e8,b5,d3,f6,y0,g5,i7,AD,i0,b6K];refine(c5w (qs:=inP (R8 qs)) (ps:=inP acc) (by simp! [d8,e8,b5,d3,b8,b6,b7,e9,AD,i2,hr]) rfl (by rw [AZ,AZ];lia)).trans ?_
    rw [lnV,show ∀b,inP (acc++b)=inP acc++inP b from λb=>Ao]
    rfl
  rw [R8,<-List.append_assoc,j8];exact a3S rfl hb e
theorem b1d:∀(n:Nat) (ws:List Wa),U8 ws->w6 ws<=10000->Q0 ws<n->S5 n [.list (j8 ws)]=ξ (.own (inP (R8 ws)))
 |0,_,_,_,h=>by lia
 |n+1,ws,g,hk,hd=>by
  obtain⟨q2,e⟩:=b8l (R:=S5 n) (q0:=φ (.list (j8 ws))) ws [] ζ g (λk qs hq=>by
   obtain⟨h1,_,_,_,h5,h6,h7⟩:=a4L g hq;exact b1d n qs h1 (by lia) (by lia)) (by simpa using hk)
  ext p
  rw [AY] at e;have e:O1 (R7 (S5 n)) (g9 2) (j8 ws) [φ (.list (j8 ws)),ξ (.own []),ζ]=_:=e;show k4 2 (a1Q (S5 n)) [.list (j8 ws)]=_;unfold a1Q;simp! [b5,b8,b7,D9,g7,Z4,f8,i6,i3,j5,u9,AD,AG,AR,Ac,AX,Aa,AY,AS,AT,Ad,↓reduceIte,F8,Q7,Q8,sz,Ai,hit,e]
theorem b03:∀l:List Nat,a5F (inP l)=ξ (zLx l)
 |[]=>rfl
 |n::l=>by
  have h:=b03 l;show a5F (.int (n:Int)::inP l)=_;unfold a5F;rw [h]
  rfl
def b9Y(l:List Nat):Prop:=l≠[]/\∀x∈l,∀y∈l,x=y
theorem c3D(is:List Int)(x:Int):x∈b17 is↔x∈is:=by
 have h:=PyProof.Rows.firstMet_any (λi=>is.getD i 0) is.length x;have e:(Ab is.length).map (λi=>is.getD i 0)=is:=by
  apply List.ext_getElem
  ·simp
  ·intro i h1 h2;simp [List.getD_eq_getElem?_getD,BC h2]
 rw [e] at h;have h1:∀l:List Int,l.any (· ==x)=true↔x∈l:=λl=>by simp
 rw [<-h1 (b17 is),<-h1 is,h]
theorem a84(f:Nat->Int):∀n,(PyProof.Rows.firstMet f n).Nodup
 |0=>List.nodup_nil
 |n+1=>by
  rw [PyProof.Rows.firstMet_succ];unfold PyProof.Rows.step_dedup;split
  ·exact a84 f n
  ·rename_i h;refine List.nodup_append.mpr ⟨a84 f n,by simp,λa ha b hb=> ?_⟩
   rw [List.mem_singleton] at hb;intro e;apply h;rw [List.any_eq_true];exact⟨a,ha,by rw [e,hb];simp⟩
theorem c3E(l:List Nat):(b17 (zLx l)).length=1↔b9Y l:=by
 have hm:=c3D (zLx l);have hd:(b17 (zLx l)).Nodup:=a84 _ _;generalize b17 (zLx l)=m at hm hd;constructor
 ·intro h;obtain⟨a,rfl⟩:=List.length_eq_one_iff.mp h;refine⟨λz=> ?_,λx hx y hy=> ?_⟩
  ·subst z;have:=(hm a).mp (by simp)
   simp at this
  ·have h1:=(hm x).mpr (Ah.mpr ⟨x,hx,rfl⟩);have h2:=(hm y).mpr (Ah.mpr ⟨y,hy,rfl⟩);rw [List.mem_singleton] at h1 h2
   lia
 ·rintro⟨hne,ha⟩;obtain⟨x,hx⟩:=List.exists_mem_of_ne_nil l hne;have hxm:=(hm x).mpr (Ah.mpr ⟨x,hx,rfl⟩);cases m with
  |nil=>cases hxm
  |cons a m=>
   cases m with
   |nil=>rfl
   |cons b m=>
    exfalso
    obtain⟨u,hu,e1⟩:=Ah.mp ((hm a).mp (by simp))
    obtain⟨v,hv,e2⟩:=Ah.mp ((hm b).mp (by simp))
    have:=ha u hu v hv;have hab:a=b:=by rw [<-e1,<-e2,this]
    rw [hab] at hd;simp at hd
theorem b9F{l:List Nat}(h:l.length<=4000):a7W (.own (inP l))=φ (.int ((b17 (zLx l)).length:Nat)):=by
 show(a5F (inP l)).bind _=_;rw [b03,AD];exact if_pos (by rw [AZ];lia)
theorem c2l{ws:List Wa}(g:U8 ws)(ne:ws≠[])(d:Q0 ws<=12)(k:w6 ws<=24)(o:b9Y (R8 ws))(hl:(a41 ws).length<=10000):V1 [row (a41 ws)]=ξ (.inl (.v (.list (j8 ws)))):=by
 have hs:a3o "str" (.v (row (a41 ws)))=φ (.bool true):=rfl;have pe:=b27 42 ws [] [] 12 (a41 ws) g ne k d (by lia) (.inl rfl) (by simp) hl
 rw [Ad,Nat.zero_add] at pe;have pe:a5C [row (a41 ws),.int 0,.int 12,fnW]=φ (.tuple [.list (j8 ws),.int ((a41 ws).length:Nat)]):=pe;have gl:=R4 hl
 ext y
 have i0:∀x:PV,l9 (.v (.tuple [.list (j8 ws),x])) (.v (.int 0))=φ (.list (j8 ws)):=λ_=>rfl;have kn:=b3i 16 ws g (by lia)
 have kn:a85 [.list (j8 ws)]=_:=kn;have g1:decide ((24:Int)<(w6 ws:Nat))=false:=decide_eq_false (by lia)
 have le:=b1d 16 ws g (by lia) (by lia)
 have le:a4G [.list (j8 ws)]=_:=le;have ls:=b9F (l:=R8 ws) (by have:=b1e g;lia)
 rw [(c3E _).mpr o] at ls;unfold V1 a5o O0 S8;simp! [K3,a1w,d8,m9,e8,b5,d3,b8,b6,b7,e9,g7,p8,j7,u5,l7,G3,g5,i7,Y2,D4,P8,a34,AD,Ar,AG,AR,Ac,AX,Aa,AY,AS,AT,Bool.not_true,Int.cast_ofNat_Int,beq_self_eq_true,b8c,b53,b23,b5B,hs,c23,b5C,b6j,pe,isN,gl,i0,kn,g1,le,ls,b52]
 try rfl
theorem b51{body:MS}{q0 v:Υ d4}{X:List (List Nat)}{B:Nat}(st:∀(acc:List (List Nat)) (q3:Υ d4),acc.length+X.length<=B->body [q0,ξ (.own (acc.map row)),v,q3]=ξ (.nx [q0,ξ (.own ((acc++X).map row)),v,q3]))(k:Nat)(acc:List (List Nat))(q3:Υ d4)(h:acc.length+k*X.length<=B):
 ∃q3',O1 body (g9 3) (K4 0 (k:Nat)) [q0,ξ (.own (acc.map row)),v,q3]=ξ (.nx [q0,ξ (.own ((acc++((Ab k).map λ_=>X).flatten).map row)),v,q3']):=by
 obtain⟨ρ1,e1,q3',rfl⟩:=D1 (body:=body) (tg:=g9 3) (λi ρ=>∃q3,ρ=[q0,ξ (.own ((acc++((Ab i).map λ_=>X).flatten).map row)),v,q3]) (ps:=K4 0 (k:Nat)) (ρ:=[q0,ξ (.own (acc.map row)),v,q3])
  (by
   rintro i p hp ρ ⟨q3,rfl⟩;obtain⟨rfl,hi⟩:=W6 hp;refine G4 rfl (st _ (φ (.int (0+(i:Int)))) ?_) ⟨φ (.int (0+(i:Int))), ?_⟩
   ·rw [AW,Z7];have h1:(i+1)*X.length<=k*X.length:=Nat.mul_le_mul_right _ (by lia)
    rw [Nat.succ_mul] at h1
    lia
   ·rw [show((Ab (i+1)).map λ_=>X).flatten=((Ab i).map λ_=>X).flatten++X by simp [List.range_succ],List.append_assoc]) ⟨q3,by simp⟩
 have hlen:(K4 0 ((k:Nat):Int)).length=k:=by rw [a6z,AZ,Ax]
 rw [hlen] at e1
 exact⟨q3',e1⟩
theorem b46{α:Type}(x:α)(k:Nat):((Ab k).map λ_=>[x]).flatten=(Ab k).map λ_=>x:=by
 generalize Ab k=r
 induction r with
 |nil=>rfl
 |cons a r ih=>rw [AG,List.flatten_cons,ih,AG];rfl
theorem b8q{R:Λ}{q0:Υ d4}:∀(ws:List Wa) (acc:List (List Nat)) (q2 q3:Υ d4),U8 ws->(∀k qs,Wa.again k qs∈ws->R [.list (j8 qs)]=φ (.tuple ((B7 qs).map row)))->acc.length+w6 ws<=10000->
 ∃q2' q3',O1 (P4 R) (g9 2) (j8 ws) [q0,ξ (.own (acc.map row)),q2,q3]=ξ (.nx [q0,ξ (.own ((acc++B7 ws).map row)),q2',q3'])
 |[],acc,q2,q3,_,_,_=>⟨q2,q3,by rw [j8,B7,Af];rfl⟩
 |w::ws,acc,q2,q3,g,hR,hl=>by
  rw [U8] at g;rw [w6] at hl;have hb:∃q3',P4 R [q0,ξ (.own (acc.map row)),φ (X2 w),q3]=ξ (.nx [q0,ξ (.own ((acc++unV w).map row)),φ (X2 w),q3']):=by
   unfold P4;cases w with
   |rows k ps=>
    ext q
    obtain⟨⟨a1,a2,a3,a4⟩,_⟩:=g1;have un:=a74 26 ps (a1) a4 (by lia)
    have un:C5 [.list (x8 ps)]=_:=un;rw [knV] at hl;obtain⟨q3',e⟩:=b51 (body:=P3 R) (q0:=q0) (v:=φ (X2 (.rows k ps))) (X:=[B3 ps]) (B:=10000) (λacc q3 h=>by
     unfold P3;simp! [d8,e8,b5,d3,f6,D8,g5,i7,AD,i0,b6M];rw [List.length_singleton] at h;refine(B5 (r:= .v (row (B3 ps))) (p:=row (B3 ps)) (ps:=acc.map row) (by simp! [d8,e8,b5,d3,b8,b6,b7,e9,AD,i2,un]) rfl rfl (by rw [AZ];lia)).trans ?_
     rw [Ao]
     rfl) k acc q3 (by rw [List.length_singleton];lia)
    rw [b46,<-a6c] at e;refine⟨q3', ?_⟩;simp! [d8,e8,b5,d3,b8,b6,b7,u9,M5,a1r,AD,i1,e]
   |again k qs=>
    obtain⟨i0,i1,i2⟩:=a7o k qs;have hr:=hR k qs Ak;have hq:=a0S qs;rw [knV] at hl;have hk0:=g.1;rw [gVx] at hk0;obtain⟨q3',e⟩:=b51 (body:=P3 R) (q0:=q0) (v:=φ (X2 (.again k qs))) (X:=B7 qs) (B:=10000) (λacc q3 h=>by
     unfold P3;have hz:(acc.map row).length+((B7 qs).map row).length<=AL:=by rw [AZ,AZ,sizeLine_eq];lia
     have ad:t7 (.bor (acc.map row)) (.own ((B7 qs).map row))=ξ (.own ((acc++B7 qs).map row)):=by
      rw [Ao];exact if_pos hz
     simp! [b6T,d8,m9,e8,b5,a4N,d3,b8,b6,b7,e9,g7,Z4,f6,y0,g5,i7,AD,AS,AT,i0,b6K,i2,hr,ad]) k acc q3 (by rw [hq,Nat.mul_comm];lia)
    rw [<-a4b] at e;refine⟨q3', ?_⟩;simp! [d8,e8,b5,d3,b8,b6,b7,u9,M5,a1r,AD,i1,e]
  obtain⟨q3',hb⟩:=hb;have hu:=b4t w;obtain⟨q2',q4,e⟩:=b8q (R:=R) (q0:=q0) ws (acc++unV w) (φ (X2 w)) q3' g.2 (λk qs h=>hR k qs (Al _ h)) (by rw [AW];lia)
  refine⟨q2',q4, ?_⟩;rw [B7,<-List.append_assoc,j8];exact a3S rfl hb e
theorem b0q:∀(n:Nat) (ws:List Wa),U8 ws->w6 ws<=24->Q0 ws<n->O8 n [.list (j8 ws)]=φ (.tuple ((B7 ws).map row))
 |0,_,_,_,h=>by lia
 |n+1,ws,g,hk,hd=>by
  obtain⟨q2,q3,e⟩:=b8q (R:=O8 n) (q0:=φ (.list (j8 ws))) ws [] ζ ζ g (λk qs hq=>by
   obtain⟨h1,_,_,_,h5,h6,h7⟩:=a4L g hq;exact b0q n qs h1 (by lia) (by lia)) (by simp;lia)
  ext p
  rw [AY] at e;have e:O1 (P4 (O8 n)) (g9 2) (j8 ws) [φ (.list (j8 ws)),ξ (.own []),ζ,ζ]=_:=e;have hu:=a0S ws;show k4 3 (a1o (O8 n)) [.list (j8 ws)]=_;unfold a1o;simp! [m9,b5,a4N,d3,b8,b7,D9,g7,Z4,j7,u5,f8,i6,i3,j5,u9,AD,AG,AR,Ac,AX,Aa,AY,AS,AT,Ad,↓reduceIte,F8,b6V,sz,Ai,hit,e]
  try rfl
mutual
theorem b8I:∀{p:Wa},gVx p->(shV p).length+1<=125*knV p
 | .rows k ps,h=>by
   rw [gVx] at h;obtain⟨⟨a1,a2,a3,a4⟩,k1,_⟩:=h;rw [a8C,knV,AU,AW,AU];have h1:=b4w k;have h2:=b8F (a1)
   lia
 | .again k ps,h=>by
   rw [gVx] at h;rw [a2a,knV,AU,AW,AU];have h1:=a8B h.2.2;have h2:=a5D (ps.map shV);rw [Ay] at h2;have h3:=(a4w k).2;have h4:=a5G h.2.1 h.2.2;have h5:w6 ps*2<=w6 ps*k:=Nat.mul_le_mul_left _ h.1.1;show(a09 [32] (ps.map shV)).length+_+1+1<=_;have h6:(ps.map ((λl=>l.length+1)∘shV)).sum=(ps.map λp=>(shV p).length+1).sum:=rfl
   lia
theorem a8B:∀{ps:List Wa},U8 ps->(ps.map λp=>(shV p).length+1).sum<=125*w6 ps
 |[],_=>by simp
 |p::ps,h=>by
  rw [U8] at h;have h1:=b8I h.1;have h2:=a8B h.2;rw [AG,List.sum_cons,w6]
  lia
end
theorem c2z{ps:List Wa}(h:U8 ps):(a41 ps).length<=125*w6 ps:=by
 have h1:=a8B h;have h2:=a5D (ps.map shV);rw [Ay] at h2;have h6:(ps.map ((λl=>l.length+1)∘shV)).sum=(ps.map λp=>(shV p).length+1).sum:=rfl;unfold a41
 lia
theorem c67{ws:List Wa}(g:U8 ws)(hk:w6 ws<=24){y:d4}(h:PyData.items? y.rd=ξ ((ws.map shV).map row)):T7 (.v (.str (AQ " "))) y=φ (row (a41 ws)):=
 c1z (ls:=ws.map shV) h (by
  have hs:=a8B g;rw [Ay];have h6:(ws.map ((λl=>l.length+1)∘shV)).sum=(ws.map λp=>(shV p).length+1).sum:=rfl
  lia)
theorem c74:AQ "["=S [91]/\AQ "]"=S [93]/\AQ "{"=S [123]/\AQ "}"=S [125]:=⟨rfl,rfl,rfl,rfl⟩
theorem c20:∀(n:Nat) (ws:List Wa),U8 ws->w6 ws<=24->2*Q0 ws+20<=n->J9 (j8 ws) n=true
 |0,_,_,_,h=>by lia
 |1,_,_,_,h=>by lia
 |2,_,_,_,h=>by lia
 |m+3,ws,g,hk,h=>by
  rw [Y0];refine a3N λp hp=> ?_;obtain⟨p,hp1,rfl⟩:=Ah.mp hp;have d:=b0m hp1;have g1:=a6o g hp1;cases p with
  |rows k ps=>
   rw [gVx] at g1;obtain⟨⟨a1,a2,a3,a4⟩,_⟩:=g1;have:=a8l (b0N a2 a1) a4;rw [X2];show J9 [a9T,.int (k:Nat),.list (x8 ps)] (m+2)=true;refine a3N λq hq=> ?_;simp only [An,List.not_mem_nil,or_false] at hq;rcases hq with rfl|rfl|rfl
   ·rfl
   ·rfl
   ·exact b0o (m+1) ps (by lia)
  |again k qs=>
   obtain⟨h1,_,_,_,h5,h6,h7⟩:=a4L g hp1;rw [X2];show J9 [C9,.int (k:Nat),.list (j8 qs)] (m+2)=true;refine a3N λq hq=> ?_;simp only [An,List.not_mem_nil,or_false] at hq;rcases hq with rfl|rfl|rfl
   ·rfl
   ·rfl
   ·exact c20 (m+1) qs h1 (by lia) (by lia)
theorem c21{ws:List Wa}(g:U8 ws)(ne:ws≠[])(hk:w6 ws<=24):J9 (j8 ws) 49=true:=
 c20 49 ws g hk (by have:=a8l (b0l ne g) hk;lia)
theorem b5h{R:Λ}{q0:Υ d4}:∀(ws:List Wa) (q1:Υ d4),U8 ws->(∀k qs,Wa.again k qs∈ws->R [.list (j8 qs)]=φ (.bool true))->∃q1',O1 (O4 R) (g9 1) (j8 ws) [q0,q1]=ξ (.nx [q0,q1'])
 |[],q1,_,_=>⟨q1,by rw [j8];rfl⟩
 |w::ws,q1,g,hR=>by
  rw [U8] at g;obtain⟨q1',e⟩:=b5h (R:=R) (q0:=q0) ws (φ (X2 w)) g.2 λk qs h=>hR k qs (Al _ h);refine⟨q1', ?_⟩;have hb:O4 R [q0,φ (X2 w)]=ξ (.nx [q0,φ (X2 w)]):=by
   unfold O4;have n3:gNe (.v (.int 3)) (.v (.int 3))=φ (.bool false):=a0y rfl;cases w with
   |rows k ps=>
    ext q
    obtain⟨⟨a1,a2,a3,a4⟩,k1,_⟩:=g1;have it:a3o "tuple" (.v (X2 (.rows k ps)))=φ (.bool true):=by rw [X2];rfl
    have il:y9 (.v (X2 (.rows k ps)))=φ (.int 3):=by rw [X2];rfl
    have hc:=a7K (i:=(k:Nat)) (j:=1) (by lia)
    have hf:=c1x 26 ps (a1) a2 (by lia) (by lia)
    have hf:a3p [.list (x8 ps)]=_:=hf;simp! [d8,m9,e8,b5,d3,b8,b6,b7,e9,f8,i6,f6,D8,y0,l7,G3,g5,i7,Y2,D4,P8,a34,AD,Ar,Bool.not_true,it,il,n3,i0,b6M,i1,hc,i2,hf]
   |again k qs=>
    obtain⟨i0,i1,i2⟩:=a7o k qs;have g1:=g.1;rw [gVx] at g1;have it:a3o "tuple" (.v (X2 (.again k qs)))=φ (.bool true):=by rw [X2];rfl
    have il:y9 (.v (X2 (.again k qs)))=φ (.int 3):=by rw [X2];rfl
    have na:gNe (.v C9) (.v C9)=φ (.bool false):=a0y rfl;have hc:=a7K (i:=(k:Nat)) (j:=2) (by lia)
    have hr:=hR k qs Ak;simp! [d8,m9,e8,b5,d3,b8,b6,b7,e9,f8,i6,f6,y0,l7,G3,g5,i7,Y2,D4,P8,a34,AD,Ar,Bool.not_true,it,il,n3,i0,b6K,na,i1,hc,i2,hr]
  rw [j8];exact a3S rfl hb e
theorem c1y:∀(n:Nat) (ws:List Wa),U8 ws->ws≠[]->w6 ws<=24->Q0 ws<n->N2 n [.list (j8 ws)]=φ (.bool true)
 |0,_,_,_,_,h=>by lia
 |n+1,ws,g,hne,hk,hd=>by
  obtain⟨q1,e⟩:=b5h (R:=N2 n) (q0:=φ (.list (j8 ws))) ws ζ g λk qs hq=>by
   obtain⟨h1,h2,_,_,h5,h6,h7⟩:=a4L g hq;exact c1y n qs h1 h2 (by lia) (by lia)
  ext p
  have il:a3o "list" (.v (.list (j8 ws)))=φ (.bool true):=rfl;have hq:X5 (.v (.list (j8 ws))) (.ow (.lst []))=φ (.bool false):=by
   rw [a4E (x:= .v (.list (j8 ws))) (y:= .ow (.lst [])) ⟨by show J9 (j8 ws) 49=true;exact c21 g hne hk,rfl⟩]
   congr 3
   show η (.list (j8 ws)) (.list [])=false;cases ws with
   |nil=>exact absurd rfl hne
   |cons p ps=>rw [j8];simp [η,θ]
  show k4 1 (W0 (N2 n)) [.list (j8 ws)]=_;unfold W0;simp! [d8,m9,e8,b5,b8,b7,D9,j7,u5,f8,i6,f6,y0,l7,i3,j5,G3,g5,i7,Y2,D4,P8,a34,u9,AD,Ar,AG,AR,Ac,AX,Aa,AY,Ad,↓reduceIte,Bool.not_true,F8,sz,Ai,il,hq,hit,e]
mutual
theorem c4Q:∀{w:Wa} {l:List Nat},l∈unV w->l.length∈lnV w
 | .rows k ps,l,h=>by
   rw [a6c] at h;obtain⟨_,_,rfl⟩:=Ah.mp h;rw [lnV];simp
 | .again k ws,l,h=>by
   rw [a4b] at h;obtain⟨x,hx,hl⟩:=List.mem_flatten.mp h;obtain⟨_,_,rfl⟩:=Ah.mp hx;rw [lnV];exact a2N hl
theorem a2N:∀{ws:List Wa} {l:List Nat},l∈B7 ws->l.length∈R8 ws
 |[],l,h=>by rw [B7] at h;cases h
 |w::ws,l,h=>by
  rw [B7] at h;rw [R8];rcases Aq.mp h with h|h
  ·exact BD _ (c4Q h)
  ·exact Au _ (a2N h)
end
mutual
theorem c7a:∀{w:Wa},gVx w->∀n∈lnV w,n<=24
 | .rows k ps,g,n,h=>by
   rw [gVx] at g;rw [lnV] at h;rw [List.mem_singleton] at h;rw [h];exact g.1.2.2.2
 | .again k ws,g,n,h=>by
   rw [gVx] at g;rw [lnV] at h;exact b61 g.2.2 n h
theorem b61:∀{ws:List Wa},U8 ws->∀n∈R8 ws,n<=24
 |[],_,n,h=>by rw [R8] at h;cases h
 |w::ws,g,n,h=>by
  rw [U8] at g;rw [R8] at h;rcases Aq.mp h with h|h
  ·exact c7a g.1 n h
  ·exact b61 g.2 n h
end
theorem b67{ps:List PV}{k:Nat}(h1:1<=ps.length)(hk:1<=k)(hz:ps.length*k<=10000)(hk2:k<=10000):a7X (.v (.tuple ps)) (.v (.int (k:Nat)))=φ (.tuple (((Ab k).map λ_=>ps).flatten)):=by
 have e:((Ab k).map λ_=>ps)=AV k ps:=by rw [List.map_const',Ax]
 rw [e]
 by_cases c:k=1
 ·subst c;show ξ (d4.v (.tuple ps))=_;simp [AV]
 ·unfold a7X;split
  ·rename_i h;injection h with h
   injection h with h
   lia
  ·show(if okC (λk n=>2<=k/\k<=1000000/\1<=n/\n*k<=16777216) (k:Int) ps.length=true then ξ (d4.v (.tuple (AV (k:Int).toNat ps).flatten)) else ζ)=_
   rw [if_pos (a28.mpr ⟨by lia,by lia,by lia,by rw [<-Int.natCast_mul];lia⟩),BI]
theorem c6S{q0 q2:Υ d4}{A B:List PV}(m:M)(hm:m [q0,φ (.tuple A),q2]=φ (.tuple B))(h:A.length+B.length<=10000):a3Z 1 b0Z m [q0,φ (.tuple A),q2]=ξ (.nx [q0,φ (.tuple (A++B)),q2]):=by
 unfold a3Z;show((m [q0,φ (.tuple A),q2]).bind _)=_;rw [hm,AD];have:b0Z (.v (.tuple A)) (.v (.tuple B))=φ (.tuple (A++B)):=if_pos (by rw [sizeLine_eq];lia)
 show((b0Z (.v (.tuple A)) (.v (.tuple B))).bind _)=_;rw [this]
 rfl
theorem b5x{α β:Type}(f:α->β)(l:List α)(k:Nat):((Ab k).map λ_=>l.map f).flatten=(((Ab k).map λ_=>l).flatten).map f:=by
 generalize Ab k=r
 induction r with
 |nil=>rfl
 |cons a r ih=>rw [AG,List.flatten_cons,ih,AG,List.flatten_cons,Ao]
theorem b8R{R:Λ}{q0:Υ d4}:∀(ws:List Wa) (acc:List (List Nat)) (q2:Υ d4),U8 ws->(∀k qs,Wa.again k qs∈ws->R [.list (j8 qs)]=φ (.tuple ((B7 qs).map row)))->acc.length+w6 ws<=10000->
 ∃q2',O1 (a0F R) (g9 2) (j8 ws) [q0,φ (.tuple (acc.map row)),q2]=ξ (.nx [q0,φ (.tuple ((acc++B7 ws).map row)),q2'])
 |[],acc,q2,_,_,_=>⟨q2,by rw [j8,B7,Af];rfl⟩
 |w::ws,acc,q2,g,hR,hl=>by
  rw [U8] at g;rw [w6] at hl;have hu:=b4t w;obtain⟨q2',e⟩:=b8R (R:=R) (q0:=q0) ws (acc++unV w) (φ (X2 w)) g.2 (λk qs h=>hR k qs (Al _ h)) (by rw [AW];lia)
  refine⟨q2', ?_⟩;have hb:a0F R [q0,φ (.tuple (acc.map row)),φ (X2 w)]=ξ (.nx [q0,φ (.tuple ((acc++unV w).map row)),φ (X2 w)]):=by
   rw [Ao];unfold a0F;cases w with
   |rows k ps=>
    ext q
    obtain⟨⟨a1,a2,a3,a4⟩,k1,k2⟩:=g1;have un:=b7C 30 ps (a1) a4 (by lia)
    have un:a2u [.list (x8 ps)]=_:=un;have ml:=b67 (ps:=[row (B3 ps)]) (k:=k) (by simp) k1 (by simp;lia) (by lia)
    have e2:((Ab k).map λ_=>[row (B3 ps)]).flatten=(unV (.rows k ps)).map row:=by
     rw [a6c,b46,Ay]
     rfl
    rw [e2] at ml;rw [knV] at hl hu;simp! [d8,e8,b5,d3,f6,D8,g5,i7,AD,i0,b6M];exact c6S _ (by simp! [d8,e8,b5,d3,b8,b6,b7,v9,e9,AD,AU,Ad,↓reduceIte,sz,Nat.reduceAdd,Ai,i2,un,i1,ml]) (by rw [AZ,AZ,hu];lia)
   |again k qs=>
    obtain⟨i0,i1,i2⟩:=a7o k qs;have g1:=g.1;rw [gVx] at g1;have hr:=hR k qs Ak;have hq:=a0S qs;have hp:=a5G g1.2.1 g1.2.2;rw [knV] at hl hu;have ml:=b67 (ps:=(B7 qs).map row) (k:=k) (by rw [AZ];lia) (by lia) (by rw [AZ,hq];lia) (by lia)
    have e2:((Ab k).map λ_=>(B7 qs).map row).flatten=(unV (.again k qs)).map row:=by
     rw [a4b,b5x]
    rw [e2] at ml;simp! [d8,e8,b5,d3,f6,y0,g5,i7,AD,i0,b6K];exact c6S _ (by simp! [d8,e8,b5,d3,b8,b6,b7,e9,AD,i2,hr,i1,ml]) (by rw [AZ,AZ,hu];lia)
  rw [B7,<-List.append_assoc,j8];exact a3S rfl hb e
theorem c2Z:∀(n:Nat) (ws:List Wa),U8 ws->w6 ws<=24->Q0 ws<n->a1a n [.list (j8 ws)]=φ (.tuple ((B7 ws).map row))
 |0,_,_,_,h=>by lia
 |n+1,ws,g,hk,hd=>by
  obtain⟨q2,e⟩:=b8R (R:=a1a n) (q0:=φ (.list (j8 ws))) ws [] ζ g (λk qs hq=>by
   obtain⟨h1,_,_,_,h5,h6,h7⟩:=a4L g hq;exact c2Z n qs h1 (by lia) (by lia)) (by simp;lia)
  ext p
  rw [AY] at e;have e:O1 (a0F (a1a n)) (g9 2) (j8 ws) [φ (.list (j8 ws)),φ (.tuple []),ζ]=_:=e;show k4 2 (a6h (a1a n)) [.list (j8 ws)]=_;unfold a6h;simp! [b5,b8,b7,v9,g7,p8,f8,i6,i3,j5,u9,AD,AG,AR,Ac,AX,Aa,AY,AS,AT,Ad,↓reduceIte,F8,Q7,Q8,sz,Ai,hit,e]
mutual
def coV:Wa->Nat
 | .rows _ ps=>1+coL ps
 | .again _ ws=>1+a1S ws
def a1S:List Wa->Nat
 |[]=>0
 |w::ws=>coV w+a1S ws
end
theorem b8m{R:Λ}{q0:Υ d4}:∀(ws:List Wa) (a:Int) (q2:Υ d4),U8 ws->(∀k qs,Wa.again k qs∈ws->R [.list (j8 qs)]=φ (.int (a1S qs:Nat)))->
 ∃q2',O1 (a0E R) (g9 2) (j8 ws) [q0,φ (.int a),q2]=ξ (.nx [q0,φ (.int (a+(a1S ws:Nat) - (ws.length:Nat))),q2'])
 |[],a,q2,_,_=>⟨q2,by rw [j8,a1S];show ξ _=_;simp⟩
 |w::ws,a,q2,g,hR=>by
  rw [U8] at g;have hb:a0E R [q0,φ (.int a),φ (X2 w)]=ξ (.nx [q0,φ (.int (a+(coV w:Nat) - 1)),φ (X2 w)]):=by
   unfold a0E;cases w with
   |rows k ps=>
    ext q
    obtain⟨⟨a1,a2,a3,a4⟩,k1,k2⟩:=g1;have:=a8l (b0N a2 a1) a4;have co:=b5m 26 ps (by lia)
    have co:a69 [.list (x8 ps)]=_:=co;have e1:a+(coL ps:Int)=a+((1+coL ps:Nat):Int) - 1:=by lia
    simp! [l6,d8,e8,b5,d3,b8,b6,b7,e9,g7,p8,f6,D8,g5,i7,AD,AS,AT,i0,b6M,i2,co];rw [coV,<-e1]
   |again k qs=>
    obtain⟨i0,i1,i2⟩:=a7o k qs;have hr:=hR k qs Ak;have e1:a+(a1S qs:Int)=a+((1+a1S qs:Nat):Int) - 1:=by lia
    simp! [l6,d8,e8,b5,d3,b8,b6,b7,e9,g7,p8,f6,y0,g5,i7,AD,AS,AT,i0,b6K,i2,hr];rw [coV,<-e1]
  obtain⟨q2',e⟩:=b8m (R:=R) (q0:=q0) ws (a+(coV w:Nat) - 1) (φ (X2 w)) g.2 λk qs h=>hR k qs (Al _ h);refine⟨q2', ?_⟩;have e2:a+(coV w:Nat) - 1+(a1S ws:Nat) - (ws.length:Nat)=a+((coV w+a1S ws:Nat):Int) - ((ws.length+1:Nat):Int):=by lia
  rw [a1S,AU,<-e2,j8];exact a3S rfl hb e
theorem a88:∀(n:Nat) (ws:List Wa),U8 ws->Q0 ws<n->a0z n [.list (j8 ws)]=φ (.int (a1S ws:Nat))
 |0,_,_,h=>by lia
 |n+1,ws,g,hd=>by
  obtain⟨q2,e⟩:=b8m (R:=a0z n) (q0:=φ (.list (j8 ws))) ws (ws.length:Nat) ζ g λk qs hq=>by
   obtain⟨h1,_,_,_,_,_,h7⟩:=a4L g hq;exact a88 n qs h1 (by lia)
  ext p
  have e1:(ws.length:Int)+(a1S ws:Nat) - (ws.length:Nat)=(a1S ws:Nat):=by lia
  rw [e1] at e;show k4 2 (a2V (a0z n)) [.list (j8 ws)]=_;unfold a2V;simp! [W1,m9,b5,b7,g7,p8,f8,i6,i3,j5,u9,AD,AG,AR,Ac,AX,Aa,AY,AS,AT,F8,Q7,Q8,b5Y,hit,e]
theorem c2D{RP RW:Λ}{w:Wa}(g:gVx w)(hk:knV w<=24)(hF:∀k qs,w= .again k qs->RW [.list (j8 qs)]=φ (row (a41 qs))):k4 0 (L9 RP RW) [X2 w]=φ (row (shV w)):=by
 obtain⟨s1,s2,s3,s4⟩:=c74;have hsl:=b8I g;unfold L9;rw [s1,s2,s3,s4];cases w with
 |rows k ps=>
  obtain⟨i0,i1,i2⟩:=a7p k ps;rw [gVx] at g;obtain⟨⟨a1,a2,a3,a4⟩,k1,k2⟩:=g;have sh:=b56 30 ps (a1) a4 (by lia)
  have sh:a4H [.list (x8 ps)]=_:=sh;have wt0:=c45 (k:=k) (by lia)
  have hw:=b4w k;rw [a8C,AU,AW,AU] at hsl;have b1:=a3n (l:=[91]) (k:=shL ps) (by simp;lia)
  have b2:=a3n (l:=91::shL ps) (k:=[93]) (by simp;lia)
  have b3:=a3n (l:=91::(shL ps++[93])) (k:=wt k) (by simp;lia)
  have ew:91::(shL ps++[93])++wt k=shV (.rows k ps):=by rw [a8C];simp
  rw [ew] at b3;simp! [d8,e8,b5,b8,b6,b7,e9,j7,u5,f8,a0R,f6,D8,i3,j5,g5,i7,AD,AG,AR,AX,Af,Aa,AY,i0,b6M,i2,sh,b1,b2,i1,wt0,b3]
 |again k qs=>
  obtain⟨i0,i1,i2⟩:=a7o k qs;have hr:=hF k qs rfl;rw [gVx] at g;have d2:=a4w k;rw [a2a,AU,AW,AU] at hsl;have a1:=a3n (l:=[123]) (k:=a41 qs) (by simp;lia)
  have a2:=a3n (l:=123::a41 qs) (k:=[125]) (by simp;lia)
  have a3:=a3n (l:=123::(a41 qs++[125])) (k:=dg k) (by simp;lia)
  have ew:123::(a41 qs++[125])++dg k=shV (.again k qs):=by rw [a2a];simp
  rw [ew] at a3;simp! [d8,m9,e8,b5,b8,b6,b7,e9,j7,u5,f8,i6,f6,y0,l7,i3,j5,g5,i7,AD,AG,AR,AX,Af,Aa,AY,i0,b6K,i2,hr,a1,a2,i1,b7y (k:=k) (by lia),a3]
theorem c2C:∀(n:Nat) (ws:List Wa),U8 ws->w6 ws<=24->2*Q0 ws+2<=n->L0 n [.list (j8 ws)]=φ (row (a41 ws))
 |0,_,_,_,h=>by lia
 |1,_,_,_,h=>by lia
 |m+2,ws,g,hk,hd=>by
  have hm:=b1a g;have cm:=a0m (ι:=X2) (f:=λp=>row (shV p)) (k:=1) (it:=a1Z (a8 0)) (elt:=a0a (C6 (m+1)) (L0 (m+1))) (tg:=g9 1) (ρ:=[φ (.list (j8 ws))]) ws
   (a5N (r:= .v (.list (j8 ws))) rfl (by rw [Y0];rfl)) (by lia) λp hp=>⟨_,rfl,by
    have:=b3R hp;have e:C6 (m+1) [X2 p]=φ (row (shV p)):=c2D (RP:=C6 m) (RW:=L0 m) (a6o g hp) (by lia) λk qs hq=>by
     subst hq;obtain⟨h1,h2,h3,h4,h5,h6,h7⟩:=a4L g hp;exact c2C m qs h1 (by lia) (by lia)
    unfold a0a;simp! [b5,d3,b8,b6,b7,e9,AD,Ac,AX,Aa,AY,AS,AT,e]⟩
  have jn:=c67 g hk (y:= .own (ws.map λp=>row (shV p))) (by rw [Ay];rfl)
  show k4 0 (Y5 (C6 (m+1)) (L0 (m+1))) [.list (j8 ws)]=_;unfold Y5;simp! [d8,e8,j7,u5,i3,j5,AD,AG,AR,AX,Af,cm,jn]
theorem b7w:∀{qs:List Pa} {p:Pa},okL (qs++[p])->okL qs/\okP p
 |[],p,h=>⟨trivial,h.1⟩
 |q::qs,p,h=>⟨⟨h.1,(b7w h.2).1⟩,(b7w h.2).2⟩
theorem b7X:∀{qs:List Pa} {p:Pa} {d:Nat},dpL (qs++[p])<=d->dpL qs<=d/\dpP p<=d
 |[],p,d,h=>by
  have h:dpL [p]<=d:=h;rw [dpL,dpL] at h;rw [dpL]
  lia
 |q::qs,p,d,h=>by
  rw [Aa,dpL] at h;have:=b7X (qs:=qs) (p:=p) (d:=d) (by lia)
  rw [dpL]
  lia
theorem a6F(ps:List Pa)(p:Pa):B3 (ps++[p])=B3 ps++unP p:=by
 rw [V6,V6,Ao,List.flatten_append];simp
theorem c2T(c k:Nat):unP (.run c (k+1))=unP (.run c k)++[c]:=by
 rw [unP,unP,List.range_succ,Ao]
 rfl
theorem c3M(A:List PV)(p:PV):l9 (.bor (A++[p])) (.v (.int (-1)))=φ p:=by
 have h:L2.atI (A++[p]) (-1)=ξ p:=by
  unfold L2.atI L2.ixN;rw [if_neg (by lia),if_pos (by rw [AW,List.length_singleton];lia),AD]
  have:((-1:Int)+((A++[p]).length:Nat)).toNat=A.length:=by rw [AW,List.length_singleton];lia
  rw [this];simp
 exact c3F h
theorem c2v(i:Nat)(ρ:c9)(q p:PV)(A:List PV)(h:ρ[i]?=ξ (ξ (.own (A++[p])))):c2t i ρ q (.v (.int (-1)))=ξ (.nx (ρ.set i (ξ (.own (A++[q]))))):=by
 unfold c2t;rw [h];show(L2.ixN (A++[p]).length (-1)).bind _=_;have:L2.ixN (A++[p]).length (-1)=ξ A.length:=by
  unfold L2.ixN;rw [if_neg (by lia),if_pos (by rw [AW,List.length_singleton];lia)]
  congr 1
  rw [AW,List.length_singleton]
  lia
 rw [this,AD];simp
theorem c6w{l:List Nat}(hl:l.length<=24)(haz:∀x∈l,97<=x/\x<=122):∃ps:List Pa,okL ps/\B3 ps=l/\dpL ps<=0/\a3T [row l]=ξ (.own (x8 ps)):=by
 obtain⟨ρ1,e1,ps,q2,x1,x2,x3,x4,rfl⟩:=D1 (body:=C7) (tg:=g9 2) (λi ρ=>∃(ps:List Pa) (q2:Υ d4),okL ps/\B3 ps=l.take i/\dpL ps<=0/\ps.length<=i/\ρ=[φ (row l),ξ (.own (x8 ps)),q2])
  (ps:=l.map λc=> .str (S [c])) (ρ:=[φ (row l),ξ (.own []),ζ])
  (by
   rintro i p hp ρ ⟨ps,q2,x1,x2,x3,x4,rfl⟩;rw [Az] at hp;cases hc:l[i]? with
   |none=>rw [hc] at hp;cases hp
   |some c=>
    rw [hc] at hp;cases hp;have hi:i<l.length:=(Av.mp hc).1;have hcz:=haz c (BA hc);have htk:l.take (i+1)=l.take i++[c]:=by rw [List.take_succ,hc];rfl
    have hlen:(B3 ps).length=i:=by rw [x2,List.length_take];lia
    have ok49:J9 (x8 ps) 49=true:=b0o 49 ps (by lia)
    have fin:∀qs:List Pa,okL qs->B3 qs=l.take (i+1)->dpL qs<=0->qs.length<=i+1->C7 [φ (row l),ξ (.own (x8 ps)),φ (row [c])]=ξ (.nx [φ (row l),ξ (.own (x8 qs)),φ (row [c])])->∃ρ1 ρ2,g9 2 (.str (S [c])) [φ (row l),ξ (.own (x8 ps)),q2]=ξ ρ1/\(C7 ρ1=ξ (.nx ρ2)\/C7 ρ1=ξ (.ct ρ2))/\∃(ps:List Pa) (q2:Υ d4),okL ps/\B3 ps=l.take (i+1)/\dpL ps<=0/\ps.length<=i+1/\ρ2=[φ (row l),ξ (.own (x8 ps)),q2]:=
     λqs y1 y2 y3 y4 e=>G4 (I:=λρ2=>∃(ps:List Pa) (q2:Υ d4),okL ps/\B3 ps=l.take (i+1)/\dpL ps<=0/\ps.length<=i+1/\ρ2=[φ (row l),ξ (.own (x8 ps)),q2]) rfl e ⟨qs,_,y1,y2,y3,y4,rfl⟩
    have ap:D6 1 (O2 (a6 (mC (.str (AQ "run"))) (a6 (a8 2) (a6 (mC (.int 1)) b9)))) [φ (row l),ξ (.own (x8 ps)),φ (row [c])]=ξ (.nx [φ (row l),ξ (.own (x8 (ps++[.run c 1]))),φ (row [c])]):=by
     rw [a36,E2];exact B5 (r:= .v (.tuple [a6M,row [c],.int ((1:Nat):Int)])) (ps:=x8 ps) (by simp! [e8,b5,d3,b8,b6,b7,v9,AD,AU,Ad,↓reduceIte,sz,Nat.reduceAdd,Ai,Int.cast_ofNat_Int]) rfl rfl (by rw [b4k];lia)
    have new:C7 [φ (row l),ξ (.own (x8 ps)),φ (row [c])]=ξ (.nx [φ (row l),ξ (.own (x8 (ps++[.run c 1]))),φ (row [c])])->∃ρ1 ρ2,g9 2 (.str (S [c])) [φ (row l),ξ (.own (x8 ps)),q2]=ξ ρ1/\(C7 ρ1=ξ (.nx ρ2)\/C7 ρ1=ξ (.ct ρ2))/\∃(ps:List Pa) (q2:Υ d4),okL ps/\B3 ps=l.take (i+1)/\dpL ps<=0/\ps.length<=i+1/\ρ2=[φ (row l),ξ (.own (x8 ps)),q2]:=
     λe=>fin (ps++[.run c 1]) (a8b x1 (show okP (.run c 1) from⟨by lia,by lia,hcz⟩)) (by rw [a6F,htk,x2];rfl) (a7M x3 (by rw [dpP];lia)) (by rw [AW,List.length_singleton];lia) e
    rcases List.eq_nil_or_concat ps with z|⟨qs,p,z⟩
    ·apply new;have ne:gNe (.bor (x8 ps)) (.own [])=φ (.bool false):=by rw [z,x8];rfl
     unfold C7;simp! [d8,a4N,d3,b8,D9,f6,y0,g5,i7,z6,a4o,AD,Ad,↓reduceIte,sz,Ai,ne];exact ap
    ·rw [List.concat_eq_append] at z;have ne:gNe (.bor (x8 ps)) (.own [])=φ (.bool true):=by
      rw [b01 (x:= .bor (x8 ps)) (y:= .own []) ⟨ok49,rfl⟩]
      congr 3
      show(!η (.list (x8 ps)) (.list []))=true;rw [z,a36];cases x8 qs<;>simp [η,θ]
     obtain⟨o1,o2⟩:=b7w (z▸x1);obtain⟨d1,d2⟩:=b7X (z▸x3);cases p with
     |again k rs=>rw [dpP] at d2;lia
     |run d k=>
      have ix:l9 (.bor (x8 ps)) (.v (.int (-1)))=φ (E2 (.run d k)):=by rw [z,a36];exact c3M _ _
      have i1:l9 (.v (E2 (.run d k))) (.v (.int 1))=φ (row [d]):=by rw [E2];rfl
      have i2:l9 (.v (E2 (.run d k))) (.v (.int 2))=φ (.int (k:Nat)):=by rw [E2];rfl
      have eq:=a6n [d] [c]
      by_cases hd:d=c
      ·subst hd;have eq:X5 (.v (row [d])) (.v (row [d]))=φ (.bool true):=by rw [eq];simp
       have e2:(k:Int)+1=((k+1:Nat):Int):=by lia
       have hk:(B3 qs).length+k=i:=by rw [<-hlen,z,a6F,AW,a43]
       have st:=c2v 1 [φ (row l),ξ (.own (x8 ps)),φ (row [d])] (E2 (.run d (k+1))) (E2 (.run d k)) (x8 qs) (by rw [z,a36];rfl)
       refine fin (qs++[.run d (k+1)]) (a8b o1 (show okP (.run d (k+1)) from⟨by lia,by lia,hcz⟩)) (by rw [a6F,c2T,<-List.append_assoc,<-a6F,<-z,htk,x2]) (a7M d1 (by rw [dpP];lia)) (by rw [z,AW,List.length_singleton] at x4;rw [AW,List.length_singleton];lia) ?_
       have ep:E2 (.run d (k+1))= .tuple [a6M,row [d],.int ((k+1:Nat):Int)]:=by rw [E2]
       rw [ep] at st;unfold C7;simp! [l6,b63,d8,e8,b5,a4N,d3,b8,b6,b7,v9,D9,f6,D8,g5,i7,z6,a01,b5s,c1R,AD,AU,Ad,↓reduceIte,sz,Nat.reduceAdd,Ai,Int.reduceNeg,ne,ix,i1,eq,i2,e2];refine st.trans ?_;rw [a36,ep]
       rfl
      ·have eq:X5 (.v (row [d])) (.v (row [c]))=φ (.bool false):=by rw [eq];simp [hd]
       apply new;unfold C7;simp! [d8,e8,b5,a4N,d3,b8,D9,f6,y0,g5,i7,z6,a01,b5s,c1R,AD,Ad,↓reduceIte,sz,Ai,Int.reduceNeg,ne,ix,i1,eq];exact ap) ⟨[],ζ,trivial,by rw [B3];simp,by rw [dpL];lia,AN _,by rw [x8]⟩
 rw [AZ,List.take_length] at x2;have sg:a7f (a8 0) [φ (row l),ξ (.own []),ζ]=ξ (l.map λc=> .str (S [c])):=b5t rfl;refine⟨ps,x1,x2,x3, ?_⟩;unfold a3T b2u;simp! [b8,D9,g7,Z4,f8,i6,i3,j5,u9,AD,AG,AR,Ac,AX,Aa,AY,AS,AT,Ad,↓reduceIte,Q7,Q8,sz,Ai,sg,e1]
abbrev enL(ps:List Pa):PV:= .tuple [row (B3 ps),.list (x8 ps)]
def c1H(n:Nat)(ps:List Pa):Prop:=okL ps/\ps≠[]/\dpL ps<=3/\(B3 ps).length=n/\fv5 (B3 ps)
theorem c57{o:List Nat}(ho:0<o.length)(ho2:o.length<=24)(haz:fv5 o){n:Nat}(hn:n<=24){l:List Nat}(hl:l.length=n)(q0 q1 q2 q4 q5 q7:Υ d4):
 ∃w:List Nat,w.length=n/\fv5 w/\m2 T7 (mC (.str (AQ ""))) (a30 1 (a0V (a6 (m1 y9 (a8 3)) b9)) (g9 8) a5a a0G) [q0,q1,q2,φ (row l),q4,q5,φ (row o),q7]=φ (row w):=by
 have gl:=R4 (l:=l) (by lia)
 have go:=R4 (l:=o) (by lia)
 have cm:=a0m (ι:=λc:Nat=>PyData.int (c:Nat)) (f:=λc=>row [o.getD (c % o.length) 0]) (k:=1) (it:=a0V (a6 (m1 y9 (a8 3)) b9)) (elt:=a0G) (tg:=g9 8) (ρ:=[q0,q1,q2,φ (row l),q4,q5,φ (row o),q7]) (Ab n)
  (by simp! [m9,b5,d3,b8,b6,b7,M5,a1r,AD,gl];rw [hl,a6z]) (by rw [Ax];lia) λc _=>⟨_,rfl,by
   have hm:c % o.length<o.length:=Nat.mod_lt _ ho;have e:(c:Int) %(o.length:Int)=((c % o.length:Nat):Int):=(Int.natCast_emod c o.length).symm;have ix:l9 (.v (row o)) (.v (.int ((c % o.length:Nat):Int)))=φ (row [o.getD (c % o.length) 0]):=by
    refine c1h (by lia) ?_
    rw [b2s,List.getD_eq_getElem?_getD,BC hm]
    rfl
   unfold a0G;simp! [C4,d8,m9,b5,d3,b7,AD,Ac,AX,Aa,AY,AS,AT,go,e,ix]⟩
 refine⟨(Ab n).map λc=>o.getD (c % o.length) 0,by simp,λx hx=> ?_, ?_⟩
 ·obtain⟨c,_,rfl⟩:=Ah.mp hx
  have hm:c % o.length<o.length:=Nat.mod_lt _ ho
  rw [List.getD_eq_getElem?_getD,BC hm]
  exact haz _ (List.getElem_mem hm)
 ·have ef:∀r:List Nat,(r.map λc=>[o.getD (c % o.length) 0]).flatten=r.map λc=>o.getD (c % o.length) 0:=λr=>by
   induction r with
   |nil=>rfl
   |cons a r ih=>rw [AG,List.flatten_cons,ih,AG];rfl
  have jn:T7 (.v (.str (AQ ""))) (.own ((Ab n).map λc=>row [o.getD (c % o.length) 0]))=φ (row ((Ab n).map λc=>o.getD (c % o.length) 0)):=by
   have:=b8g (rows:=(Ab n).map λc=>[o.getD (c % o.length) 0]) (y:= .own ((Ab n).map λc=>row [o.getD (c % o.length) 0])) (by rw [Ay];rfl) (by rw [ef,AZ,Ax];lia)
   rw [ef] at this;exact this
  simp! [d8,e8,AD,cm,jn]
theorem c1G(ns:List Int)(hn:ns.length<=63){a:Nat}(ha:a<=60):∃(L:List (List Pa)) (n:Nat),L≠[]/\L.length<=4/\1<=n/\n<=12/\(∀ps∈L,c1H n ps)/\a2Z [.list (ns.map .int),.int (a:Nat)]=ξ (.own (L.map enL)):=by
 obtain⟨p0,⟨o1,o5⟩,o2,o3,o4,e0⟩:=b4Z ns hn (at_:=a) (by lia)
 have hn1:=a6E o2 o1;have u0:=a74 26 p0 o1 (by lia) (by lia)
 have u0:C5 [.list (x8 p0)]=_:=u0;obtain⟨c,hc⟩:=a8T (ns:=ns) (k:=((a+1:Nat):Int)) (by lia)
 obtain⟨N,hN,eN⟩:=a1c c;have e1:(a:Int)+1=((a+1:Nat):Int):=by lia
 obtain⟨mn,emn,mn1,mn2⟩:∃mn:Nat,1+N % 3=(mn:Int)/\1<=mn/\mn<=3:=⟨(1+N % 3).toNat,by lia,by lia,by lia⟩
 obtain⟨ρ1,ef,L,q5,q6,q7,x1,x2,x3,rfl⟩:=D1 (body:=a0D) (tg:=g9 5) (λi ρ=>∃(L:List (List Pa)) (q5 q6 q7:Υ d4),L≠[]/\L.length<=i+1/\(∀ps∈L,c1H (B3 p0).length ps)/\
  ρ=[φ (.list (ns.map .int)),φ (.int (a:Nat)),φ (.list (x8 p0)),φ (row (B3 p0)),ξ (.own (L.map enL)),q5,q6,q7])
  (ps:=K4 0 ((mn:Nat):Int)) (ρ:=[φ (.list (ns.map .int)),φ (.int (a:Nat)),φ (.list (x8 p0)),φ (row (B3 p0)),ξ (.own [enL p0]),ζ,ζ,ζ])
  (by
   rintro i p hp ρ ⟨L,q5,q6,q7,x1,x2,x3,rfl⟩;obtain⟨rfl,hi⟩:=W6 hp;obtain⟨p1,⟨r1,r5⟩,r2,r3,r4,d1⟩:=b4Z ns hn (at_:=a+7+5*i) (by lia)
   have h1:=a6E r2 r1;have u1:=a74 26 p1 r1 (by lia) (by lia)
   have u1:C5 [.list (x8 p1)]=_:=u1;have e2:(a:Int)+7+5*(0+(i:Int))=((a+7+5*i:Nat):Int):=by lia
   obtain⟨w,w1,w2,w3⟩:=c57 h1 (by lia) r5 (n:=(B3 p0).length) (by lia) (l:=B3 p0) rfl (φ (.list (ns.map .int))) (φ (.int (a:Nat))) (φ (.list (x8 p0))) (ξ (.own (L.map enL))) (φ (.int (0+(i:Int)))) q7
   obtain⟨p2,s1,s2,s3,s4⟩:=c6w (l:=w) (by lia) λx hx=>c2k (w2 x hx)
   have hne:p2≠[]:=λz=>by
    rw [z,B3] at s2;rw [<-s2] at w1;simp at w1
    lia
   refine G4 rfl (ρ2:=[φ (.list (ns.map .int)),φ (.int (a:Nat)),φ (.list (x8 p0)),φ (row (B3 p0)),ξ (.own ((L++[p2]).map enL)),φ (.int (0+(i:Int))),φ (row (B3 p1)),φ (row w)]) ?_ ⟨L++[p2],_,_,_,by simp,by rw [AW,List.length_singleton];lia,λps hps=> ?_,rfl⟩
   ·have ap:=B5 (i:=4) (m:=O2 (a6 (a8 7) (a6 (f7 a3T (a6 (a8 7) b9)) b9))) (ρ:=[φ (.list (ns.map .int)),φ (.int (a:Nat)),φ (.list (x8 p0)),φ (row (B3 p0)),ξ (.own (L.map enL)),φ (.int (0+(i:Int))),φ (row (B3 p1)),φ (row w)]) (r:= .v (enL p2)) (p:=enL p2) (ps:=L.map enL) (by rw [show enL p2= .tuple [row w,.list (x8 p2)] by rw [<-s2]];simp! [b5,d3,b8,b6,b7,a2b,v9,e9,AD,AU,Ad,↓reduceIte,sz,Nat.reduceAdd,Ai,s4]) rfl rfl (by rw [AZ];lia)
    show a0D [φ (.list (ns.map .int)),φ (.int (a:Nat)),φ (.list (x8 p0)),φ (row (B3 p0)),ξ (.own (L.map enL)),φ (.int (0+(i:Int))),q6,q7]=_;rw [Ao];unfold a0D;rw [d8] at w3;simp (disch:=omega) only [l6,T8,d8,e8,b5,d3,b8,b6,b7,e9,g7,p8,f8,i6,AD,AG,AR,AS,AT,e2,d1,u1] at w3 ⊢;simp! [p8,i6,AD,AS,AT,w3,ap]
    try rfl
   ·rcases Aq.mp hps with h|h
    ·exact x3 ps h
    ·rw [List.mem_singleton] at h;subst h;exact⟨s1,hne,by lia,by rw [s2];exact w1,by rw [s2];exact w2⟩) ⟨[p0],ζ,ζ,ζ,by simp,by simp,λps hps=>by rw [List.mem_singleton] at hps;subst hps;exact⟨o1,o2,o4,rfl,o5⟩,rfl⟩
 have hlen:(K4 0 ((mn:Nat):Int)).length=mn:=by rw [a6z,AZ,Ax]
 rw [hlen] at x2;refine⟨L,(B3 p0).length,x1,by lia,hn1,o3,x3, ?_⟩
 unfold a2Z a9B;simp! [l6,C4,d8,e8,b5,d3,b8,b6,b7,v9,D9,e9,g7,p8,Z4,f8,i6,i3,j5,u9,M5,a1r,AD,AG,AR,Ac,AX,Aa,AY,AS,AT,AU,Ad,↓reduceIte,Q7,Q8,sz,Nat.reduceAdd,Ai,e0,u0,e1,hc,eN,emn,ef]
theorem b94(ps:List Wa)(p:Wa):j8 (ps++[p])=j8 ps++[X2 p]:=by rw [Y0,Y0,Ao];rfl
theorem b2U:∀(ps:List Wa) (p:Wa),w6 (ps++[p])=w6 ps+knV p
 |[],p=>by show w6 [p]=_;rw [w6,w6,w6];lia
 |q::ps,p=>by rw [Aa,w6,w6,b2U ps p];lia
theorem b5d:∀{ps:List Wa} {p:Wa},U8 ps->gVx p->U8 (ps++[p])
 |[],p,_,h=>by show U8 [p];rw [U8,U8];exact⟨h,trivial⟩
 |q::ps,p,h,g=>by rw [U8] at h;rw [Aa,U8];exact⟨h.1,b5d h.2 g⟩
theorem b2G:∀{ps:List Wa} {p:Wa} {d:Nat},Q0 ps<=d->dpV p<=d->Q0 (ps++[p])<=d
 |[],p,d,_,h=>by
  show Q0 [p]<=d;rw [Q0,Q0];lia
 |q::ps,p,d,h,g=>by
  rw [Q0] at h;rw [Aa,Q0];have:=b2G (ps:=ps) (p:=p) (d:=d) (by lia) g
  lia
theorem b2X:∀(ps:List Wa) (p:Wa),R8 (ps++[p])=R8 ps++lnV p
 |[],p=>by show R8 [p]=_;rw [R8,R8,R8];simp
 |q::ps,p=>by rw [Aa,R8,R8,b2X ps p,List.append_assoc]
theorem c5J{n:Nat}(hn:n<=12){ps:List Pa}(h:c1H n ps):gFo ps:=⟨h.1,h.2.1,by have:=h.2.2.1;lia,by rw [h.2.2.2.1];lia⟩
theorem c0g{ps:List Wa}{p:Wa}(h:∀r∈B7 ps,fv5 r)(g:∀r∈unV p,fv5 r):∀r∈B7 (ps++[p]),fv5 r:=by
 induction ps with
 |nil=>
  intro r hr;rw [AY,B7,B7,Af] at hr;exact g r hr
 |cons q ps ih=>
  intro r hr;rw [Aa,B7] at hr;rw [B7] at h;rcases Aq.mp hr with hr|hr
  ·exact h r (BD _ hr)
  ·exact ih (λr hr=>h r (Au _ hr)) r hr
theorem b7E{R:Λ}{cs:List Int}(hcs:0<cs.length){L:List (List Pa)}{n0:Nat}(hn0:n0<=12)(hL:L≠[])(hLo:∀ps∈L,c1H n0 ps){deep g B:Nat}(hdeep:deep<=3)
 (hR:0<deep->∀a room:Nat,1<=room->room<=24->a<=B->∃(qs:List Wa) (a':Nat),U8 qs/\qs≠[]/\w6 qs<=room/\Q0 qs+1<=deep/\((∀x∈R8 qs,x=n0)/\∀r∈B7 qs,fv5 r)/\a'<=a+g/\R [.list (cs.map .int),.int (a:Nat),.int (room:Nat),.int ((deep:Int) - 1),.list (L.map enL)]=φ (.tuple [.list (j8 qs),.int (a':Nat)]))
 {a left:Nat} (ha:a<=40000) (hB:a+2<=B) (hl:0<left) (hl2:left<=24) {acc:List PV} (hacc:acc.length<1000) (q2 q7 q8 q9 q10 q11:Υ d4):
 ∃(p:Wa) (a' left':Nat) (q9' q10' q11':Υ d4),gVx p/\dpV p<=deep/\knV p+left'=left/\((∀x∈lnV p,x=n0)/\∀r∈unV p,fv5 r)/\a'<=a+2+g/\
  E9 R [φ (.list (cs.map .int)),φ (.int (a:Nat)),q2,φ (.int (deep:Nat)),φ (.list (L.map enL)),ξ (.own acc),φ (.int (left:Nat)),q7,q8,q9,q10,q11]
  =ξ (.nx [φ (.list (cs.map .int)),φ (.int (a':Nat)),q2,φ (.int (deep:Nat)),φ (.list (L.map enL)),ξ (.own (acc++[X2 p])),φ (.int (left':Nat)),q7,q8,q9',q10',q11']):=by
 obtain⟨c,hc⟩:=b0j hcs (((a+1:Nat):Int))
 obtain⟨N,hN,eN⟩:=a1c (c+7*((a+1:Nat):Int))
 have gl:y9 (.v (.list (cs.map .int)))=φ (.int (cs.length:Nat)):=by rw [W1,AZ]
 have e1:(a:Int)+1=((a+1:Nat):Int):=by lia
 have p0:decide ((0:Int)<(left:Int))=true:=decide_eq_true (by lia)
 by_cases hb:0<deep/\1<left/\N % 3=0
 ·obtain⟨b1,b2,b3⟩:=hb
  obtain⟨m,hm,ma1,ma2⟩:∃m:Nat,(if(left:Int) - 1<3 then(left:Int) - 1 else 3)=(m:Int)/\1<=m/\m+1<=left/\m<=3:=⟨(if(left:Int) - 1<3 then(left:Int) - 1 else 3).toNat,by split<;>lia,by split<;>lia,by split<;>lia,by split<;>lia⟩
  have r0:0<=N / 3 %(m:Int):=Int.emod_nonneg _ (by lia)
  have r1:N / 3 %(m:Int)<m:=Int.emod_lt_of_pos _ (by lia)
  obtain⟨k,hk,k1,k2,k3⟩:∃k:Nat,2+N / 3 %(m:Int)=(k:Int)/\2<=k/\k<=left/\k<=4:=⟨(2+N / 3 %(m:Int)).toNat,by lia,by lia,by lia,by lia⟩
  have hroom:1<=left / k:=(Nat.le_div_iff_mul_le (by lia)).mpr (by lia)
  have hroom2:left / k<=24:=Nat.le_trans (Nat.div_le_self _ _) hl2
  obtain⟨qs,a',okq,qne,hq,dq,lq,ha',eR⟩:=hR b1 (a+2) (left / k) hroom hroom2 (by lia)
  have hmul:k*w6 qs<=left:=by
   have:=Nat.mul_le_mul_left k hq;have:=Nat.mul_div_le left k
   lia
  have hlu:C1 [.list (j8 qs)]=φ (.tuple ((B7 qs).map row)):=b0q 26 qs okq (by lia) (by lia)
  have gl2:y9 (.v (.tuple ((B7 qs).map row)))=φ (.int (w6 qs:Nat)):=by rw [b5a,AZ,a0S]
  have c1:decide ((0:Int)<(deep:Int))=true:=decide_eq_true (by lia)
  have c2:decide ((1:Int)<(left:Int))=true:=decide_eq_true (by lia)
  have c3:(N % 3==0)=true:=by rw [beq_iff_eq];exact b3
  have e2:((a+1:Nat):Int)+1=((a+2:Nat):Int):=by lia
  have e3:(left:Int)/(k:Int)=((left / k:Nat):Int):=(Int.natCast_ediv left k).symm
  have e4:(left:Int) - (k:Int)*(w6 qs:Int)=((left - k*w6 qs:Nat):Int):=by rw [Int.ofNat_sub hmul,Int.natCast_mul]
  refine⟨.again k qs,a',left - k*w6 qs,φ (.int N),φ (.int (k:Nat)),φ (.list (j8 qs)),by rw [gVx];exact⟨⟨k1,by lia⟩,qne,okq⟩,by rw [dpV];lia,by rw [knV,Nat.mul_comm];lia,⟨by rw [lnV];exact lq.1,λr hr=>by
   rw [a4b] at hr;obtain⟨l,hl,hx⟩:=List.mem_flatten.mp hr;obtain⟨_,_,rfl⟩:=Ah.mp hl;exact lq.2 r hx⟩,by lia, ?_⟩
  have ep:X2 (.again k qs)= .tuple [C9,.int (k:Nat),.list (j8 qs)]:=by rw [X2]
  have ap:=B5 (i:=5) (m:=O2 (a6 (mC (.str (AQ "again"))) (a6 (a8 10) (a6 (a8 11) b9)))) (ρ:=[φ (.list (cs.map .int)),φ (.int (a':Nat)),q2,φ (.int (deep:Nat)),φ (.list (L.map enL)),ξ (.own acc),φ (.int (left:Nat)),q7,q8,φ (.int N),φ (.int (k:Nat)),φ (.list (j8 qs))]) (r:= .v (X2 (.again k qs))) (p:=X2 (.again k qs)) (ps:=acc) (by rw [ep];simp! [e8,b5,d3,b8,b6,b7,v9,AD,AU,Ad,↓reduceIte,sz,Nat.reduceAdd,Ai]) rfl rfl (by lia)
  unfold E9
  simp! [l6,K3,T8,C4,G6,d8,m9,e8,b5,d3,b8,b6,b7,e9,g7,p8,f8,i6,f6,D8,g5,i7,z6,a01,b5w,c2Y,AD,AS,AT,a9M,p0,e1,gl,hc,eN,c1,c2,c3,hm,hk,e2,e3,eR,ap,hlu,gl2,e4]
 ·have hLp:0<L.length:=List.length_pos_iff.mpr hL
  have glL:y9 (.v (.list (L.map enL)))=φ (.int (L.length:Nat)):=by rw [W1,AZ]
  obtain⟨i,ei,hi⟩:∃i:Nat,N / 27 %(L.length:Int)=(i:Int)/\i<L.length:=⟨(N / 27 %(L.length:Int)).toNat,by
   have:=Int.emod_nonneg (N / 27) (show(L.length:Int)≠0 by lia)
   lia,by
   have h1:=Int.emod_lt_of_pos (N / 27) (show 0<(L.length:Int) by lia)
   have h2:=Int.emod_nonneg (N / 27) (show(L.length:Int)≠0 by lia)
   lia⟩
  obtain⟨fo,hfo⟩:∃fo,L[i]?=ξ fo:=⟨L[i],BC hi⟩
  have hfm:=hLo fo (BA hfo)
  have ix:l9 (.v (.list (L.map enL))) (.v (.int (i:Nat)))=φ (enL fo):=a7V (by rw [b2s,Az,hfo];rfl)
  have w0:0<=N / 81 % 4 / 3/\N / 81 % 4 / 3<=1:=by lia
  obtain⟨m,hm,ma1,ma2⟩:∃m:Nat,(if 3+9*(N / 81 % 4 / 3)<(left:Int) then 3+9*(N / 81 % 4 / 3) else(left:Int))=(m:Int)/\1<=m/\m<=left:=⟨(if 3+9*(N / 81 % 4 / 3)<(left:Int) then 3+9*(N / 81 % 4 / 3) else(left:Int)).toNat,by split<;>lia,by split<;>lia,by split<;>lia⟩
  have r0:0<=N / 3 %(m:Int):=Int.emod_nonneg _ (by lia)
  have r1:N / 3 %(m:Int)<m:=Int.emod_lt_of_pos _ (by lia)
  obtain⟨k,hk,k1,k2⟩:∃k:Nat,1+N / 3 %(m:Int)=(k:Int)/\1<=k/\k<=left:=⟨(1+N / 3 %(m:Int)).toNat,by lia,by lia,by lia⟩
  have e4:(left:Int) - (k:Int)=((left - k:Nat):Int):=by lia
  refine⟨.rows k fo,a+1,left - k,φ (.int N),φ (.int (k:Nat)),q11,by rw [gVx];exact⟨c5J hn0 hfm,k1,by lia⟩,by rw [dpV];lia,by rw [knV];lia,⟨λx hx=>by rw [lnV,List.mem_singleton] at hx;rw [hx];exact hfm.2.2.2.1,λr hr=>by
   rw [a6c] at hr;obtain⟨_,_,rfl⟩:=Ah.mp hr;exact hfm.2.2.2.2⟩,by lia, ?_⟩
  have ep:X2 (.rows k fo)= .tuple [a9T,.int (k:Nat),.list (x8 fo)]:=by rw [X2]
  have ap:=B5 (i:=5) (m:=O2 (a6 (mC (.str (AQ "rows"))) (a6 (a8 10) (a6 (m2 l9 (m2 l9 (a8 4) (m2 Θ (m2 Ω (a8 9) (mC (.int 27))) (m1 y9 (a8 4)))) (mC (.int 1))) b9)))) (ρ:=[φ (.list (cs.map .int)),φ (.int ((a+1:Nat):Int)),q2,φ (.int (deep:Nat)),φ (.list (L.map enL)),ξ (.own acc),φ (.int (left:Nat)),q7,q8,φ (.int N),φ (.int (k:Nat)),q11]) (r:= .v (X2 (.rows k fo))) (p:=X2 (.rows k fo)) (ps:=acc) (by rw [ep];simp! [C4,G6,a1w,d8,m9,e8,b5,d3,b8,b6,b7,v9,AD,AU,Ad,↓reduceIte,sz,Nat.reduceAdd,Ai,glL,ei,ix]) rfl rfl (by lia)
  unfold E9
  by_cases b1:0<deep
  ·have c1:decide ((0:Int)<(deep:Int))=true:=decide_eq_true (by lia)
   by_cases b2:1<left
   ·have c2:decide ((1:Int)<(left:Int))=true:=decide_eq_true (by lia)
    have c3:(N % 3==0)=false:=by rw [beq_eq_false_iff_ne];exact λz=>hb ⟨b1,b2,z⟩
    simp! [l6,K3,T8,C4,G6,d8,m9,e8,b5,d3,b8,b6,b7,e9,g7,p8,f8,i6,f6,D8,y0,g5,i7,z6,a01,AD,AS,AT,a9M,p0,e1,gl,hc,eN,c1,c2,c3,hm,hk,ap,e4]
   ·have c2:decide ((1:Int)<(left:Int))=false:=decide_eq_false (by lia)
    simp! [l6,K3,T8,C4,G6,d8,m9,e8,b5,d3,b8,b6,b7,e9,g7,p8,f8,i6,f6,D8,y0,g5,i7,z6,a01,a4o,AD,AS,AT,p0,e1,gl,hc,eN,c1,c2,hm,hk,ap,e4]
  ·have c1:decide ((0:Int)<(deep:Int))=false:=decide_eq_false (by lia)
   simp! [l6,K3,T8,C4,G6,d8,m9,e8,b5,d3,b8,b6,b7,e9,g7,p8,f8,i6,f6,D8,y0,g5,i7,z6,a4o,AD,AS,AT,p0,e1,gl,hc,eN,c1,hm,hk,ap,e4]
theorem b1Z{cs:List Int}(hcs:0<cs.length){L:List (List Pa)}{n0:Nat}(hn0:n0<=12)(hL:L≠[])(hLo:∀ps∈L,c1H n0 ps):∀(n deep a room:Nat),deep<n->deep<=3->1<=room->room<=24->a<=30000 - grw deep->grw deep<=5000->
 ∃(ps:List Wa) (a':Nat),U8 ps/\ps≠[]/\w6 ps<=room/\Q0 ps<=deep/\((∀x∈R8 ps,x=n0)/\∀r∈B7 ps,fv5 r)/\a'<=a+grw deep/\G7 n [.list (cs.map .int),.int (a:Nat),.int (room:Nat),.int (deep:Nat),.list (L.map enL)]=φ (.tuple [.list (j8 ps),.int (a':Nat)])
 |0,deep,a,room,h,_,_,_,_,_=>by lia
 |n+1,deep,a,room,hn,hd,hr1,hr2,ha,hg=>by
  obtain⟨c,hc⟩:=b0j hcs (a:Int);obtain⟨N,hN,eN⟩:=a1c (c+3*(a:Int));have gl:y9 (.v (.list (cs.map .int)))=φ (.int (cs.length:Nat)):=by rw [W1,AZ]
  obtain⟨mn,emn,mn1,mn2⟩:∃mn:Nat,1+N % 4=(mn:Int)/\1<=mn/\mn<=4:=⟨(1+N % 4).toNat,by lia,by lia,by lia⟩
  obtain⟨gi,hgi,hgi2,hR⟩:∃gi:Nat,4*(2+gi)<=grw deep/\gi<=5000/\(0<deep->∀b rm:Nat,1<=rm->rm<=24->b<=a+3*(2+gi)+2->∃(qs:List Wa) (a':Nat),U8 qs/\qs≠[]/\w6 qs<=rm/\Q0 qs+1<=deep/\((∀x∈R8 qs,x=n0)/\∀r∈B7 qs,fv5 r)/\a'<=b+gi/\G7 n [.list (cs.map .int),.int (b:Nat),.int (rm:Nat),.int ((deep:Int) - 1),.list (L.map enL)]=φ (.tuple [.list (j8 qs),.int (a':Nat)])):=by
   cases deep with
   |zero=>exact⟨0,by show 4*(2+0)<=8;lia,by lia,λh=>absurd h (Nat.lt_irrefl 0)⟩
   |succ d=>
    have e:grw (d+1)=4*(2+grw d):=rfl;refine⟨grw d,by lia,by lia,λ_ b rm h1 h2 h3=> ?_⟩
    obtain⟨qs,a',x1,x2,x3,x4,x5,x6,x7⟩:=b1Z hcs hn0 hL hLo n d b rm (by lia) (by lia) h1 h2 (by lia) (by lia)
    exact⟨qs,a',x1,x2,x3,by lia,x5,x6,by rw [show((d+1:Nat):Int) - 1=(d:Int) by lia];exact x7⟩
  obtain⟨ρ1,e1,ps,a',left,q8,q9,q10,q11,x1,x2,x3,x4,x5,x6,x7,rfl⟩:=D1 (body:=E9 (G7 n)) (tg:=g9 8) (λi ρ=>∃(ps:List Wa) (a' left:Nat) (q8 q9 q10 q11:Υ d4),U8 ps/\(0<i->ps≠[])/\w6 ps+left=room/\Q0 ps<=deep/\((∀x∈R8 ps,x=n0)/\∀r∈B7 ps,fv5 r)/\a'<=a+i*(2+gi)/\ps.length<=i/\
   ρ=[φ (.list (cs.map .int)),φ (.int (a':Nat)),φ (.int (room:Nat)),φ (.int (deep:Nat)),φ (.list (L.map enL)),ξ (.own (j8 ps)),φ (.int (left:Nat)),φ (.int (mn:Nat)),q8,q9,q10,q11])
   (ps:=K4 0 ((mn:Nat):Int)) (ρ:=[φ (.list (cs.map .int)),φ (.int (a:Nat)),φ (.int (room:Nat)),φ (.int (deep:Nat)),φ (.list (L.map enL)),ξ (.own []),φ (.int (room:Nat)),φ (.int (mn:Nat)),ζ,ζ,ζ,ζ])
   (by
    rintro i p hp ρ ⟨ps,a',left,q8,q9,q10,q11,x1,x2,x3,x4,x5,x6,x7,rfl⟩;obtain⟨rfl,hi⟩:=W6 hp;have hi4:i<4:=by lia
    have hb:i*(2+gi)<=3*(2+gi):=Nat.mul_le_mul_right _ (by lia)
    have e5:(i+1)*(2+gi)=i*(2+gi)+(2+gi):=Nat.succ_mul _ _
    by_cases hl:0<left
    ·obtain⟨p,b,left',r9,r10,r11,y1,y2,y3,y4,y5,y6⟩:=b7E (R:=G7 n) hcs hn0 hL hLo (deep:=deep) (g:=gi) (B:=a+3*(2+gi)+2) hd hR (a:=a') (left:=left) (by lia) (by lia) hl (by lia) (acc:=j8 ps) (by rw [b5Y];lia) (φ (.int (room:Nat))) (φ (.int (mn:Nat))) (φ (.int ((0:Int)+(i:Int)))) q9 q10 q11
     refine G4 rfl y6 ⟨ps++[p],b,left',φ (.int ((0:Int)+(i:Int))),r9,r10,r11,b5d x1 y1,λ_=>by simp,by rw [b2U];lia,b2G x4 y2,⟨λx hx=> ?_,c0g x5.2 y4.2⟩,by lia,by rw [AW,List.length_singleton];lia,by rw [b94]⟩
     rw [b2X] at hx;rcases Aq.mp hx with h|h
     ·exact x5.1 x h
     ·exact y4.1 x h
    ·have p0:decide ((0:Int)<(left:Int))=false:=decide_eq_false (by lia)
     refine G4 rfl (ρ2:=[φ (.list (cs.map .int)),φ (.int (a':Nat)),φ (.int (room:Nat)),φ (.int (deep:Nat)),φ (.list (L.map enL)),ξ (.own (j8 ps)),φ (.int (left:Nat)),φ (.int (mn:Nat)),φ (.int ((0:Int)+(i:Int))),q9,q10,q11]) ?_ ⟨ps,a',left,_,q9,q10,q11,x1,λ_ z=>by
      subst z;rw [w6] at x3
      lia,x3,x4,x5,by lia,by lia,rfl⟩
     show E9 (G7 n) [φ (.list (cs.map .int)),φ (.int (a':Nat)),φ (.int (room:Nat)),φ (.int (deep:Nat)),φ (.list (L.map enL)),ξ (.own (j8 ps)),φ (.int (left:Nat)),φ (.int (mn:Nat)),φ (.int ((0:Int)+(i:Int))),q9,q10,q11]=_;unfold E9;simp! [K3,d8,e8,b5,d3,f6,y0,l7,g5,i7,AD,p0]) ⟨[],a,room,ζ,ζ,ζ,ζ,by rw [U8];trivial,λh=>absurd h (Nat.lt_irrefl 0),by rw [w6];lia,by rw [Q0];lia,⟨(λx hx=>by rw [R8] at hx;cases hx),(λr hr=>by rw [B7] at hr;cases hr)⟩,by simp,AN _,by rw [j8]⟩
  have hlen:(K4 0 ((mn:Nat):Int)).length=mn:=by rw [a6z,AZ,Ax]
  rw [hlen] at x2 x6;have hb:mn*(2+gi)<=4*(2+gi):=Nat.mul_le_mul_right _ mn2;refine⟨ps,a',x1,x2 (by lia),by lia,x4,x5,by lia, ?_⟩
  have fz:∀(nn:MS) (s0 s1 s2 s3 s4 s6 s7 s8 s9 s10 s11:Υ d4) (L:List PV),a0b 5 nn [s0,s1,s2,s3,s4,ξ (.ow (.lst L)),s6,s7,s8,s9,s10,s11]=nn [s0,s1,s2,s3,s4,φ (.list L),s6,s7,s8,s9,s10,s11]:=λ_ _ _ _ _ _ _ _ _ _ _ _ _=>rfl;show k4 7 (a1p (G7 n)) [.list (cs.map .int),.int (a:Nat),.int (room:Nat),.int (deep:Nat),.list (L.map enL)]=_;unfold a1p;simp! [l6,T8,C4,d8,m9,e8,b5,d3,b8,b6,b7,v9,D9,e9,g7,p8,Z4,j7,u5,f8,i6,i3,j5,u9,M5,a1r,AD,AG,AR,Ac,AX,Aa,AY,AS,AT,AU,Ad,↓reduceIte,sz,Nat.reduceAdd,Ai,gl,hc,eN,emn,e1,fz]
theorem b9H(ns:List Int)(hn:ns.length<=63){a:Nat}(ha:a<=60):∃ws:List Wa,U8 ws/\ws≠[]/\w6 ws<=24/\b9Y (R8 ws)/\(∀r∈B7 ws,fv5 r)/\a20 [.list (ns.map .int),.int (a:Nat)]=φ (.list (j8 ws)):=by
 obtain⟨L,n0,l1,l2,l3,l4,l5,eL⟩:=c1G ns hn ha;have gs:=b8L ns (ξ (a:Nat)) ζ;have hcut:=b3A ns (ξ ((a:Nat):Int)) ζ;have cat:t7 (.own ((cut ns (ξ ((a:Nat):Int)) ζ).map .int)) (.own [.int 4])=ξ (.own ((cut ns (ξ ((a:Nat):Int)) ζ++[4]).map .int)):=by
  rw [b78 (by rw [AZ,sizeLine_eq];simp only [AU,Ad];lia),Ao]
  rfl
 have hcs:0<(cut ns (ξ ((a:Nat):Int)) ζ++[4]).length:=by rw [AW,List.length_singleton];lia
 generalize cut ns (ξ ((a:Nat):Int)) ζ++[4]=cs at cat hcs;obtain⟨c,hc⟩:=a8T (ns:=ns) (k:=((a+2:Nat):Int)) (by lia)
 obtain⟨N,hN,eN⟩:=a1c c;have e1:(a:Int)+2=((a+2:Nat):Int):=by lia
 have hx:∃room:Nat,1<=room/\room<=24/\l9 (.own [.int 24,.int 12,.int 6,.int 5]) (.v (.int (N / 3 % 4)))=φ (.int (room:Nat)):=by
  have:N / 3 % 4=0\/N / 3 % 4=1\/N / 3 % 4=2\/N / 3 % 4=3:=by lia
  rcases this with e|e|e|e<;>rw [e]
  ·exact⟨24,by lia,by lia,rfl⟩
  ·exact⟨12,by lia,by lia,rfl⟩
  ·exact⟨6,by lia,by lia,rfl⟩
  ·exact⟨5,by lia,by lia,rfl⟩
 obtain⟨room,hr1,hr2,hx⟩:=hx;obtain⟨ws,a',x1,x2,x3,x4,x5,_,x7⟩:=b1Z hcs l4 l1 l5 6 2 0 room (by lia) (by lia) hr1 hr2 (by decide) (by decide)
 have x7:a3q [.list (cs.map .int),.int 0,.int (room:Nat),.int 2,.list (L.map enL)]=_:=x7;have fz:∀(nn:MS) (s0 s1 s3:Υ d4) (L:List PV),a0b 2 nn [s0,s1,ξ (.ow (.lst L)),s3]=nn [s0,s1,φ (.list L),s3]:=λ_ _ _ _ _=>rfl;refine⟨ws,x1,x2,by lia,⟨λz=> ?_,λx hx y hy=>by rw [x5.1 x hx,x5.1 y hy]⟩,x5.2, ?_⟩
 ·have h1:=a0S ws;have h2:=a5G x2 x1;obtain⟨l,hl⟩:∃l,l∈B7 ws:=List.exists_mem_of_ne_nil _ (λz=>by rw [z] at h1;simp at h1;lia)
  have:=a2N hl;rw [z] at this;cases this
 ·unfold a20 a9C;simp! [l6,C4,G6,a2r,d8,e8,b5,d3,b8,b6,b7,a2b,D9,e9,g7,p8,Z4,j7,u5,f8,i6,i3,j5,AD,AG,AR,Ac,AX,Aa,AY,AS,AT,AU,Ad,↓reduceIte,k6,k7,n8,u4,sz,Nat.reduceAdd,Ai,eL,e1,hc,eN,hx,fz,gs,cat,x7]
inductive Px (α:Type) where
 |run (c:α) (k:Nat)
 |again (k:Nat) (ps:List (Px α))
section
variable {α:Type}
mutual
def X4:Px α->List α
 | .run c k=>(Ab k).map λ_=>c
 | .again k ps=>((Ab k).map λ_=>unX ps).flatten
def unX:List (Px α)->List α
 |[]=>[]
 |p::ps=>X4 p++unX ps
end
mutual
def a80:Px α->Nat
 | .run _ _=>0
 | .again _ ps=>dpX ps+1
def dpX:List (Px α)->Nat
 |[]=>0
 |p::ps=>max (a80 p) (dpX ps)
end
mutual
def b5H:Px α->Prop
 | .run _ k=>1<=k/\k<=24
 | .again k ps=>2<=k/\k<=24/\ps≠[]/\okX ps
def okX:List (Px α)->Prop
 |[]=>True
 |p::ps=>b5H p/\okX ps
end
theorem b3n(k:Nat)(ps:List (Px α)):(X4 (.again k ps)).length=k*(unX ps).length:=by rw [X4,Z7]
theorem b8P(c:α)(k:Nat):(X4 (.run c k)).length=k:=by rw [X4];simp
mutual
theorem b8O:∀{p:Px α},b5H p->0<(X4 p).length
 | .run c k,h=>by rw [b8P];exact h.1
 | .again k ps,h=>by
   rw [b3n];exact Nat.mul_pos (by have:=h.1;lia) (b0y h.2.2.1 h.2.2.2)
theorem b0y:∀{ps:List (Px α)},ps≠[]->okX ps->0<(unX ps).length
 |[],h,_=>absurd rfl h
 |p::ps,_,h=>by
  rw [unX,AW];have:=b8O h.1
  lia
end
theorem b1Y:∀{ps:List (Px α)},okX ps->ps.length<=(unX ps).length
 |[],_=>AN _
 |p::ps,h=>by
  have:=b8O h.1;have:=b1Y h.2;rw [unX,AW,AU]
  lia
variable (pr:α->Nat)
mutual
def a4v:Px α->Nat
 | .run c _=>pr c
 | .again _ ps=>1+coX ps
def coX:List (Px α)->Nat
 |[]=>0
 |p::ps=>a4v p+coX ps
end
variable {pr}
structure LVx(s:List α):Prop where
 ne:s≠[]
 len:s.length<=24
structure FDx(T:List (Px α))(s:List α):Prop where
 ok:okX T
 ne:T≠[]
 un:unX T=s
def a0e(k:Nat)(p:List α):List α:=((Ab k).map λ_=>p).flatten
theorem a5V(k:Nat)(p:List α):(a0e k p).length=k*p.length:=Z7 p k
theorem b0v(k:Nat)(p:List α):a0e k p=(AV k p).flatten:=by
 unfold a0e;rw [List.map_const',Ax]
theorem a6x(k:Nat)(p:List α):a0e (k+1) p=p++a0e k p:=by
 rw [b0v,b0v,Ac,List.flatten_cons]
theorem b8u:∀{a b:List (Px α)},okX a->okX b->okX (a++b)
 |[],_,_,h=>h
 |_::_,_,h,g=>⟨h.1,b8u h.2 g⟩
theorem b4u:∀a b:List (Px α),unX (a++b)=unX a++unX b
 |[],b=>by rw [AY];show _=unX []++_;rw [unX,AY]
 |p::a,b=>by rw [Aa,unX,unX,b4u a b,List.append_assoc]
theorem b0k:∀a b:List (Px α),coX pr (a++b)=coX pr a+coX pr b
 |[],b=>by rw [AY];show _=coX pr []+_;rw [coX,Nat.zero_add]
 |p::a,b=>by rw [Aa,coX,coX,b0k a b,Nat.add_assoc]
theorem b7W:∀a b:List (Px α),dpX (a++b)=max (dpX a) (dpX b)
 |[],b=>by rw [AY];show _=max (dpX []) _;rw [dpX,Nat.zero_max]
 |p::a,b=>by rw [Aa,dpX,dpX,b7W a b,Nat.max_assoc]
mutual
theorem c0B{c:α}:∀{p:Px α},b5H p->c∈X4 p->pr c<=a4v pr p
 | .run d k,_,h=>by
   rw [X4] at h;obtain⟨_,_,e⟩:=Ah.mp h;rw [a4v,e];exact AN _
 | .again k ps,o,h=>by
   rw [X4] at h;obtain⟨l,hl,hc⟩:=List.mem_flatten.mp h;obtain⟨_,_,e⟩:=Ah.mp hl;subst e;have:=b3y o.2.2.2 hc;rw [a4v];lia
theorem b3y{c:α}:∀{ps:List (Px α)},okX ps->c∈unX ps->pr c<=coX pr ps
 |[],_,h=>by rw [unX] at h;cases h
 |p::ps,o,h=>by
  rw [unX] at h;rw [coX];rcases Aq.mp h with h|h
  ·have:=c0B o.1 h;lia
  ·have:=b3y o.2 h;lia
end
theorem b72{A B:List (Px α)}{s t:List α}(h:FDx A s)(g:FDx B t):FDx (A++B) (s++t):=
 ⟨b8u h.ok g.ok,by simp [h.ne],by rw [b4u,h.un,g.un]⟩
theorem b2J{A:List (Px α)}{s:List α}{k:Nat}(h:FDx A s)(h2:2<=k)(hk:k<=24):FDx [.again k A] (a0e k s):=
 ⟨⟨⟨h2,hk,h.ne,h.ok⟩,trivial⟩,by simp,by rw [unX,X4,h.un,unX,Af];rfl⟩
theorem a8V(k:Nat)(A:List (Px α)):coX pr [.again k A]=1+coX pr A:=by rw [coX,a4v,coX,Nat.add_zero]
theorem b73{c:α}{k:Nat}(h1:1<=k)(hk:k<=24):FDx [.run c k] (AV k c):=
 ⟨⟨⟨h1,hk⟩,trivial⟩,by simp,by rw [unX,X4,unX,Af,List.map_const',Ax]⟩
theorem b3z(c:α)(k:Nat):coX pr [.run c k]=pr c:=by rw [coX,a4v,coX,Nat.add_zero]
theorem b0W:∀s:List α,okX (s.map λc=> .run c 1)/\unX (s.map λc=> .run c 1)=s
 |[]=>⟨trivial,by rw [AR,unX]⟩
 |c::s=>by
  obtain⟨h1,h2⟩:=b0W s;rw [AG];refine⟨⟨⟨AN _,by decide⟩,h1⟩, ?_⟩
  rw [unX,X4,h2];rfl
variable (pr) in
def Lsx(s:List α)(v:Nat):Prop:=(∃T,FDx T s/\coX pr T=v)/\∀T,FDx T s->v<=coX pr T
open Classical in
theorem c1J{s:List α}:∀n:Nat,(∃T,FDx T s/\coX pr T<=n)->∃v,Lsx pr s v
 |0,⟨T,h,e⟩=>⟨0,⟨T,h,by lia⟩,λ_ _=>Nat.zero_le _⟩
 |n+1,⟨T,h,e⟩=>by
  by_cases c:∃T,FDx T s/\coX pr T<=n
  ·exact c1J n c
  ·refine⟨n+1,⟨T,h, ?_⟩,λA hA=> ?_⟩
   ·have:¬coX pr T<=n:=λq=>c ⟨T,h,q⟩
    lia
   ·have:¬coX pr A<=n:=λq=>c ⟨A,hA,q⟩
    lia
theorem c5K{s:List α}(h:LVx s):∃v,Lsx pr s v:=by
 obtain⟨h1,h2⟩:=b0W s;exact c1J _ ⟨_,⟨h1,by simp [h.ne],h2⟩,AN _⟩
variable (pr) in
open Classical in
def v4(s:List α):Nat:=if h:∃v,Lsx pr s v then h.choose else 0
theorem a3Y{s:List α}(h:LVx s):Lsx pr s (v4 pr s):=by
 have e:=c5K (pr:=pr) h;unfold v4;rw [dif_pos e];exact e.choose_spec
theorem a4M{s:List α}(h:LVx s){T:List (Px α)}(g:FDx T s):v4 pr s<=coX pr T:=(a3Y h).2 T g
theorem a3X{c:α}{k:Nat}(h1:1<=k)(hk:k<=24):v4 pr (AV k c)=pr c:=by
 have h:LVx (AV k c):=⟨λe=>by
  have:=congrArg List.length e;rw [List.length_replicate] at this;simp at this
  lia,by rw [List.length_replicate];exact hk⟩
 have h2:=a4M (pr:=pr) h (b73 h1 hk);rw [b3z] at h2;obtain⟨T,g,e⟩:=(a3Y (pr:=pr) h).1;have:c∈unX T:=by rw [g.un];exact List.mem_replicate.mpr ⟨by lia,rfl⟩
 have:=b3y (pr:=pr) g.ok this
 lia
theorem a89{p:List α}{k:Nat}(h:LVx p)(h2:2<=k)(hk:k*p.length<=24)(hs:LVx (a0e k p)):v4 pr (a0e k p)<=1+v4 pr p:=by
 obtain⟨T,g,e⟩:=(a3Y (pr:=pr) h).1;have hp:0<p.length:=List.length_pos_iff.mpr h.ne;have:k*1<=k*p.length:=Nat.mul_le_mul_left _ hp;have h3:=a4M (pr:=pr) hs (b2J g h2 (by lia))
 rw [a8V,e] at h3;exact h3
theorem b2Y{s t:List α}(hs:LVx s)(ht:LVx t)(h:LVx (s++t)):v4 pr (s++t)<=v4 pr s+v4 pr t:=by
 obtain⟨A,a1,a2⟩:=(a3Y (pr:=pr) hs).1;obtain⟨B,b1,b2⟩:=(a3Y (pr:=pr) ht).1;have:=a4M (pr:=pr) h (b72 a1 b1);rw [b0k,a2,b2] at this;exact this
theorem b8o{s:List α}(h:LVx s):(∃c k,1<=k/\s=AV k c/\v4 pr s=pr c)\/(∃k p,2<=k/\LVx p/\s=a0e k p/\1+v4 pr p<=v4 pr s)\/∃a b,LVx a/\LVx b/\s=a++b/\v4 pr a+v4 pr b<=v4 pr s:=by
 obtain⟨T,g,e⟩:=(a3Y (pr:=pr) h).1;have k9:∀{a b:List α},s=a++b->a≠[]->b≠[]->LVx a/\LVx b:=λ {a b} q ha hb=>by
  have hl:=h.len;rw [q,AW] at hl;exact⟨⟨ha,by lia⟩,⟨hb,by lia⟩⟩
 obtain⟨ok,ne,un⟩:=g
 match T,ok,ne,un,e with
 |[.run c k],ok,_,un,e=>
  obtain⟨⟨h1,h2⟩,_⟩:=ok;refine .inl ⟨c,k,h1, ?_, ?_⟩
  ·rw [<-un,unX,X4,unX,Af,List.map_const',Ax]
  ·rw [<-e,b3z]
 |[.again k A],ok,_,un,e=>
  obtain⟨⟨h1,h2,h3,h4⟩,_⟩:=ok;have es:s=a0e k (unX A):=by rw [<-un,unX,X4,unX,Af];rfl
  have hp:=b0y h3 h4;have hL:LVx (unX A):=by
   have hl:=h.len;rw [es,a5V] at hl;have:1*(unX A).length<=k*(unX A).length:=Nat.mul_le_mul_right _ (by lia)
   exact⟨λq=>(by rw [q] at hp;cases hp),by lia⟩
  refine .inr (.inl ⟨k,unX A,h1,hL,es, ?_⟩);have:=a4M (pr:=pr) hL ⟨h4,h3,rfl⟩;rw [<-e,a8V]
  lia
 |p::q::r,ok,_,un,e=>
  have e1:s=unX [p]++unX (q::r):=by rw [<-un,<-b4u];rfl
  have p1:=b0y (ps:=[p]) (by simp) ⟨ok.1,trivial⟩
  have p2:=b0y (ps:=q::r) (by simp) ok.2
  obtain⟨l1,l2⟩:=k9 e1 (λz=>(by rw [z] at p1;cases p1)) (λz=>(by rw [z] at p2;cases p2))
  refine .inr (.inr ⟨_,_,l1,l2,e1, ?_⟩);have h1:=a4M (pr:=pr) l1 (T:=[p]) ⟨⟨ok.1,trivial⟩,by simp,rfl⟩
  have h2:=a4M (pr:=pr) l2 (T:=q::r) ⟨ok.2,by simp,rfl⟩
  rw [<-e,show p::q::r=[p]++(q::r) from rfl,b0k]
  lia
def k9(l:List α)(i j:Nat):List α:=(l.drop i).take (j - i)
theorem N4{l:List α}{i j:Nat}(hj:j<=l.length):(k9 l i j).length=j - i:=by
 unfold k9;rw [List.length_take,List.length_drop];lia
theorem a6C{l:List α}(h:LVx l){i j:Nat}(hi:i<j)(hj:j<=l.length):LVx (k9 l i j):=by
 refine⟨λe=> ?_, ?_⟩
 ·have:=N4 (i:=i) hj;rw [e] at this;simp at this
  lia
 ·rw [N4 hj];have:=h.len;lia
theorem a7x{l:List α}{i m j:Nat}(h1:i<=m)(h2:m<=j):k9 l i m++k9 l m j=k9 l i j:=by
 unfold k9;rw [show j - i=(m - i)+(j - m) by lia,List.take_add,List.drop_drop,show i+(m - i)=m by lia]
theorem a6D{l:List α}{i j w:Nat}(h:w<=j - i):(k9 l i j).take w=k9 l i (i+w):=by
 unfold k9;rw [List.take_take,Nat.min_eq_left h,show i+w - i=w by lia]
theorem b3l{l:List α}{i j w:Nat}(h:w<=j - i):(k9 l i j).drop w=k9 l (i+w) j:=by
 unfold k9;rw [List.drop_take,List.drop_drop,show j - i - w=j - (i+w) by lia]
theorem b1Q(l:List α):k9 l 0 l.length=l:=by
 unfold k9;rw [List.drop_zero,Nat.sub_zero,List.take_length]
theorem c0v{l:List α}{i j:Nat}{a b:List α}(hj:j<=l.length)(h:k9 l i j=a++b):a=k9 l i (i+a.length)/\b=k9 l (i+a.length) j/\a.length+b.length=j - i:=by
 have hl:=congrArg List.length h;rw [N4 hj,AW] at hl;refine⟨?_, ?_,hl.symm⟩
 ·rw [<-a6D (j:=j) (by lia),h,List.take_left]
 ·rw [<-b3l (j:=j) (by lia),h,List.drop_left]
theorem c2n{l:List α}{i j k:Nat}{p:List α}(hj:j<=l.length)(hk:2<=k)(hp:p≠[])(h:k9 l i j=a0e k p):1<=p.length/\2*p.length<=j - i/\(j - i) % p.length=0/\(j - i)/ p.length=k/\p=k9 l i (i+p.length):=by
 have hl:=congrArg List.length h;rw [N4 hj,a5V] at hl;have hp':0<p.length:=List.length_pos_iff.mpr hp;have h2:2*p.length<=k*p.length:=Nat.mul_le_mul_right _ hk;refine⟨hp',by lia,by rw [hl];exact Nat.mul_mod_left _ _,by rw [hl];exact Nat.mul_div_cancel _ hp', ?_⟩
 rw [<-a6D (j:=j) (by lia),h]
 obtain⟨m,rfl⟩:∃m,k=m+1:=⟨k - 1,by lia⟩
 rw [a6x,List.take_left]
end
structure Kd(α:Type)[BEq α] where
 w:List α->PV
 o:α->PV
 len:∀{l:List α},l.length<=1000->y9 (.v (w l))=φ (.int (l.length:Nat))
 sl:∀{l:List α} {lo hi:Υ Int},l.length<=1000->gSl (.v (w l)) lo hi=φ (w (cut l lo hi))
 hd:∀{c:α} {t:List α},(c::t).length<=1000->l9 (.v (w (c::t))) (.v (.int 0))=φ (o c)
 eq:∀{a b:List α},a.length<=1000->b.length<=1000->X5 (.v (w a)) (.v (w b))=φ (.bool (a==b))
 eo:∀a b:α,X5 (.v (o a)) (.v (o b))=φ (.bool (a==b))
 it:∀{l:List α} {m:M} {ρ:c9},m ρ=φ (w l)->c1P m ρ=ξ (l.map o)
 key:α->Str
 ky:∀c:α,b08 (.v (o c))=ξ (key c)
 mul:∀{l:List α} {k:Nat},2<=k->l≠[]->l.length*k<=1000->Q4 (.v (w l)) (.v (.int (k:Nat)))=φ (w (a0e k l))
theorem b4U{α:Type}{l:List α}{b:Nat}(h:b<=l.length):cut l ζ (ξ (b:Int))=l.take b:=by
 unfold cut;rw [HT.sIx_none,HT.sIx_nat,Nat.min_eq_left h];simp
section
variable {α:Type}[BEq α][LawfulBEq α]{K:Kd α}
def unx(s:List α):Bool:=s.all λc=>s.head?==ξ c
theorem a6G{s:List α}(hs:s≠[]):unx s=true↔∃c,s=AV s.length c:=by
 unfold unx;obtain⟨a,t,rfl⟩:∃a t,s=a::t:=by
  cases s with
  |nil=>exact absurd rfl hs
  |cons a t=>exact⟨a,t,rfl⟩
 constructor
 ·intro h;refine⟨a,List.eq_replicate_iff.mpr ⟨rfl,λc hc=> ?_⟩⟩;have:=List.all_eq_true.mp h c hc;have:=eq_of_beq this;exact(Option.some.inj this).symm
 ·rintro⟨c,e⟩;have h1:∀x∈a::t,x=c:=λx hx=>by
   rw [e] at hx;exact(List.mem_replicate.mp hx).2
  refine List.all_eq_true.mpr λd hd=> ?_;rw [List.head?_cons,h1 a Ak,h1 d hd];exact beq_self_eq_true _
theorem c0s{s:List α}(hs:s≠[])(hl:s.length<=1000):a2t [K.w s]=φ (.bool (unx s)):=by
 obtain⟨c0,t,e⟩:∃c t,s=c::t:=by
  cases s with
  |nil=>exact absurd rfl hs
  |cons a t=>exact⟨a,t,rfl⟩
 have h0:l9 (.v (K.w s)) (.v (.int 0))=φ (K.o c0):=by rw [e];exact K.hd (by rw [<-e];exact hl)
 have cm:=a0m (ι:=K.o) (f:=λc=>PyData.bool (c==c0)) (k:=1) (it:=c1P (a8 0)) (elt:=a3r) (tg:=g9 1) (ρ:=[φ (K.w s)]) s (K.it rfl) (by lia) λc _=>⟨_,rfl,by
  have hq:=K.eo c c0;unfold a3r;simp! [d8,e8,b5,d3,b7,AD,Ac,AX,Aa,AY,AS,AT,h0,hq]⟩
 have ga:=b6R (s.map λc=>c==c0);rw [Ay,List.all_map] at ga;have hu:unx s=s.all (id∘λc=>c==c0):=by
  unfold unx;rw [e,List.head?_cons]
  congr 1
  funext c
  show(ξ c0==ξ c)=(c==c0);rw [Bool.eq_iff_iff];exact⟨λh=>by rw [Option.some.inj (eq_of_beq h)];exact beq_self_eq_true _,λh=>by rw [eq_of_beq h];exact beq_self_eq_true _⟩
 rw [<-hu] at ga;have ga':c1d (.own (s.map λc=>PyData.bool (c==c0)))=φ (.bool (unx s)):=ga;unfold a2t b0J;simp! [m9,j7,u5,i3,j5,AD,AG,AR,AX,Af,cm,ga']
def isx(s:List α)(w:Nat):Bool:=decide (s.length % w=0)&&(s==a0e (s.length / w) (s.take w))
theorem b99{s:List α}{w:Nat}(hw:0<w)(hws:2*w<=s.length)(hl:s.length<=1000):a2Y [K.w s,.int (w:Nat)]=φ (.bool (isx s w)):=by
 have hln:=K.len (l:=s) hl;have hm:((s.length:Nat):Int) %((w:Nat):Int)=((s.length % w:Nat):Int):=rfl;have hd:((s.length:Nat):Int)/((w:Nat):Int)=((s.length / w:Nat):Int):=rfl;have c0:(0:Int)<((w:Nat):Int):=by lia
 have hsl:gSl (.v (K.w s)) ζ (ξ ((w:Nat):Int))=φ (K.w (s.take w)):=by
  have:=K.sl (l:=s) (lo:=ζ) (hi:=ξ ((w:Nat):Int)) hl;rw [b4U (by lia)] at this
  exact this
 have hln2:(s.take w).length=w:=by rw [List.length_take];lia
 have hle:(s.take w).length*(s.length / w)<=1000:=by
  rw [hln2];have:=Nat.mul_div_le s.length w
  lia
 have h2:2<=s.length / w:=(Nat.le_div_iff_mul_le hw).mpr hws;have hmu':=K.mul (l:=s.take w) (k:=s.length / w) h2 (λe=>by rw [e] at hln2;simp at hln2;lia) hle
 have hq:=K.eq (a:=s) (b:=a0e (s.length / w) (s.take w)) hl (by rw [a5V,Nat.mul_comm];exact hle)
 have hz:X5 (.v (.int ((s.length % w:Nat):Int))) (.v (.int 0))=φ (.bool (decide (s.length % w=0))):=by
  rw [a4E (x:= .v (.int ((s.length % w:Nat):Int))) (y:= .v (.int 0)) ⟨rfl,rfl⟩]
  congr 3
  show η (.int ((s.length % w:Nat):Int)) (.int 0)=_;simp only [η];exact decide_eq_decide.mpr (by lia)
 unfold a2Y a9y isx;cases hb:decide (s.length % w=0) with
 |true=>
  rw [hb] at hz;simp! [C4,G6,d8,m9,e8,b5,d3,j7,u5,i3,j5,b1h,c0t,AD,AG,AR,AX,Af,k6,k7,n8,u4,hln,hm,c0,hz,hsl,hd,hmu',hq]
  rfl
 |false=>
  rw [hb] at hz;simp! [C4,d8,m9,e8,b5,d3,j7,u5,i3,j5,b1h,c5h,AD,AG,AR,AX,Af,hln,hm,c0,hz]
  rfl
end
abbrev CH:=Nat×Str×Nat
def tc(c:CH):PV:= .tuple [.int (c.1:Nat),.str c.2.1,.int (c.2.2:Nat)]
def sAl:Str:=AQ "alike"
def sAg:Str:=AQ "again"
def sSp:Str:=AQ "split"
section
variable {α:Type}[BEq α][LawfulBEq α](K:Kd α)(pr:α->Nat)
def ag(l:List α)(st en:Nat)(k:Nat):List CH:=(((Ab k).map (· +1)).filter (isx (k9 l st en))).map λw=>(1+v4 pr (k9 l st (st+w)),sAg,w)
def sp(l:List α)(st en:Nat)(k:Nat):List CH:=(Ab k).map λi=>(v4 pr (k9 l st (st+1+i))+v4 pr (k9 l (st+1+i) en),sSp,st+1+i)
def al(l:List α)(st en:Nat):List CH:=match k9 l st en with
 |[]=>[]
 |c::t=>if unx (c::t)=true then [(pr c,sAl,en - st)] else []
def chs(l:List α)(st en:Nat):List CH:=al pr l st en++ag pr l st en ((en - st)/ 2)++sp pr l st en (en - st - 1)
def Tb(l:List α)(D:Γ)(st en:Nat):Prop:=∀i j,st<=i->i<j->j<=en->j - i<en - st->∃kd a,z5 D [.inl (i:Nat),.inl (j:Nat)]=ξ (tc (v4 pr (k9 l i j),kd,a))
variable {K pr}
theorem c3J{i:Nat}{mk:MA}{ρ:c9}{a b:Nat}{p:PV}{D:Γ}(h1:mk ρ=ξ [.int (a:Nat),.int (b:Nat)])(h2:ρ[i]?=ξ (φ (dv D)))(h3:z5 D [.inl (a:Nat),.inl (b:Nat)]=ξ p):a2A i mk ρ=φ p:=by
 unfold a2A;rw [h1,AD,if_pos (by rw [sizeLine_eq];simp),show Z9 [.int (a:Nat),.int (b:Nat)]=ξ [.inl (a:Nat),.inl (b:Nat)] from rfl,AD,c0Q h2,AD,h3]
 rfl
theorem c7F(c:CH):l9 (.v (tc c)) (.v (.int 0))=φ (.int (c.1:Nat)):=rfl
theorem c8f(c:CH):l9 (.v (tc c)) (.v (.int 1))=φ (.str c.2.1):=rfl
theorem c8g(c:CH):l9 (.v (tc c)) (.v (.int 2))=φ (.int (c.2.2:Nat)):=rfl
theorem c3a(l:List α)(st en k:Nat):ag pr l st en (k+1)=ag pr l st en k++(if isx (k9 l st en) (k+1)=true then [(1+v4 pr (k9 l st (st+(k+1))),sAg,k+1)] else []):=by
 unfold ag;rw [List.range_succ,Ao,List.filter_append,Ao]
 congr 1
 by_cases h:isx (k9 l st en) (k+1)=true
 ·rw [if_pos h];simp [h]
 ·rw [if_neg h];simp [h]
theorem c4A(l:List α)(st en k:Nat):sp pr l st en (k+1)=sp pr l st en k++[(v4 pr (k9 l st (st+1+k))+v4 pr (k9 l (st+1+k) en),sSp,st+1+k)]:=by
 unfold sp;rw [List.range_succ,Ao];rfl
theorem c0r(l:List α)(st en k:Nat):(ag pr l st en k).length<=k:=by
 unfold ag;rw [AZ];refine Nat.le_trans (List.length_filter_le _ _) ?_;rw [AZ,Ax];exact AN _
theorem c6C(l:List α)(st en k:Nat):(sp pr l st en k).length=k:=by unfold sp;rw [AZ,Ax]
theorem c5d(l:List α)(st en:Nat):(al pr l st en).length<=1:=by
 unfold al;split
 ·simp
 ·split<;>simp
section
variable {l:List α}(hl:l.length<=24){D:Γ}{st en:Nat}(h1:st<en)(h2:en<=l.length)(hT:Tb pr l D st en)
include hl h1 h2 hT
theorem c29(s1:Υ d4)(A:List CH)(hA:A.length<=10)(q7 q8:Υ d4):∀k,k<=(en - st)/ 2->∃q7',O1 a0B (g9 7) (K4 1 ((k:Nat)+1)) [φ (K.w l),s1,φ (dv D),φ (.int (st:Nat)),φ (.int (en:Nat)),φ (K.w (k9 l st en)),ξ (.own (A.map tc)),q7,q8]
 =ξ (.nx [φ (K.w l),s1,φ (dv D),φ (.int (st:Nat)),φ (.int (en:Nat)),φ (K.w (k9 l st en)),ξ (.own ((A++ag pr l st en k).map tc)),q7',q8]):=by
 intro k hk
 have sl:=N4 (l:=l) (i:=st) h2
 obtain⟨ρ1,e1,q7',rfl⟩:=D1 (body:=a0B) (tg:=g9 7) (λj ρ=>∃q7:Υ d4,ρ=[φ (K.w l),s1,φ (dv D),φ (.int (st:Nat)),φ (.int (en:Nat)),φ (K.w (k9 l st en)),ξ (.own ((A++ag pr l st en j).map tc)),q7,q8])
  (ps:=K4 1 ((k:Nat)+1)) (ρ:=[φ (K.w l),s1,φ (dv D),φ (.int (st:Nat)),φ (.int (en:Nat)),φ (K.w (k9 l st en)),ξ (.own (A.map tc)),q7,q8])
  (by
   rintro j p hp ρ ⟨q7,rfl⟩;obtain⟨rfl,hj⟩:=W6 hp;have hjk:j<k:=by lia
   have hal:=c0r (pr:=pr) l st en j;rw [show(1:Int)+(j:Int)=((j+1:Nat):Int) by lia] at hj ⊢
   have hr:=b99 (K:=K) (s:=k9 l st en) (w:=j+1) (by lia) (by lia) (by lia)
   rw [c3a];have fz:∀nn:MS,a0b 5 nn [φ (K.w l),s1,φ (dv D),φ (.int (st:Nat)),φ (.int (en:Nat)),φ (K.w (k9 l st en)),ξ (.own ((A++ag pr l st en j).map tc)),φ (.int ((j+1:Nat):Int)),q8]=nn [φ (K.w l),s1,φ (dv D),φ (.int (st:Nat)),φ (.int (en:Nat)),φ (K.w (k9 l st en)),ξ (.own ((A++ag pr l st en j).map tc)),φ (.int ((j+1:Nat):Int)),q8]:=λ_=>rfl;cases hb:isx (k9 l st en) (j+1) with
   |false=>
    rw [hb] at hr;rw [if_neg BB,Af];refine G4 (ρ1:=[φ (K.w l),s1,φ (dv D),φ (.int (st:Nat)),φ (.int (en:Nat)),φ (K.w (k9 l st en)),ξ (.own ((A++ag pr l st en j).map tc)),φ (.int ((j+1:Nat):Int)),q8]) rfl (ρ2:=[φ (K.w l),s1,φ (dv D),φ (.int (st:Nat)),φ (.int (en:Nat)),φ (K.w (k9 l st en)),ξ (.own ((A++ag pr l st en j).map tc)),φ (.int ((j+1:Nat):Int)),q8]) ?_ ⟨_,rfl⟩;unfold a0B;rw [fz];simp! [b5,d3,b8,b6,b7,e9,f6,y0,l7,G3,Y2,AD,hr]
   |true=>
    rw [hb] at hr;rw [if_pos rfl];obtain⟨kd,a,hv⟩:=hT st (st+(j+1)) (AN _) (by lia) (by lia) (by lia)
    have hv':z5 D [.inl ((st:Nat):Int),.inl ((st+(j+1):Nat):Int)]=_:=hv;have hg:=c3J (i:=2) (mk:=a6 (a8 3) (a6 (m2 t7 (a8 3) (a8 7)) b9)) (ρ:=[φ (K.w l),s1,φ (dv D),φ (.int (st:Nat)),φ (.int (en:Nat)),φ (K.w (k9 l st en)),ξ (.own ((A++ag pr l st en j).map tc)),φ (.int ((j+1:Nat):Int)),q8]) (by simp! [l6,d8,b5,d3,b8,b6,b7,AD];rfl) rfl hv'
    refine G4 (ρ1:=[φ (K.w l),s1,φ (dv D),φ (.int (st:Nat)),φ (.int (en:Nat)),φ (K.w (k9 l st en)),ξ (.own ((A++ag pr l st en j).map tc)),φ (.int ((j+1:Nat):Int)),q8]) rfl (ρ2:=[φ (K.w l),s1,φ (dv D),φ (.int (st:Nat)),φ (.int (en:Nat)),φ (K.w (k9 l st en)),ξ (.own ((A++(ag pr l st en j++[(1+v4 pr (k9 l st (st+(j+1))),sAg,j+1)])).map tc)),φ (.int ((j+1:Nat):Int)),q8]) ?_ ⟨_,rfl⟩;unfold a0B;rw [fz];simp! [b5,d3,b8,b6,b7,e9,f6,D8,G3,Y2,AD,hr];rw [B5 (i:=6) (r:= .v (tc (1+v4 pr (k9 l st (st+(j+1))),sAg,j+1))) (ps:=(A++ag pr l st en j).map tc) (by
     simp! [l6,d8,e8,b5,d3,b8,b6,b7,v9,AD,AU,Ad,↓reduceIte,sz,Nat.reduceAdd,Ai,hg,c7F]
     rfl) rfl rfl (by rw [AZ,AW];lia),<-List.append_assoc,Ao (l₂:=[(1+v4 pr (k9 l st (st+(j+1))),sAg,j+1)])]
    rfl) ⟨q7,by
     have:ag pr l st en 0=[]:=rfl;rw [this,Af]⟩
 rw [R9,show(((k:Nat):Int)+1 - 1).toNat=k by lia] at e1
 exact⟨q7',e1⟩
theorem c4z(s1:Υ d4)(A:List CH)(hA:A.length<=50)(q7 q8:Υ d4):∃q8',O1 a1W (g9 8) (K4 ((st:Nat)+1) (en:Nat)) [φ (K.w l),s1,φ (dv D),φ (.int (st:Nat)),φ (.int (en:Nat)),φ (K.w (k9 l st en)),ξ (.own (A.map tc)),q7,q8]
 =ξ (.nx [φ (K.w l),s1,φ (dv D),φ (.int (st:Nat)),φ (.int (en:Nat)),φ (K.w (k9 l st en)),ξ (.own ((A++sp pr l st en (en - st - 1)).map tc)),q7,q8']):=by
 obtain⟨ρ1,e1,q8',rfl⟩:=D1 (body:=a1W) (tg:=g9 8) (λj ρ=>∃q8:Υ d4,ρ=[φ (K.w l),s1,φ (dv D),φ (.int (st:Nat)),φ (.int (en:Nat)),φ (K.w (k9 l st en)),ξ (.own ((A++sp pr l st en j).map tc)),q7,q8])
  (ps:=K4 ((st:Nat)+1) (en:Nat)) (ρ:=[φ (K.w l),s1,φ (dv D),φ (.int (st:Nat)),φ (.int (en:Nat)),φ (K.w (k9 l st en)),ξ (.own (A.map tc)),q7,q8])
  (by
   rintro j p hp ρ ⟨q8,rfl⟩;obtain⟨rfl,hj⟩:=W6 hp;have hjk:st+1+j<en:=by lia
   have hal:=c6C (pr:=pr) l st en j;rw [show((st:Nat):Int)+1+(j:Int)=((st+1+j:Nat):Int) by lia] at hj ⊢
   rw [c4A];obtain⟨kd,a,hv⟩:=hT st (st+1+j) (AN _) (by lia) (by lia) (by lia)
   obtain⟨kd2,a2,hv2⟩:=hT (st+1+j) en (by lia) (by lia) (AN _) (by lia)
   have hg:=c3J (i:=2) (mk:=a6 (a8 3) (a6 (a8 8) b9)) (ρ:=[φ (K.w l),s1,φ (dv D),φ (.int (st:Nat)),φ (.int (en:Nat)),φ (K.w (k9 l st en)),ξ (.own ((A++sp pr l st en j).map tc)),q7,φ (.int ((st+1+j:Nat):Int))]) (by simp! [b5,d3,b8,b6,b7,AD]) rfl hv
   have hg2:=c3J (i:=2) (mk:=a6 (a8 8) (a6 (a8 4) b9)) (ρ:=[φ (K.w l),s1,φ (dv D),φ (.int (st:Nat)),φ (.int (en:Nat)),φ (K.w (k9 l st en)),ξ (.own ((A++sp pr l st en j).map tc)),q7,φ (.int ((st+1+j:Nat):Int))]) (by simp! [b5,d3,b8,b6,b7,AD]) rfl hv2
   refine G4 (ρ1:=[φ (K.w l),s1,φ (dv D),φ (.int (st:Nat)),φ (.int (en:Nat)),φ (K.w (k9 l st en)),ξ (.own ((A++sp pr l st en j).map tc)),q7,φ (.int ((st+1+j:Nat):Int))]) rfl (ρ2:=[φ (K.w l),s1,φ (dv D),φ (.int (st:Nat)),φ (.int (en:Nat)),φ (K.w (k9 l st en)),ξ (.own ((A++(sp pr l st en j++[(v4 pr (k9 l st (st+1+j))+v4 pr (k9 l (st+1+j) en),sSp,st+1+j)])).map tc)),q7,φ (.int ((st+1+j:Nat):Int))]) ?_ ⟨_,rfl⟩;unfold a1W;rw [B5 (i:=6) (r:= .v (tc (v4 pr (k9 l st (st+1+j))+v4 pr (k9 l (st+1+j) en),sSp,st+1+j))) (ps:=(A++sp pr l st en j).map tc) (by
    simp! [l6,d8,e8,b5,d3,b8,b6,b7,v9,AD,AU,Ad,↓reduceIte,sz,Nat.reduceAdd,Ai,hg,hg2,c7F]
    rfl) rfl rfl (by rw [AZ,AW];lia),<-List.append_assoc,Ao (l₂:=[(v4 pr (k9 l st (st+1+j))+v4 pr (k9 l (st+1+j) en),sSp,st+1+j)])]
   rfl) ⟨q8,by
    have:sp pr l st en 0=[]:=rfl;rw [this,Af]⟩
 rw [R9,show(((en:Nat):Int) - (((st:Nat):Int)+1)).toNat=en - st - 1 by lia] at e1
 exact⟨q8',e1⟩
end
theorem b7U{l:List α}{i j:Nat}(hi:i<=j)(hj:j<=l.length):cut l (ξ (i:Int)) (ξ (j:Int))=k9 l i j:=by
 unfold cut k9;rw [HT.sIx_nat,HT.sIx_nat,Nat.min_eq_left hj,Nat.min_eq_left (show i<=l.length by lia)]
variable (K pr) in
structure PrT(l:List α)(P:Γ):Prop where
 ones:ones P=true
 val:∀c∈l,z5 P [.inr (K.key c)]=ξ (.int (pr c:Nat))
theorem b6A{l:List α}(hl:l.length<=24){P D:Γ}(hP:PrT K pr l P){st en:Nat}(h1:st<en)(h2:en<=l.length)(hT:Tb pr l D st en):a08 [K.w l,tv P,dv D,.int (st:Nat),.int (en:Nat)]=ξ (.own ((chs pr l st en).map tc)):=by
 have sl:=N4 (l:=l) (i:=st) h2;have hne:k9 l st en≠[]:=λe=>by
  rw [e] at sl;simp at sl
  lia
 obtain⟨c0,t,ec⟩:∃c t,k9 l st en=c::t:=by
  cases h:k9 l st en with
  |nil=>exact absurd h hne
  |cons a t=>exact⟨a,t,rfl⟩
 have hc0:c0∈l:=by
  have:c0∈k9 l st en:=by rw [ec];exact Ak
  exact List.mem_of_mem_drop (List.mem_of_mem_take this)
 have hsl:gSl (.v (K.w l)) (ξ ((st:Nat):Int)) (ξ ((en:Nat):Int))=φ (K.w (k9 l st en)):=by
  have:=K.sl (l:=l) (lo:=ξ ((st:Nat):Int)) (hi:=ξ ((en:Nat):Int)) (by lia)
  rw [b7U (by lia) h2] at this
  exact this
 have hal:=c0s (K:=K) hne (by lia)
 have hix:l9 (.v (K.w (k9 l st en))) (.v (.int 0))=φ (K.o c0):=by rw [ec];exact K.hd (by rw [<-ec];lia)
 have eal:al pr l st en=if unx (k9 l st en)=true then [(pr c0,sAl,en - st)] else []:=by unfold al;rw [ec]
 have hA:(al pr l st en).length<=1:=c5d (pr:=pr) l st en;have e0:a0b 5 (v5 (mtV (f7 a2t (a6 (a8 5) b9))) (D6 6 (O2 (a6 (b1j 1 (m2 l9 (a8 5) (mC (.int 0)))) (a6 (mC (.str (AQ "alike"))) (a6 (m2 (gI λi j=> .int (i - j)) (a8 4) (a8 3)) b9))))) n4) [φ (K.w l),φ (tv P),φ (dv D),φ (.int (st:Nat)),φ (.int (en:Nat)),φ (K.w (k9 l st en)),ξ (.own []),ζ,ζ]
  =ξ (.nx [φ (K.w l),φ (tv P),φ (dv D),φ (.int (st:Nat)),φ (.int (en:Nat)),φ (K.w (k9 l st en)),ξ (.own ((al pr l st en).map tc)),ζ,ζ]):=by
  have fz:∀nn:MS,a0b 5 nn [φ (K.w l),φ (tv P),φ (dv D),φ (.int (st:Nat)),φ (.int (en:Nat)),φ (K.w (k9 l st en)),ξ (.own []),ζ,ζ]=nn [φ (K.w l),φ (tv P),φ (dv D),φ (.int (st:Nat)),φ (.int (en:Nat)),φ (K.w (k9 l st en)),ξ (.own []),ζ,ζ]:=λ_=>rfl
  rw [fz,eal]
  cases hu:unx (k9 l st en) with
  |false=>
   rw [hu] at hal
   simp! [b5,d3,b8,b6,b7,e9,f6,y0,l7,G3,Y2,AD,AR,↓reduceIte,BF,hal]
  |true=>
   rw [hu] at hal
   have hg:b1j 1 (m2 l9 (a8 5) (mC (.int 0))) [φ (K.w l),φ (tv P),φ (dv D),φ (.int (st:Nat)),φ (.int (en:Nat)),φ (K.w (k9 l st en)),ξ (.own []),ζ,ζ]=φ (.int (pr c0:Nat)):=by
    have hv:tvw 1 [φ (K.w l),φ (tv P),φ (dv D),φ (.int (st:Nat)),φ (.int (en:Nat)),φ (K.w (k9 l st en)),ξ (.own []),ζ,ζ]=ξ P:=c6K rfl hP.ones;have hk:(m2 l9 (a8 5) (mC (.int 0))) [φ (K.w l),φ (tv P),φ (dv D),φ (.int (st:Nat)),φ (.int (en:Nat)),φ (K.w (k9 l st en)),ξ (.own []),ζ,ζ]=φ (K.o c0):=by simp! [d8,e8,b5,d3,AD,hix]
    have hks:b08 (.v (K.o c0))=ξ (K.key c0):=K.ky c0;rw [b64,hk,AD,hks,AD,hv,AD,hP.val c0 hc0]
    rfl
   have hd:((en:Nat):Int) - ((st:Nat):Int)=((en - st:Nat):Int):=by lia
   simp! [b5,d3,b8,b6,b7,e9,f6,D8,G3,Y2,AD,AG,AR,↓reduceIte,hal]
   rw [B5 (i:=6) (r:= .v (tc (pr c0,sAl,en - st))) (ps:=[]) (by
    simp! [K3,d8,e8,b5,d3,b8,b6,b7,v9,AD,AU,Ad,↓reduceIte,sz,Nat.reduceAdd,Ai,hg,hd]
    rfl) rfl rfl (by simp)]
   rfl
 obtain⟨q7,e1⟩:=c29 (K:=K) hl h1 h2 hT (φ (tv P)) (al pr l st en) (by lia) ζ ζ ((en - st)/ 2) (AN _)
 have hag:=c0r (pr:=pr) l st en ((en - st)/ 2);obtain⟨q8,e2⟩:=c4z (K:=K) hl h1 h2 hT (φ (tv P)) (al pr l st en++ag pr l st en ((en - st)/ 2)) (by rw [AW];lia) q7 ζ
 have hd2:(((en:Nat):Int) - ((st:Nat):Int))/ 2=(((en - st)/ 2:Nat):Int):=by lia
 have r1:a9S [.int 1,.int ((((en - st)/ 2:Nat):Int)+1)]=ξ (K4 1 ((((en - st)/ 2:Nat):Int)+1)):=a6y ⟨by lia,by lia,by lia⟩
 have r2:a9S [.int (((st:Nat):Int)+1),.int ((en:Nat):Int)]=ξ (K4 (((st:Nat):Int)+1) ((en:Nat):Int)):=a6y ⟨by lia,by lia,by lia⟩
 unfold a08 b2t;simp! [l6,K3,G6,d8,e8,b5,d3,b8,b6,b7,D9,g7,p8,Z4,f8,i6,i3,j5,u9,AD,AG,AR,Ac,AX,Aa,AY,AS,AT,Ad,↓reduceIte,k6,k7,u4,Q7,Q8,sz,Ai,k6,k7,u4,hsl,e0,a17,hd2,r1,e1,r2,e2]
 rfl
end
theorem c5P{ps:List PV}{pr:PV->Int}(h:∀p∈ps,∀q∈ps,∃b,ltv p q=ξ b/\(b=true->pr p<=pr q)/\(b=false->pr q<=pr p))(ok:J9 ps 50=true)(h0:0<ps.length):∃p∈ps,b5b (.own ps)=φ p/\∀q∈ps,pr p<=pr q:=by
 have best:∀m,m<ps.length->argBest (btV ps) m<=m/\∀j,j<=m->pr (ps.getD (argBest (btV ps) m) .none)<=pr (ps.getD j .none):=by
  intro m
  induction m with
  |zero=>
   intro hm;refine⟨AN _,λj hj=> ?_⟩;have:j=0:=by lia
   subst this;exact Int.le_refl _
  |succ m ih=>
   intro hm;obtain⟨h1,h2⟩:=ih (by lia)
   have hlt:argBest (btV ps) m<ps.length:=by lia
   have e1:ps[m+1]?=ξ ps[m+1]:=BC hm;have e2:ps[argBest (btV ps) m]?=ξ ps[argBest (btV ps) m]:=BC hlt;have d1:ps.getD (m+1) .none=ps[m+1]:=by rw [List.getD_eq_getElem?_getD,e1];rfl
   have d2:ps.getD (argBest (btV ps) m) .none=ps[argBest (btV ps) m]:=by rw [List.getD_eq_getElem?_getD,e2];rfl
   obtain⟨b,hb,ht,hf⟩:=h _ (List.getElem_mem hm) _ (List.getElem_mem hlt);have hbt:btV ps (m+1) (argBest (btV ps) m)=b:=by
    simp only [btV,e1,e2];rw [hb];rfl
   simp only [argBest];rw [hbt];cases b with
   |true=>
    simp only [if_true];refine⟨AN _,λj hj=> ?_⟩;rcases Nat.lt_or_ge j (m+1) with hj'|hj'
    ·have:=h2 j (by lia)
     have:=ht rfl;rw [d1];rw [d2] at*
     lia
    ·have:j=m+1:=by lia
     subst this;exact Int.le_refl _
   |false=>
    simp only [BF,if_false];refine⟨by lia,λj hj=> ?_⟩
    rcases Nat.lt_or_ge j (m+1) with hj'|hj'
    ·exact h2 j (by lia)
    ·have:j=m+1:=by lia
     subst this;have:=hf rfl;rw [d1,d2];exact this
 obtain⟨g1,g2⟩:=best (ps.length - 1) (by lia)
 have hlt:argBest (btV ps) (ps.length - 1)<ps.length:=by lia
 refine⟨ps[argBest (btV ps) (ps.length - 1)],List.getElem_mem hlt, ?_,λq hq=> ?_⟩
 ·show(if _ then _ else _)=_
  rw [if_pos ⟨ok,h0,List.all_eq_true.mpr λp hp=>List.all_eq_true.mpr λq hq=>by
   obtain⟨b,hb,_⟩:=h p hp q hq;rw [hb];rfl⟩,BC hlt]
  rfl
 ·obtain⟨j,hj,rfl⟩:=List.getElem_of_mem hq;have:=g2 j (by lia)
  simpa [List.getD,hj,hlt] using this
theorem c5M(c d:CH):∃b,ltv (tc c) (tc d)=ξ b/\(b=true->c.1<=d.1)/\(b=false->d.1<=c.1):=by
 obtain⟨p,k,a⟩:=c;obtain⟨q,k',a'⟩:=d;show ∃b,ltv (.tuple [.int (p:Nat),.str k,.int (a:Nat)]) (.tuple [.int (q:Nat),.str k',.int (a':Nat)])=ξ b/\_;rw [ltv,a73]
 by_cases e:η (.int (p:Nat)) (.int (q:Nat))=true
 ·rw [if_pos e];have e':p=q:=by
   have:((p:Nat):Int)=(q:Nat):=by simpa [η] using e
   lia
  have some_:∃b,a73 [.str k,.int (a:Nat)] [.str k',.int (a':Nat)]=ξ b:=by
   rw [a73];split
   ·rw [a73];split
    ·exact⟨_,rfl⟩
    ·exact⟨_,rfl⟩
   ·exact⟨_,rfl⟩
  obtain⟨b,hb⟩:=some_;exact⟨b,hb,λ_=>by show p<=q;lia,λ_=>by show q<=p;lia⟩
 ·rw [if_neg e];refine⟨decide (((p:Nat):Int)<(q:Nat)),rfl,λh=> ?_,λh=> ?_⟩
  ·have:=of_decide_eq_true h;show p<=q
   lia
  ·have:=of_decide_eq_false h;show q<=p
   lia
def prc:PV->Int
 | .tuple (.int p::_)=>p
 |_=>0
theorem c5Q{cs:List CH}(h:cs≠[]):∃c∈cs,b5b (.own (cs.map tc))=φ (tc c)/\∀d∈cs,c.1<=d.1:=by
 obtain⟨p,hp,e,hm⟩:=c5P (ps:=cs.map tc) (pr:=prc) (λp hp q hq=>by
  obtain⟨c,_,rfl⟩:=Ah.mp hp;obtain⟨d,_,rfl⟩:=Ah.mp hq;obtain⟨b,h1,h2,h3⟩:=c5M c d;exact⟨b,h1,λz=>Int.ofNat_le.mpr (h2 z),λz=>Int.ofNat_le.mpr (h3 z)⟩) (a3N λp hp=>by
   obtain⟨c,_,rfl⟩:=Ah.mp hp
   rfl) (by
   rw [AZ];exact List.length_pos_iff.mpr h)
 obtain⟨c,hc,rfl⟩:=Ah.mp hp;exact⟨c,hc,e,λd hd=>Int.ofNat_le.mp (hm (tc d) (Ah.mpr ⟨d,hd,rfl⟩))⟩
section
variable {α:Type}[BEq α][LawfulBEq α]{K:Kd α}{pr:α->Nat}
variable (pr) in
structure c28(l:List α)(st en:Nat)(c:CH):Prop where
 pz:c.1=v4 pr (k9 l st en)
 kd:(c.2.1=sAl/\unx (k9 l st en)=true)\/(c.2.1=sAg/\1<=c.2.2/\2*c.2.2<=en - st/\isx (k9 l st en) c.2.2=true/\c.1=1+v4 pr (k9 l st (st+c.2.2)))\/(c.2.1=sSp/\st<c.2.2/\c.2.2<en/\c.1=v4 pr (k9 l st c.2.2)+v4 pr (k9 l c.2.2 en))
theorem a4O{l:List α}{st en:Nat}{c:CH}:c∈chs pr l st en↔(∃x t,k9 l st en=x::t/\unx (x::t)=true/\c=(pr x,sAl,en - st))\/(∃w,1<=w/\w<=(en - st)/ 2/\isx (k9 l st en) w=true/\c=(1+v4 pr (k9 l st (st+w)),sAg,w))\/∃m,st<m/\m<en/\c=(v4 pr (k9 l st m)+v4 pr (k9 l m en),sSp,m):=by
 unfold chs;rw [Aq,Aq];have ha:c∈al pr l st en↔∃x t,k9 l st en=x::t/\unx (x::t)=true/\c=(pr x,sAl,en - st):=by
  unfold al;cases hs:k9 l st en with
  |nil=>
   constructor
   ·intro z;cases z
   ·rintro⟨_,_,z,_⟩;cases z
  |cons a t=>
   dsimp only
   by_cases h:unx (a::t)=true
   ·rw [if_pos h,List.mem_singleton];exact⟨λe=>⟨a,t,rfl,h,e⟩,λ⟨x,t',e1,_,e2⟩=>by cases e1;exact e2⟩
   ·rw [if_neg h];exact⟨λz=>(by cases z),λ⟨x,t',e1,e2,_⟩=>(by cases e1;exact absurd e2 h)⟩
 have hg:c∈ag pr l st en ((en - st)/ 2)↔∃w,1<=w/\w<=(en - st)/ 2/\isx (k9 l st en) w=true/\c=(1+v4 pr (k9 l st (st+w)),sAg,w):=by
  unfold ag;constructor
  ·intro h;obtain⟨w,hw,rfl⟩:=Ah.mp h;obtain⟨hw1,hw2⟩:=List.mem_filter.mp hw;obtain⟨k,hk,rfl⟩:=Ah.mp hw1;have:=List.mem_range.mp hk;exact⟨k+1,by lia,by lia,hw2,rfl⟩
  ·rintro⟨w,h1,h2,h3,rfl⟩;exact Ah.mpr ⟨w,List.mem_filter.mpr ⟨Ah.mpr ⟨w - 1,List.mem_range.mpr (by lia),by lia⟩,h3⟩,rfl⟩
 have hs:c∈sp pr l st en (en - st - 1)↔∃m,st<m/\m<en/\c=(v4 pr (k9 l st m)+v4 pr (k9 l m en),sSp,m):=by
  unfold sp;constructor
  ·intro h;obtain⟨k,hk,rfl⟩:=Ah.mp h;have:=List.mem_range.mp hk;exact⟨st+1+k,by lia,by lia,rfl⟩
  ·rintro⟨m,h1,h2,rfl⟩;exact Ah.mpr ⟨m - st - 1,List.mem_range.mpr (by lia),by rw [show st+1+(m - st - 1)=m by lia]⟩
 rw [ha,hg,hs,or_assoc]
theorem b3O{l:List α}{st en w:Nat}(h2:en<=l.length)(hw:1<=w)(hw2:w<=en - st):isx (k9 l st en) w=true↔(en - st) % w=0/\k9 l st en=a0e ((en - st)/ w) (k9 l st (st+w)):=by
 unfold isx;rw [N4 h2,a6D hw2,χ,decide_eq_true_iff,beq_iff_eq]
theorem c1m{l:List α}(hl:LVx l){st en:Nat}(h1:st<en)(h2:en<=l.length){c:CH}(hc:c∈chs pr l st en)(hm:∀d∈chs pr l st en,c.1<=d.1):c28 pr l st en c:=by
 have hL:=a6C hl h1 h2;have sl:=N4 (l:=l) (i:=st) h2;have h24:=hl.len;have lo:v4 pr (k9 l st en)<=c.1:=by
  rcases a4O.mp hc with⟨y,t,hy,hu,rfl⟩|⟨w,w1,w2,w3,rfl⟩|⟨m,m1,m2,rfl⟩
  ·obtain⟨x,e⟩:=(a6G hL.ne).mp (by rw [hy];exact hu)
   have hx:y=x:=by
    have:y∈k9 l st en:=by rw [hy];exact Ak
    rw [e] at this;exact(List.mem_replicate.mp this).2
   rw [e,sl,a3X (by lia) (by lia),hx]
   exact AN _
  ·obtain⟨e1,e2⟩:=(b3O h2 w1 (by lia)).mp w3
   have hp:=a6C hl (i:=st) (j:=st+w) (by lia) (by lia)
   have sw:=N4 (l:=l) (i:=st) (j:=st+w) (by lia)
   have hk:2<=(en - st)/ w:=(Nat.le_div_iff_mul_le (by lia)).mpr (by lia)
   have hmul:=Nat.div_mul_cancel (Nat.dvd_of_mod_eq_zero e1);show v4 pr (k9 l st en)<=1+v4 pr (k9 l st (st+w));have:=a89 (pr:=pr) hp hk (by rw [sw,show st+w - st=w by lia,hmul];lia) (by rw [<-e2];exact hL)
   rwa [<-e2] at this
  ·show v4 pr (k9 l st en)<=v4 pr (k9 l st m)+v4 pr (k9 l m en);have:=b2Y (pr:=pr) (a6C hl m1 (by lia)) (a6C hl m2 h2) (by rw [a7x (by lia) (by lia)];exact hL)
   rwa [a7x (by lia) (by lia)] at this
 have hi:c.1<=v4 pr (k9 l st en):=by
  rcases b8o (pr:=pr) hL with⟨x,k,hk,e,e1⟩|⟨k,p,hk,hp,e,e1⟩|⟨a,b,ha,hb,e,e1⟩
  ·have hu:unx (k9 l st en)=true:=(a6G hL.ne).mpr ⟨x,by rw [e,List.length_replicate]⟩
   obtain⟨m,rfl⟩:∃m,k=m+1:=⟨k - 1,by lia⟩
   rw [Ac] at e;have:=hm _ (a4O.mpr (.inl ⟨x,_,e,by rw [<-e];exact hu,rfl⟩))
   rw [e1];exact this
  ·obtain⟨r1,r2,r3,r4,r5⟩:=c2n h2 hk hp.ne e;have hw:isx (k9 l st en) p.length=true:=(b3O h2 r1 (by lia)).mpr ⟨r3,by rw [r4,<-r5];exact e⟩
   have:=hm _ (a4O.mpr (.inr (.inl ⟨p.length,r1,by lia,hw,rfl⟩)))
   have this:c.1<=1+v4 pr (k9 l st (st+p.length)):=this;rw [<-r5] at this
   lia
  ·obtain⟨r1,r2,r3⟩:=c0v h2 e;have la:0<a.length:=List.length_pos_iff.mpr ha.ne;have lb:0<b.length:=List.length_pos_iff.mpr hb.ne;have:=hm _ (a4O.mpr (.inr (.inr ⟨st+a.length,by lia,by lia,rfl⟩)))
   have this:c.1<=v4 pr (k9 l st (st+a.length))+v4 pr (k9 l (st+a.length) en):=this;rw [<-r1,<-r2] at this
   lia
 refine⟨by lia, ?_⟩
 rcases a4O.mp hc with⟨y,t,hy,hu,rfl⟩|⟨w,w1,w2,w3,rfl⟩|⟨m,m1,m2,rfl⟩
 ·exact .inl ⟨rfl,by rw [hy];exact hu⟩
 ·exact .inr (.inl ⟨rfl,w1,by show 2*w<=en - st;lia,w3,rfl⟩)
 ·exact .inr (.inr ⟨rfl,m1,m2,rfl⟩)
theorem c5k{l:List α}{st en:Nat}(h1:st<en)(h2:en<=l.length):chs pr l st en≠[]:=by
 intro e
 by_cases h:en - st=1
 ·have sl:=N4 (l:=l) (i:=st) h2;rw [h] at sl;obtain⟨x,hx⟩:=List.length_eq_one_iff.mp sl;have:(pr x,sAl,en - st)∈chs pr l st en:=a4O.mpr (.inl ⟨x,[],hx,by simp [unx],rfl⟩)
  rw [e] at this;cases this
 ·have:(v4 pr (k9 l st (st+1))+v4 pr (k9 l (st+1) en),sSp,st+1)∈chs pr l st en:=a4O.mpr (.inr (.inr ⟨st+1,by lia,by lia,rfl⟩))
  rw [e] at this;cases this
variable (pr) in
def TB(l:List α)(D:Γ)(w s:Nat):Prop:=∀i j,i<j->j<=l.length->(j - i<w\/(j - i=w/\i<s))->∃c,z5 D [.inl (i:Nat),.inl (j:Nat)]=ξ (tc c)/\c28 pr l i j c
theorem c7b(cs:List CH):ndL (cs.map tc)=true:=by
 induction cs with
 |nil=>rfl
 |cons c cs ih=>show(nd (tc c)&& ndL (cs.map tc))=true;rw [ih];rfl
theorem c3c{l:List α}(hl:LVx l){P D:Γ}(hP:PrT K pr l P){w s:Nat}(hw:1<=w)(hs:s+w<=l.length)(hT:TB pr l D w s)(hD:D.length<=1000)(q5:Υ d4):
 ∃D',T9 [φ (K.w l),φ (tv P),ξ (.ow (.dct D)),φ (.int (w:Nat)),φ (.int (s:Nat)),q5]=ξ (.nx [φ (K.w l),φ (tv P),ξ (.ow (.dct D')),φ (.int (w:Nat)),φ (.int (s:Nat)),φ (.int ((s+w:Nat):Int))])/\TB pr l D' w (s+1)/\D'.length<=D.length+1:=by
 have hTb:Tb pr l D s (s+w):=λi j h1 h2 h3 h4=>by
  obtain⟨c,hv,g⟩:=hT i j h2 (by lia) (.inl (by lia))
  obtain⟨p,kd,a⟩:=c;have:p=v4 pr (k9 l i j):=g.pz;subst this;exact⟨kd,a,hv⟩
 have hc:=b6A (K:=K) hl.len hP (st:=s) (en:=s+w) (by lia) hs hTb
 obtain⟨c,hcm,hmin,hle⟩:=c5Q (c5k (pr:=pr) (l:=l) (st:=s) (en:=s+w) (by lia) hs)
 have hg:=c1m (pr:=pr) hl (st:=s) (en:=s+w) (by lia) hs hcm hle
 have hlend:a2B 2 (f7 a08 (a6 (a8 0) (a6 (a8 1) (a6 (a8 2) (a6 (a8 4) (a6 (a8 5) b9)))))) [φ (K.w l),φ (tv P),ξ (.ow (.dct D)),φ (.int (w:Nat)),φ (.int (s:Nat)),φ (.int ((s+w:Nat):Int))]=ξ (.own ((chs pr l s (s+w)).map tc)):=by
  unfold a2B;show((f7 a08 (a6 (a8 0) (a6 (a8 1) (a6 (a8 2) (a6 (a8 4) (a6 (a8 5) b9)))))) [φ (K.w l),φ (tv P),φ (dv D),φ (.int (w:Nat)),φ (.int (s:Nat)),φ (.int ((s+w:Nat):Int))]).bind _=_;have:(f7 a08 (a6 (a8 0) (a6 (a8 1) (a6 (a8 2) (a6 (a8 4) (a6 (a8 5) b9)))))) [φ (K.w l),φ (tv P),φ (dv D),φ (.int (w:Nat)),φ (.int (s:Nat)),φ (.int ((s+w:Nat):Int))]=ξ (.own ((chs pr l s (s+w)).map tc)):=by simp! [b5,d3,b8,b6,b7,e9,AD,hc]
  rw [this,AD];exact if_pos (c7b _)
 have hpl:=a8o D [.inl ((s:Nat):Int),.inl ((s+w:Nat):Int)] (tc c)
 refine⟨a11 D [.inl ((s:Nat):Int),.inl ((s+w:Nat):Int)] (tc c), ?_,λi j h1 h2 h3=> ?_,by lia⟩
 ·unfold T9
  have hsw:((s:Nat):Int)+((w:Nat):Int)=((s+w:Nat):Int):=by lia
  simp! [l6,d8,b5,d3,g7,p8,f8,i6,AD,AS,AT,hsw]
  rw [c3X (a:=((s:Nat):Int)) (b:=((s+w:Nat):Int)) (r:= .v (tc c)) (D:=D) (by simp! [m9,AD,hlend,hmin]) rfl (by simp! [b5,d3,b8,b6,b7,AD]) rfl (by lia)]
  rfl
 ·rw [a4c]
  split
  ·rename_i e
   injection e with e1 e2
   injection e2 with e2 _
   have e1:=Sum.inl.inj e1
   have e2:=Sum.inl.inj e2
   have:s=i:=by lia
   have:s+w=j:=by lia
   subst i j
   exact⟨c,rfl,hg⟩
  ·rename_i e
   refine hT i j h1 h2 ?_
   rcases h3 with h3|⟨h3,h4⟩
   ·exact .inl h3
   ·refine .inr ⟨h3, ?_⟩
    rcases Nat.lt_or_ge i s with h5|h5
    ·exact h5
    ·exfalso
     have e1:i=s:=by lia
     have e2:j=s+w:=by lia
     exact e (by rw [e1,e2])
theorem b7N{l:List α}(hl:LVx l){P:Γ}(hP:PrT K pr l P):∃D,(∀i j,i<j->j<=l.length->∃c,z5 D [.inl (i:Nat),.inl (j:Nat)]=ξ (tc c)/\c28 pr l i j c)/\L3 [K.w l,tv P]=ξ (.ow (.dct D)):=by
 have h24:=hl.len;have hln:=K.len (l:=l) (by lia)
 obtain⟨ρ1,e1,D,q3,q4,q5,rfl,hT,hD⟩:=D1 (body:=a0A) (tg:=g9 3) (λk ρ=>∃(D:Γ) (q3 q4 q5:Υ d4),ρ=[φ (K.w l),φ (tv P),ξ (.ow (.dct D)),q3,q4,q5]/\TB pr l D (k+1) 0/\D.length<=25*k)
  (ps:=K4 1 ((l.length:Nat)+1)) (ρ:=[φ (K.w l),φ (tv P),ξ (.ow (.dct [])),ζ,ζ,ζ])
  (by
   rintro k p hp ρ ⟨D,q3,q4,q5,rfl,hT,hD⟩;obtain⟨rfl,hk⟩:=W6 hp;rw [show(1:Int)+(k:Int)=((k+1:Nat):Int) by lia] at hk ⊢
   obtain⟨ρ2,e2,D2,q4',q5',rfl,hT2,hD2⟩:=D1 (body:=T9) (tg:=g9 4) (λs ρ=>∃(D:Γ) (q4 q5:Υ d4),ρ=[φ (K.w l),φ (tv P),ξ (.ow (.dct D)),φ (.int ((k+1:Nat):Int)),q4,q5]/\TB pr l D (k+1) s/\D.length<=25*k+s)
    (ps:=K4 0 ((l.length - k:Nat):Int)) (ρ:=[φ (K.w l),φ (tv P),ξ (.ow (.dct D)),φ (.int ((k+1:Nat):Int)),q4,q5])
    (by
     rintro s p hp ρ ⟨D,q4,q5,rfl,hT,hD⟩;obtain⟨rfl,hs⟩:=W6 hp;rw [show(0:Int)+(s:Int)=(s:Int) by lia] at hs ⊢
     obtain⟨D',e,hT',hD'⟩:=c3c hl hP (w:=k+1) (s:=s) (by lia) (by lia) hT (by lia) q5
     exact G4 (ρ1:=[φ (K.w l),φ (tv P),ξ (.ow (.dct D)),φ (.int ((k+1:Nat):Int)),φ (.int (s:Nat)),q5]) rfl e ⟨D',_,_,rfl,hT',by lia⟩) ⟨D,q4,q5,rfl,hT,by lia⟩
   rw [R9,show(((l.length - k:Nat):Int) - 0).toNat=l.length - k by lia] at hT2 hD2
   have hr:((l.length:Nat):Int) - ((k+1:Nat):Int)+1=((l.length - k:Nat):Int):=by lia
   have r1:b8D [.int ((l.length - k:Nat):Int)]=ξ (K4 0 ((l.length - k:Nat):Int)):=a1r ⟨by lia,by lia⟩
   refine G4 (ρ1:=[φ (K.w l),φ (tv P),ξ (.ow (.dct D)),φ (.int ((k+1:Nat):Int)),q4,q5]) rfl (ρ2:=[φ (K.w l),φ (tv P),ξ (.ow (.dct D2)),φ (.int ((k+1:Nat):Int)),q4',q5']) ?_ ⟨D2,_,_,_,rfl,λi j h1 h2 h3=>hT2 i j h1 h2 (by lia),by lia⟩
   unfold a0A;simp! [l6,K3,d8,m9,e8,b5,d3,b8,b6,b7,u9,M5,AD,hln,hr,M5,r1,e2]) ⟨[],ζ,ζ,ζ,rfl,λi j h1 h2 h3=>by lia,by simp⟩
 rw [R9,show(((l.length:Nat):Int)+1 - 1).toNat=l.length by lia] at hT
 refine⟨D,λi j h1 h2=>hT i j h1 h2 (by lia), ?_⟩
 have r1:a9S [.int 1,.int (((l.length:Nat):Int)+1)]=ξ (K4 1 (((l.length:Nat):Int)+1)):=a6y ⟨by lia,by lia,by lia⟩
 unfold L3 a5m;simp! [l6,d8,m9,e8,b5,b8,b6,b7,g7,f8,i6,i3,j5,u9,AD,AG,AR,Ac,AX,Aa,AY,AS,AT,Q7,Q8,b2Z,a8S,hln,a17,r1,e1]
end
theorem b5X{k:List m7}{v:PV}:∀(rest kvs:Γ),(∀e∈rest,e.1=k->e.2=v)->(z5 kvs k=ξ v\/∃e∈rest,e.1=k)->z5 (b3d kvs rest) k=ξ v
 |[],kvs,_,h=>h.elim id λ⟨e,he,_⟩=>nomatch he
 |(k',v')::r,kvs,hv,h=>by
  show z5 (b3d (a11 kvs k' v') r) k=ξ v;refine b5X r _ (λe he=>hv e (Al _ he)) ?_;rw [a4c]
  by_cases c:k'=k
  ·rw [if_pos c];exact .inl (congrArg ξ (hv (k',v') Ak c))
  ·rw [if_neg c];rcases h with h|⟨e,he,hk⟩
   ·exact .inl h
   ·rcases An.mp he with rfl|he
    ·exact absurd hk c
    ·exact .inr ⟨e,he,hk⟩
theorem b3c{kvs:Γ}{k:List m7}{v:PV}(h:ones kvs=true)(hk:k.length=1):ones (a11 kvs k v)=true:=by
 unfold ones at h ⊢;rw [List.all_eq_true] at h ⊢;intro e he;unfold a11 at he;split at he
 ·obtain⟨e',he',rfl⟩:=Ah.mp he;split
  ·exact h e' he'
  ·exact h e' he'
 ·rcases Aq.mp he with he|he
  ·exact h e he
  ·rw [List.mem_singleton] at he;subst he
   simpa using hk
theorem b3e:∀(rest kvs:Γ),ones kvs=true->(∀e∈rest,e.1.length=1)->ones (b3d kvs rest)=true
 |[],kvs,h,_=>h
 |(k,v)::r,kvs,h,g=>b3e r (a11 kvs k v) (b3c h (g _ Ak)) λe he=>g e (Al _ he)
def Bpb(tab:List (Str×(Λ)))(R:Λ):MS:=
 (i8 (p7 5 (a2A 1 (a6 (a8 3) (a6 (a8 4) b9))))
 (i8 (v5 (G2 (m2 X5 (m2 l9 (a8 5) (mC (.int 1))) (mC (.str "alike")))) (t6 (a1E (a6 (a2z tab 2 (a6 (m2 l9 (a8 0) (a8 3)) (a6 (m2 (gI λi j=> .int (i - j)) (a8 4) (a8 3)) b9))) b9))) n4)
 (i8 (v5 (G2 (m2 X5 (m2 l9 (a8 5) (mC (.int 1))) (mC (.str "again")))) (i8 (p7 6 (f7 R (a6 (a8 0) (a6 (a8 1) (a6 (a8 2) (a6 (a8 3) (a6 (m2 t7 (a8 3) (m2 l9 (a8 5) (mC (.int 2)))) b9)))))))
 (a0b 6 (t6 (a1E (a6 (O2 (a6 (mC (.str "again")) (a6 (m2 Ω (m2 (gI λi j=> .int (i - j)) (a8 4) (a8 3)) (m2 l9 (a8 5) (mC (.int 2)))) (a6 (a8 6) b9)))) b9))))) n4)
 (i8 (p7 7 (f7 R (a6 (a8 0) (a6 (a8 1) (a6 (a8 2) (a6 (a8 3) (a6 (m2 l9 (a8 5) (mC (.int 2))) b9)))))))
 (t6 (m2 t7 (a8 7) (f7 R (a6 (a8 0) (a6 (a8 1) (a6 (a8 2) (a6 (m2 l9 (a8 5) (mC (.int 2))) (a6 (a8 4) b9))))))))))))
section
variable {α:Type}(pt:α->Nat->PV)
mutual
def pvX:Px α->PV
 | .run c k=>pt c k
 | .again k ps=> .tuple [C9,.int (k:Nat),.list (C0 ps)]
def C0:List (Px α)->List PV
 |[]=>[]
 |p::ps=>pvX p::C0 ps
end
variable {pt}
theorem a5Q:∀ps:List (Px α),C0 pt ps=ps.map (pvX pt)
 |[]=>by rw [C0,AR]
 |p::ps=>by rw [C0,AG,a5Q ps]
theorem b5Z(ps:List (Px α)):(C0 pt ps).length=ps.length:=by rw [a5Q,AZ]
theorem c2i(a b:List (Px α)):C0 pt (a++b)=C0 pt a++C0 pt b:=by rw [a5Q,a5Q,a5Q,Ao]
mutual
theorem c5S(hp:∀c k,nd (pt c k)=true/\PU.nk (pt c k)=true):∀p:Px α,nd (pvX pt p)=true/\PU.nk (pvX pt p)=true
 | .run c k=>by rw [pvX];exact hp c k
 | .again k ps=>by
   have h:=a79 hp ps;rw [pvX];constructor
   ·show(nd C9 &&(nd (.int (k:Nat))&&(ndL (C0 pt ps)&& true)))=true;rw [h.1];rfl
   ·show(PU.nk C9 &&(PU.nk (.int (k:Nat))&&(nkL (C0 pt ps)&& true)))=true;rw [h.2];rfl
theorem a79(hp:∀c k,nd (pt c k)=true/\PU.nk (pt c k)=true):∀ps:List (Px α),ndL (C0 pt ps)=true/\nkL (C0 pt ps)=true
 |[]=>by rw [C0];exact⟨rfl,rfl⟩
 |p::ps=>by
  have h1:=c5S hp p;have h2:=a79 hp ps;rw [C0];constructor
  ·show(nd (pvX pt p)&& ndL (C0 pt ps))=true;rw [h1.1,h2.1];rfl
  ·show(PU.nk (pvX pt p)&& nkL (C0 pt ps))=true;rw [h1.2,h2.2];rfl
end
variable [BEq α][LawfulBEq α]{K:Kd α}{pr:α->Nat}
theorem a7H{l:List α}(hl:LVx l){x0:Str}{pf:Λ}{tab:List (Str×(Λ))}(htab:tab.lookup x0=ξ pf)
 (hpt:∀c∈l,∀k:Nat,1<=k->k<=24->pf [K.o c,.int (k:Nat)]=φ (pt c k)) (hat:∀(i:Nat) (h:i<l.length),l9 (.v (K.w l)) (.v (.int (i:Nat)))=φ (K.o l[i])) {rc:Nat->Λ} (hrc:∀n,rc (n+1)=k4 3 (Bpb tab (rc n))) {D:Γ} (hD:∀i j,i<j->j<=l.length->∃c,z5 D [.inl (i:Nat),.inl (j:Nat)]=ξ (tc c)/\c28 pr l i j c):∀(f st en:Nat),st<en->en<=l.length->en - st<=f->
 ∃T,FDx T (k9 l st en)/\coX pr T=v4 pr (k9 l st en)/\dpX T<en - st/\rc f [K.w l,dv D,(A6 x0),.int (st:Nat),.int (en:Nat)]=ξ (.own (C0 pt T))
 |0,st,en,h1,h2,h3=>by lia
 |f+1,st,en,h1,h2,h3=>by
  have h24:=hl.len;have hL:=a6C hl h1 h2;have sl:=N4 (l:=l) (i:=st) h2;obtain⟨c,hv,g⟩:=hD st en h1 h2;have hg:=c3J (i:=1) (mk:=a6 (a8 3) (a6 (a8 4) b9)) (ρ:=[φ (K.w l),φ (dv D),φ (A6 x0),φ (.int (st:Nat)),φ (.int (en:Nat)),ζ,ζ,ζ]) (by simp! [b5,d3,b8,b6,b7,AD]) rfl hv
  obtain⟨p,kd,a⟩:=c;have hpr:p=v4 pr (k9 l st en):=g.pz;have eqs:∀x y:Str,X5 (.v (.str x)) (.v (.str y))=φ (.bool (decide (x=y))):=λx y=>by
   rw [a4E (x:= .v (.str x)) (y:= .v (.str y)) ⟨rfl,rfl⟩]
   congr 3
  have t1:=c8f (p,kd,a);have t2:=c8g (p,kd,a);simp only at t1 t2;have a3g:∀b:MS,k4 3 (i8 (p7 5 (a2A 1 (a6 (a8 3) (a6 (a8 4) b9)))) b) [K.w l,dv D,(A6 x0),.int (st:Nat),.int (en:Nat)]=(b [φ (K.w l),φ (dv D),φ (A6 x0),φ (.int (st:Nat)),φ (.int (en:Nat)),φ (tc (p,kd,a)),ζ,ζ]).bind c4t:=λb=>by
   show((i8 (p7 5 (a2A 1 (a6 (a8 3) (a6 (a8 4) b9)))) b) [φ (K.w l),φ (dv D),φ (A6 x0),φ (.int (st:Nat)),φ (.int (en:Nat)),ζ,ζ,ζ]).bind c4t=_;simp! [g7,p8,f8,i6,AD,AS,AT,hg]
  have hd:((en:Nat):Int) - ((st:Nat):Int)=((en - st:Nat):Int):=by lia
  rcases g.kd with⟨k1,hu⟩|⟨k1,a1,a2,a3,a4⟩|⟨k1,a1,a2,a4⟩
  ·have k1:kd=sAl:=k1;subst k1;obtain⟨x,e⟩:=(a6G hL.ne).mp hu;rw [sl] at e;refine⟨[.run x (en - st)],by rw [e];exact b73 (by lia) (by lia),by rw [b3z,e,a3X (by lia) (by lia)],by rw [dpX,a80,dpX];simp;lia, ?_⟩
   have hlt:st<l.length:=by lia
   have hx0:l[st]=x:=by
    have hm:l[st]∈k9 l st en:=by
     unfold k9;rw [List.drop_eq_getElem_cons hlt];obtain⟨m,hm⟩:∃m,en - st=m+1:=⟨en - st - 1,by lia⟩
     rw [hm,List.take_succ_cons];exact Ak
    rw [e] at hm;exact(List.mem_replicate.mp hm).2
   have hix:l9 (.v (K.w l)) (.v (.int (st:Nat)))=φ (K.o x):=by rw [hat st hlt,hx0]
   have hrun:pf [K.o x,.int ((en - st:Nat):Int)]=φ (pt x (en - st)):=hpt x (by rw [<-hx0];exact List.getElem_mem hlt) _ (by lia) (by lia)
   have hcv:=b2C (x:=x0) (g:=pf) (i:=2) (m:=a6 (m2 l9 (a8 0) (a8 3)) (a6 (m2 (gI λi j=> .int (i - j)) (a8 4) (a8 3)) b9)) (ρ:=[φ (K.w l),φ (dv D),φ (A6 x0),φ (.int (st:Nat)),φ (.int (en:Nat)),φ (tc (p,sAl,a)),ζ,ζ]) (qs:=[K.o x,.int ((en - st:Nat):Int)]) (tab:=tab) rfl htab (by simp! [K3,d8,b5,d3,b8,b6,b7,AD,hix,hd]) hrun
   have q1:=eqs sAl (AQ "alike");rw [decide_eq_true (show sAl=AQ "alike" from rfl)] at q1;rw [hrc];unfold Bpb;rw [a3g];simp! [d8,e8,b5,d3,b8,b6,b7,D9,j7,a7n,f8,a0R,f6,D8,j5,g5,i7,AD,AU,Ad,↓reduceIte,sz,Nat.reduceAdd,Ai,t1,q1,hcv];rw [C0,C0,pvX]
  ·have k1:kd=sAg:=k1;subst k1;have a1:1<=a:=a1;have a2:2*a<=en - st:=a2;have a3:isx (k9 l st en) a=true:=a3;have a4:p=1+v4 pr (k9 l st (st+a)):=a4;obtain⟨e1,e2⟩:=(b3O h2 a1 (by lia)).mp a3
   obtain⟨T,g1,g2,g3,g4⟩:=a7H hl htab hpt hat hrc hD f st (st+a) (by lia) (by lia) (by lia)
   have hk:2<=(en - st)/ a:=(Nat.le_div_iff_mul_le (by lia)).mpr (by lia)
   have hk2:(en - st)/ a<=en - st:=Nat.div_le_self _ _;refine⟨[.again ((en - st)/ a) T],by rw [e2];exact b2J g1 hk (by lia),by rw [a8V,g2,<-a4,hpr],by rw [dpX,a80,dpX];simp;lia, ?_⟩
   have hsa:((st:Nat):Int)+((a:Nat):Int)=((st+a:Nat):Int):=by lia
   have hda:((en - st:Nat):Int)/((a:Nat):Int)=(((en - st)/ a:Nat):Int):=rfl;have ca:((a:Nat):Int)≠0:=by lia
   have q1:=eqs sAg (AQ "alike");rw [decide_eq_false (by decide)] at q1
   have q2:=eqs sAg (AQ "again");rw [decide_eq_true (show sAg=AQ "again" from rfl)] at q2;have g4':rc f [K.w l,dv D,(A6 x0),.int (st:Nat),.int ((st+a:Nat):Int)]=ξ (.own (C0 pt T)):=g4;have fz:∀nn:MS,a0b 6 nn [φ (K.w l),φ (dv D),φ (A6 x0),φ (.int (st:Nat)),φ (.int (en:Nat)),φ (tc (p,sAg,a)),ξ (.own (C0 pt T)),ζ]=nn [φ (K.w l),φ (dv D),φ (A6 x0),φ (.int (st:Nat)),φ (.int (en:Nat)),φ (tc (p,sAg,a)),φ (.list (C0 pt T)),ζ]:=λ_=>rfl;rw [hrc];unfold Bpb;rw [a3g];simp! [l6,K3,G6,d8,e8,b5,d3,b8,b6,b7,v9,D9,e9,g7,Z4,j7,a7n,f8,i6,a0R,f6,D8,y0,l7,j5,g5,i7,AD,AS,AT,AU,Ad,↓reduceIte,sz,Nat.reduceAdd,Ai,t1,t2,q1,q2,hsa,g4',fz,hd,hda,ca];rw [C0,C0,pvX]
   try rfl
  ·have k1:kd=sSp:=k1;subst k1;have a1:st<a:=a1;have a2:a<en:=a2;have a4:p=v4 pr (k9 l st a)+v4 pr (k9 l a en):=a4;obtain⟨T1,g1,g2,g3,g4⟩:=a7H hl htab hpt hat hrc hD f st a a1 (by lia) (by lia)
   obtain⟨T2,j1,j2,j3,j4⟩:=a7H hl htab hpt hat hrc hD f a en a2 h2 (by lia)
   refine⟨T1++T2, ?_,by rw [b0k,g2,j2,<-a4,hpr],by rw [b7W];lia, ?_⟩
   ·have:=b72 g1 j1
    rwa [a7x (by lia) (by lia)] at this
   have q1:=eqs sSp (AQ "alike");rw [decide_eq_false (by decide)] at q1
   have q2:=eqs sSp (AQ "again");rw [decide_eq_false (by decide)] at q2
   have m1:=b1Y g1.ok;have m2':=b1Y j1.ok;rw [g1.un,N4 (by lia)] at m1
   rw [j1.un,N4 (by lia)] at m2'
   have g4':rc f [K.w l,dv D,(A6 x0),.int (st:Nat),.int (a:Nat)]=ξ (.own (C0 pt T1)):=g4;have j4':rc f [K.w l,dv D,(A6 x0),.int (a:Nat),.int (en:Nat)]=ξ (.own (C0 pt T2)):=j4;have ha:t7 (.bo (.lst (C0 pt T1))) (.ow (.lst (C0 pt T2)))=ξ (.own (C0 pt (T1++T2))):=by
    rw [c2i];show(if(C0 pt T1).length+(C0 pt T2).length<=AL then ξ (d4.own (C0 pt T1++C0 pt T2)) else ζ)=_
    rw [if_pos (by rw [sizeLine_eq,b5Z,b5Z];lia)]
   rw [hrc];unfold Bpb;rw [a3g];simp! [d8,e8,b5,a4N,d3,b8,b6,b7,e9,g7,Z4,j7,a7n,f8,i6,f6,y0,l7,j5,g5,i7,AD,AS,AT,t1,t2,q1,q2,g4',j4',ha]
end
theorem c3j{α β:Type}(f:α->β)(l:List α)(lo hi:Υ Int):cut (l.map f) lo hi=(cut l lo hi).map f:=by
 unfold cut;rw [AZ,<-List.map_drop,<-List.map_take]
theorem b3I(a b:List (List Nat)):X5 (.v (d9 a)) (.v (d9 b))=φ (.bool (a==b)):=by
 rw [a4E (x:= .v (d9 a)) (y:= .v (d9 b)) ⟨Z6 _,Z6 _⟩]
 congr 3
 show η (.tuple (a.map row)) (.tuple (b.map row))=_;rw [η]
 induction a generalizing b with
 |nil=>cases b<;>rfl
 |cons x a ih=>
  cases b with
  |nil=>rfl
  |cons y b=>
   have h:=a6n x y;rw [a4E (x:= .v (row x)) (y:= .v (row y)) ⟨rfl,rfl⟩] at h;have h:=Option.some.inj h;injection h with h
   injection h with h
   rw [AG,AG,θ,ih b];rw [show η (row x) (row y)=(x==y) from h]
   rfl
def kS:Kd Nat where
 w:=row
 o:=λc=>row [c]
 len:=λh=>R4 (by lia)
 sl:=λh=>c63 (by lia)
 hd:=λh=>a8D (pre:=[]) (by simp at h ⊢;lia)
 eq:=λ_ _=>a6n _ _
 eo:=λa b=>by
  have e:([a]==[b])=(a==b):=by
   rw [Bool.eq_iff_iff];simp
  rw [a6n,e]
 it:=λ {l m ρ} h=>by rw [b5v,h];rfl
 key:=λc=>S [c]
 ky:=λ_=>rfl
 mul:=λh2 _ h=>c5R (by lia) (by
  rename_i l k _;rcases Nat.eq_zero_or_pos l.length with z|z
  ·simp_all
  ·have:1*k<=l.length*k:=Nat.mul_le_mul_right _ z
   lia)
def kC:Kd (List Nat) where
 w:=d9
 o:=row
 len:=λ {l} h=>b3J l
 sl:=λ {l lo hi} _=>by
  unfold d9;rw [c3I,c3j]
 hd:=λ {c t} _=>by
  show(L2.atI ((c::t).map row) 0).map d4.v=_;rw [show(0:Int)=((0:Nat):Int) from rfl,b2s]
  rfl
 eq:=λ_ _=>b3I _ _
 eo:=a6n
 it:=λ {l m ρ} h=>by rw [b5v,h];rfl
 key:=S
 ky:=λ_=>rfl
 mul:=λ {l k} h2 hne h=>by
  have z:0<l.length:=List.length_pos_iff.mpr hne;have:1*k<=l.length*k:=Nat.mul_le_mul_right _ z;have:l.length*1<=l.length*k:=Nat.mul_le_mul_left _ (by lia)
  unfold d9;rw [b9t ⟨⟨by lia,by lia⟩,by rw [AZ];lia,by rw [AZ];lia⟩,BI,b0v,List.map_flatten,List.map_replicate]
abbrev fnR:PV:=A6 (AQ "run_of")
def ptS(c k:Nat):PV:= .tuple [.str (AQ "run"),row [c],.int (k:Nat)]
theorem c2d(c k:Nat):nd (ptS c k)=true/\PU.nk (ptS c k)=true:=⟨rfl,rfl⟩
theorem c6v(c k:Nat):a1A [row [c],.int (k:Nat)]=φ (ptS c k):=by
 unfold a1A b4N;simp! [e8,b5,d3,b8,b6,b7,v9,j7,u5,i3,j5,AD,AG,AR,AX,Af,AU,Ad,↓reduceIte,sz,Nat.reduceAdd,Ai]
 rfl
theorem c69{l:List Nat}(hl:l.length<=24)(i:Nat)(h:i<l.length):l9 (.v (kS.w l)) (.v (.int (i:Nat)))=φ (kS.o l[i]):=by
 show l9 (.v (row l)) _=φ (row [l[i]]);exact c1h (by lia) (by rw [b2s,BC h])
theorem b93(l:List Nat)(hl:l.length<=10000):∃P,PrT kS (λ_=>1) l P/\b3H (.own (l.map λc=> .tuple [row [c],.int 1]))=ξ (.ow (.txt P)):=by
 have hp:∀s:List Nat,a29 (s.map λc=> .tuple [row [c],.int 1])=ξ (s.map λc=>([Sum.inr (S [c])],PyData.int 1)):=by
  intro s
  induction s with
  |nil=>rfl
  |cons c s ih=>
   rw [AG,AG];unfold a29;rw [ih]
   rfl
 refine⟨b3d [] (l.map λc=>([Sum.inr (S [c])],PyData.int 1)),⟨b3e _ _ rfl λe he=> ?_,λc hc=>b5X _ _ (λe he _=> ?_) (.inr ⟨([Sum.inr (S [c])],PyData.int 1),Ah.mpr ⟨c,hc,rfl⟩,rfl⟩)⟩, ?_⟩
 ·obtain⟨c,_,rfl⟩:=Ah.mp he;rfl
 ·obtain⟨c,_,rfl⟩:=Ah.mp he;rfl
 ·show(a29 (l.map λc=> .tuple [row [c],.int 1])).map _=_;rw [hp]
  rfl
theorem b2L{l:List Nat}(hl:LVx l):∃T,FDx T l/\coX (λ_=>1) T=v4 (λ_=>1) l/\dpX T<24/\V0 [row l]=ξ (.own (C0 ptS T)):=by
 have h24:=hl.len;have hpos:0<l.length:=List.length_pos_iff.mpr hl.ne;obtain⟨P,hP,eP⟩:=b93 l (by lia)
 obtain⟨D,hD,eD⟩:=b7N (K:=kS) hl hP;obtain⟨T,g1,g2,g3,g4⟩:=a7H (K:=kS) (pt:=ptS) (x0:="run_of") (pf:=a1A) (tab:=[("run_of",a1A)]) hl rfl (λc _ k _ _=>c6v c k) (c69 hl.len) (rc:=a1e) (λn=>rfl) hD 26 0 l.length hpos (AN _) (by lia)
 rw [b1Q] at g1 g2;have hln:=R4 (l:=l) (by lia)
 have nds:=a79 c2d T;have eD:L3 [row l,tv P]=ξ (.ow (.dct D)):=eD;have lend:a2B 3 (f7 M3 (a6 (a8 0) (a6 (a8 3) (a6 (a8 2) (a6 (mC (.int 0)) (a6 (m1 y9 (a8 0)) b9)))))) [φ (row l),φ (tv P),φ fnR,ξ (.ow (.dct D))]=ξ (.own (C0 ptS T)):=by
  unfold a2B;show((f7 M3 (a6 (a8 0) (a6 (a8 3) (a6 (a8 2) (a6 (mC (.int 0)) (a6 (m1 y9 (a8 0)) b9)))))) [φ (row l),φ (tv P),φ fnR,φ (dv D)]).bind _=_;have g4':M3 [row l,dv D,fnR,.int 0,.int (l.length:Nat)]=ξ (.own (C0 ptS T)):=g4;have:(f7 M3 (a6 (a8 0) (a6 (a8 3) (a6 (a8 2) (a6 (mC (.int 0)) (a6 (m1 y9 (a8 0)) b9)))))) [φ (row l),φ (tv P),φ fnR,φ (dv D)]=ξ (.own (C0 ptS T)):=by simp! [m9,e8,b5,d3,b8,b6,b7,e9,AD,hln,g4']
  rw [this,AD];exact if_pos nds.1
 have ech:Z8 [row l,tv P,fnR]=ξ (.own (C0 ptS T)):=by
  unfold Z8 b0I;simp! [b5,d3,b8,b6,b7,e9,g7,j7,a7n,f8,i6,i3,j5,AD,AG,AR,Ac,AX,Aa,AY,AS,AT,eD,a8S,lend]
 have cm:=a0m (ι:=λc:Nat=>PyData.str (S [c])) (f:=λc=>PyData.tuple [row [c],.int 1]) (k:=1) (it:=a7f (a8 0)) (elt:=a5J) (tg:=g9 2) (ρ:=[φ (row l),ζ]) l (b5t rfl) (by lia) λc _=>⟨_,rfl,by
  unfold a5J;simp! [e8,b5,d3,b8,b6,b7,v9,AD,Ac,AX,Aa,AY,AS,AT,AU,Ad,↓reduceIte,sz,Nat.reduceAdd,Ai]
  try rfl⟩
 have lend2:a5O 1 (f7 Z8 (a6 (a8 0) (a6 (a8 1) (a6 (mC (A6 (AQ "run_of"))) b9)))) [φ (row l),ξ (.ow (.txt P))]=ξ (.own (C0 ptS T)):=by
  unfold a5O;show((f7 Z8 (a6 (a8 0) (a6 (a8 1) (a6 (mC (A6 (AQ "run_of"))) b9)))) [φ (row l),φ (tv P)]).bind _=_;have:(f7 Z8 (a6 (a8 0) (a6 (a8 1) (a6 (mC (A6 (AQ "run_of"))) b9)))) [φ (row l),φ (tv P)]=ξ (.own (C0 ptS T)):=by simp! [e8,b5,d3,b8,b6,b7,e9,AD,ech]
  rw [this,AD];exact if_pos nds.2
 refine⟨T,g1,g2,by lia, ?_⟩
 unfold V0 b4M;simp! [m9,g7,j7,a7n,f8,i6,i3,j5,AD,AG,AR,Ac,AX,Aa,AY,AS,AT,cm,eP,a8S,lend2]
mutual
def b2l:Px Nat->Pa
 | .run c k=> .run c k
 | .again k ps=> .again k (a0W ps)
def a0W:List (Px Nat)->List Pa
 |[]=>[]
 |p::ps=>b2l p::a0W ps
end
mutual
theorem c2M:∀p:Px Nat,E2 (b2l p)=pvX ptS p/\unP (b2l p)=X4 p/\dpP (b2l p)=a80 p/\coP (b2l p)=a4v (λ_=>1) p
 | .run c k=>by
   rw [b2l,E2,pvX,unP,X4,dpP,a80,coP,a4v];exact⟨rfl,rfl,rfl,rfl⟩
 | .again k ps=>by
   obtain⟨h1,h2,h3,h4⟩:=a4a ps;rw [b2l,E2,pvX,unP,X4,dpP,a80,coP,a4v,h1,h2,h3,h4];exact⟨rfl,rfl,rfl,rfl⟩
theorem a4a:∀ps:List (Px Nat),x8 (a0W ps)=C0 ptS ps/\B3 (a0W ps)=unX ps/\dpL (a0W ps)=dpX ps/\coL (a0W ps)=coX (λ_=>1) ps
 |[]=>by
  rw [a0W,x8,C0,B3,unX,dpL,dpX,coL,coX];exact⟨rfl,rfl,rfl,rfl⟩
 |p::ps=>by
  obtain⟨h1,h2,h3,h4⟩:=a4a ps;obtain⟨g1,g2,g3,g4⟩:=c2M p;rw [a0W,x8,C0,B3,unX,dpL,dpX,coL,coX,h1,h2,h3,h4,g1,g2,g3,g4];exact⟨rfl,rfl,rfl,rfl⟩
end
theorem b6c{ps:List (Px Nat)}(h:ps≠[]):a0W ps≠[]:=by
 cases ps with
 |nil=>exact absurd rfl h
 |cons p ps=>rw [a0W];exact λz=>nomatch z
theorem b3V{α:Type}{l:List α}{x:α}{k:Nat}(hk:1<=k)(h:x∈l):x∈((Ab k).map λ_=>l).flatten:=
 List.mem_flatten.mpr ⟨l,Ah.mpr ⟨0,List.mem_range.mpr hk,rfl⟩,h⟩
mutual
theorem c4G:∀{p:Px Nat},b5H p->(∀x∈X4 p,97<=x/\x<=122)->okP (b2l p)
 | .run c k,h,g=>by
   rw [b2l];rw [X4] at g;exact⟨h.1,h.2,g c (Ah.mpr ⟨0,List.mem_range.mpr h.1,rfl⟩)⟩
 | .again k ps,h,g=>by
   rw [b2l];rw [X4] at g;exact⟨h.1,h.2.1,b6c h.2.2.1,b1R h.2.2.2 λx hx=>g x (b3V (by have:=h.1;lia) hx)⟩
theorem b1R:∀{ps:List (Px Nat)},okX ps->(∀x∈unX ps,97<=x/\x<=122)->okL (a0W ps)
 |[],_,_=>by rw [a0W];trivial
 |p::ps,h,g=>by
  rw [a0W];rw [unX] at g;exact⟨c4G h.1 λx hx=>g x (BD _ hx),b1R h.2 λx hx=>g x (Au _ hx)⟩
end
mutual
def b9q:Pa->Px Nat
 | .run c k=> .run c k
 | .again k ps=> .again k (a7T ps)
def a7T:List Pa->List (Px Nat)
 |[]=>[]
 |p::ps=>b9q p::a7T ps
end
mutual
theorem c06:∀p:Pa,okP p->X4 (b9q p)=unP p/\a4v (λ_=>1) (b9q p)=coP p/\b5H (b9q p)
 | .run c k,h=>by
   have o:=h;rw [b9q,unP,X4,coP,a4v];exact⟨rfl,rfl,o.1,o.2.1⟩
 | .again k ps,h=>by
   have o:=h;obtain⟨h1,h2,h3⟩:=a82 ps o.2.2.2;rw [b9q,unP,X4,coP,a4v,h1,h2];exact⟨rfl,rfl,o.1,o.2.1,(by
    have:=o.2.2.1;cases ps with
    |nil=>exact absurd rfl this
    |cons p ps=>rw [a7T];exact λz=>nomatch z),h3⟩
theorem a82:∀ps:List Pa,okL ps->unX (a7T ps)=B3 ps/\coX (λ_=>1) (a7T ps)=coL ps/\okX (a7T ps)
 |[],_=>by
  rw [a7T,B3,unX,coL,coX];exact⟨rfl,rfl,trivial⟩
 |p::ps,h=>by
  obtain⟨h1,h2,h3⟩:=a82 ps h.2;obtain⟨g1,g2,g3⟩:=c06 p h.1;rw [a7T,B3,unX,coL,coX,h1,h2,g1,g2];exact⟨rfl,rfl,g3,h3⟩
end
theorem c07{ps:List Pa}(g:gFo ps):v4 (λ_=>1) (B3 ps)<=coL ps:=by
 obtain⟨a1,a2,a3,a4⟩:=g;obtain⟨h1,h2,h3⟩:=a82 ps a1;rw [<-h2];have hp:=a6E a2 a1;refine a4M ⟨λz=>(by rw [z] at hp;cases hp),a4⟩ ⟨h3, ?_,h1⟩
 cases ps with
 |nil=>exact absurd rfl a2
 |cons p ps=>rw [a7T];exact λz=>nomatch z
theorem b4Q(n:Nat)(ps:List (Px Nat))(h:dpX ps<n):a6r n [.list (C0 ptS ps)]=φ (.int (coX (λ_=>1) ps:Nat)):=by
 obtain⟨h1,h2,h3,h4⟩:=a4a ps;have:=b7S n (a0W ps) (by rw [h3];exact h)
 rw [h1,h4] at this;exact this
open Classical in
def fld(r:List Nat):List (Px Nat):=if h:LVx r then(b2L h).choose else []
theorem a7S{r:List Nat}(h:LVx r):FDx (fld r) r/\coX (λ_=>1) (fld r)=v4 (λ_=>1) r/\dpX (fld r)<24/\V0 [row r]=ξ (.own (C0 ptS (fld r))):=by
 unfold fld;rw [dif_pos h];exact(b2L h).choose_spec
def pw(r:List Nat):Nat:=1+v4 (λ_=>1) r
def ptC(r:List Nat)(k:Nat):PV:= .tuple [.str (AQ "rows"),.int (k:Nat),.list (C0 ptS (fld r))]
theorem c6o(r:List Nat)(k:Nat):nd (ptC r k)=true/\PU.nk (ptC r k)=true:=by
 have h:=a79 c2d (fld r);constructor
 ·show(nd (.str (AQ "rows"))&&(nd (.int (k:Nat))&&(ndL (C0 ptS (fld r))&& true)))=true;rw [h.1];rfl
 ·show(PU.nk (.str (AQ "rows"))&&(PU.nk (.int (k:Nat))&&(nkL (C0 ptS (fld r))&& true)))=true;rw [h.2];rfl
theorem c2o{r:List Nat}(h:LVx r)(k:Nat):a16 [row r,.int (k:Nat)]=φ (ptC r k):=by
 have hf:=(a7S h).2.2.2;unfold a16 b2w;simp! [e8,b5,d3,b8,b6,b7,a2b,v9,e9,j7,u5,i3,j5,AD,AG,AR,AX,Af,AU,Ad,↓reduceIte,sz,Nat.reduceAdd,Ai,hf]
 rfl
theorem c68{l:List (List Nat)}(i:Nat)(h:i<l.length):l9 (.v (kC.w l)) (.v (.int (i:Nat)))=φ (kC.o l[i]):=by
 show(L2.atI (l.map row) ((i:Nat):Int)).map d4.v=φ (row l[i]);rw [b2s,Az,BC h]
 rfl
theorem c2O{i:Nat}{ρ:c9}{p:PV}{x:Str}{D:Γ}(h:ρ[i]?=ξ (ξ (.ow (.txt D))))(hl:D.length<16777216):b6e i ρ p x=ξ (.nx (ρ.set i (ξ (.ow (.txt (a11 D [.inr x] p)))))):=by
 unfold b6e;rw [h];exact if_pos (by rw [sizeLine_eq];exact hl)
theorem c4E{neg:Bool}{i:Nat}{ρ:c9}{x:Str}{D:Γ}(h:ρ[i]?=ξ (ξ (.ow (.txt D)))):c2L neg i ρ x=φ (.bool (if neg then !(z5 D [.inr x]).isSome else(z5 D [.inr x]).isSome)):=by
 unfold c2L;rw [h]
theorem b7o{cs:List (List Nat)}(hc:cs.length<=24)(hr:∀r∈cs,LVx r):∃P q2,PrT kC pw cs P/\O1 a2y (g9 2) (cs.map row) [φ (d9 cs),ξ (.ow (.txt [])),ζ]=ξ (.nx [φ (d9 cs),ξ (.ow (.txt P)),q2]):=by
 obtain⟨ρ1,e1,P,q2,rfl,ho,hv,hn,hl⟩:=D1 (body:=a2y) (tg:=g9 2) (λk ρ=>∃(P:Γ) (q2:Υ d4),ρ=[φ (d9 cs),ξ (.ow (.txt P)),q2]/\ones P=true/\(∀r∈cs.take k,z5 P [.inr (S r)]=ξ (.int (pw r:Nat)))/\(∀r:List Nat,z5 P [.inr (S r)]=ζ\/z5 P [.inr (S r)]=ξ (.int (pw r:Nat)))/\P.length<=k)
  (ps:=cs.map row) (ρ:=[φ (d9 cs),ξ (.ow (.txt [])),ζ])
  (by
   rintro k p hp ρ ⟨P,q2,rfl,ho,hv,hn,hl⟩;rw [Az] at hp;obtain⟨r,hk,rfl⟩:=Option.map_eq_some_iff.mp hp;have hlt:=(Av.mp hk).1;have hrm:r∈cs:=BA hk;have tk:∀x,x∈cs.take (k+1)->x∈cs.take k\/x=r:=λx hx=>by
    rw [List.take_add_one,hk] at hx;rcases Aq.mp hx with h|h
    ·exact .inl h
    ·exact .inr (by simpa using h)
   have hks:b08 (.v (row r))=ξ (S r):=rfl;have hin:c1N true 1 (a8 2) [φ (d9 cs),ξ (.ow (.txt P)),φ (row r)]=φ (.bool (!(z5 P [.inr (S r)]).isSome)):=by
    have h2:(a8 2) [φ (d9 cs),ξ (.ow (.txt P)),φ (row r)]=φ (row r):=rfl;rw [c1O,h2,AD,hks,AD,c4E rfl]
    rfl
   rcases hn r with h0|h0
   ·obtain⟨f1,f2,f3,f4⟩:=a7S (hr r hrm);have hco:=b4Q 26 (fld r) (by lia)
    have hco':a4F [.list (C0 ptS (fld r))]=φ (.int (coX (λ_=>1) (fld r):Nat)):=hco;rw [f2] at hco';have hpw:(1:Int)+((v4 (λ_=>1) r:Nat):Int)=((pw r:Nat):Int):=by unfold pw;lia
    rw [h0] at hin;replace hin:_=ξ (d4.v (.bool true)):=hin;have hput:b8s 1 (a8 2) (m2 t7 (mC (.int 1)) (f7 a4F (a6 (f7 V0 (a6 (a8 2) b9)) b9))) [φ (d9 cs),ξ (.ow (.txt P)),φ (row r)]=ξ (.nx [φ (d9 cs),ξ (.ow (.txt (a11 P [.inr (S r)] (.int (pw r:Nat))))),φ (row r)]):=by
     have h2:(a8 2) [φ (d9 cs),ξ (.ow (.txt P)),φ (row r)]=φ (row r):=rfl;have hm:(m2 t7 (mC (.int 1)) (f7 a4F (a6 (f7 V0 (a6 (a8 2) b9)) b9))) [φ (d9 cs),ξ (.ow (.txt P)),φ (row r)]=φ (.int (pw r:Nat)):=by
      simp! [l6,d8,e8,b5,d3,b8,b6,b7,a2b,e9,AD,f4,hco',hpw]
     have htv:d4.toVal (.v (.int (pw r:Nat)))=ξ (.int (pw r:Nat)):=rfl;rw [b9K,hm,AD,htv,AD,h2,AD,hks,AD,c2O rfl (by lia)]
     rfl
    refine G4 (ρ1:=[φ (d9 cs),ξ (.ow (.txt P)),φ (row r)]) rfl (ρ2:=[φ (d9 cs),ξ (.ow (.txt (a11 P [.inr (S r)] (.int (pw r:Nat))))),φ (row r)]) ?_ ⟨_,_,rfl,b3c ho rfl,λx hx=> ?_,λx=> ?_, ?_⟩
    ·unfold a2y;simp! [f6,D8,g5,i7,AD,hin,hput]
    ·rw [a4c];split
     ·rename_i e;have:S r=S x:=by injection e with e;exact Sum.inr.inj e
      rw [b7I this]
     ·rename_i e;rcases tk x hx with h|h
      ·exact hv x h
      ·exact absurd (by rw [h]) e
    ·rw [a4c];split
     ·rename_i e;have:S r=S x:=by injection e with e;exact Sum.inr.inj e
      rw [b7I this];exact .inr rfl
     ·exact hn x
    ·have:=a8o P [.inr (S r)] (.int (pw r:Nat))
     lia
   ·rw [h0] at hin;replace hin:_=ξ (d4.v (.bool false)):=hin;refine G4 (ρ1:=[φ (d9 cs),ξ (.ow (.txt P)),φ (row r)]) rfl (ρ2:=[φ (d9 cs),ξ (.ow (.txt P)),φ (row r)]) ?_ ⟨P,_,rfl,ho,λx hx=> ?_,hn,by lia⟩
    ·unfold a2y;simp! [f6,y0,l7,g5,i7,AD,hin]
    ·rcases tk x hx with h|h
     ·exact hv x h
     ·rw [h];exact h0) ⟨[],ζ,rfl,rfl,λr h=>(by simp at h),λr=> .inl rfl,AN _⟩
 rw [AZ,List.take_length] at hv;exact⟨P,q2,⟨ho,hv⟩,e1⟩
theorem c22{cs:List (List Nat)}(hl:LVx cs)(hr:∀r∈cs,LVx r):∃T,FDx T cs/\coX pw T=v4 pw cs/\dpX T<24/\Y8 [d9 cs]=ξ (.own (C0 ptC T)):=by
 have h24:=hl.len;have hpos:0<cs.length:=List.length_pos_iff.mpr hl.ne;obtain⟨P,q2,hP,eP⟩:=b7o h24 hr;obtain⟨D,hD,eD⟩:=b7N (K:=kC) hl hP;have eD:L3 [d9 cs,tv P]=ξ (.ow (.dct D)):=eD;obtain⟨T,g1,g2,g3,g4⟩:=a7H (K:=kC) (pt:=ptC) (x0:="rows_of") (pf:=a16) (tab:=[("rows_of",a16)]) hl rfl (λc hc k _ _=>c2o (hr c hc) k) c68 (rc:=a0N) (λn=>rfl) hD 26 0 cs.length hpos (AN _) (by lia)
 rw [b1Q] at g1 g2;have hln:=b3J cs;have nds:=a79 c6o T;have lend:a2B 3 (f7 K9 (a6 (a8 0) (a6 (a8 3) (a6 (a8 2) (a6 (mC (.int 0)) (a6 (m1 y9 (a8 0)) b9)))))) [φ (d9 cs),φ (tv P),φ (A6 (AQ "rows_of")),ξ (.ow (.dct D))]=ξ (.own (C0 ptC T)):=by
  unfold a2B;show((f7 K9 (a6 (a8 0) (a6 (a8 3) (a6 (a8 2) (a6 (mC (.int 0)) (a6 (m1 y9 (a8 0)) b9)))))) [φ (d9 cs),φ (tv P),φ (A6 (AQ "rows_of")),φ (dv D)]).bind _=_;have g4':K9 [d9 cs,dv D,A6 (AQ "rows_of"),.int 0,.int (cs.length:Nat)]=ξ (.own (C0 ptC T)):=g4;have:(f7 K9 (a6 (a8 0) (a6 (a8 3) (a6 (a8 2) (a6 (mC (.int 0)) (a6 (m1 y9 (a8 0)) b9)))))) [φ (d9 cs),φ (tv P),φ (A6 (AQ "rows_of")),φ (dv D)]=ξ (.own (C0 ptC T)):=by simp! [m9,e8,b5,d3,b8,b6,b7,e9,AD,hln,g4']
  rw [this,AD];exact if_pos nds.1
 have ech:U9 [d9 cs,tv P,A6 (AQ "rows_of")]=ξ (.own (C0 ptC T)):=by
  unfold U9 a9x;simp! [b5,d3,b8,b6,b7,e9,g7,j7,a7n,f8,i6,i3,j5,AD,AG,AR,Ac,AX,Aa,AY,AS,AT,eD,a8S,lend]
 have lend2:a5O 1 (f7 U9 (a6 (a8 0) (a6 (a8 1) (a6 (mC (A6 (AQ "rows_of"))) b9)))) [φ (d9 cs),ξ (.ow (.txt P)),q2]=ξ (.own (C0 ptC T)):=by
  unfold a5O;show((f7 U9 (a6 (a8 0) (a6 (a8 1) (a6 (mC (A6 (AQ "rows_of"))) b9)))) [φ (d9 cs),φ (tv P),q2]).bind _=_;have:(f7 U9 (a6 (a8 0) (a6 (a8 1) (a6 (mC (A6 (AQ "rows_of"))) b9)))) [φ (d9 cs),φ (tv P),q2]=ξ (.own (C0 ptC T)):=by simp! [e8,b5,d3,b8,b6,b7,e9,AD,ech]
  rw [this,AD];exact if_pos nds.2
 refine⟨T,g1,g2,by lia, ?_⟩
 have hit:PyData.items? (d9 cs)=ξ (cs.map row):=rfl;have htx:∀ρ:c9,c5O ρ=ξ (.ow (.txt [])):=λ_=>rfl;unfold Y8 b7M;simp! [b5,b7,g7,j7,a7n,f8,i6,i3,j5,u9,AD,AG,AR,Ac,AX,Aa,AY,AS,AT,F8,htx,a8S,hit,eP,lend2]
section
variable {α:Type}
mutual
theorem c0M:∀{p:Px α},b5H p->2 ^ a80 p<=(X4 p).length
 | .run c k,h=>by rw [a80,b8P];exact h.1
 | .again k ps,h=>by
   have i:=b3C h.2.2.1 h.2.2.2;rw [a80,b3n,Nat.pow_succ,Nat.mul_comm];exact Nat.mul_le_mul h.1 i
theorem b3C:∀{ps:List (Px α)},ps≠[]->okX ps->2 ^ dpX ps<=(unX ps).length
 |[],h,_=>absurd rfl h
 |p::ps,_,h=>by
  have i:=c0M h.1;rw [dpX,unX,AW]
  by_cases e:ps=[]
  ·subst e;rw [dpX,Nat.max_zero]
   lia
  ·have j:=b3C e h.2;rcases Nat.le_total (a80 p) (dpX ps) with z|z
   ·rw [Nat.max_eq_right z];lia
   ·rw [Nat.max_eq_left z];lia
end
theorem b44{T:List (Px α)}{s:List α}(g:FDx T s)(h:s.length<=24):dpX T<=4:=by
 have i:=b3C g.ne g.ok;rw [g.un] at i;rcases Nat.lt_or_ge 4 (dpX T) with z|z
 ·have:2 ^ 5<=2 ^ dpX T:=Nat.pow_le_pow_right (by decide) z
  lia
 ·exact z
end
theorem c2P{α:Type}{pr:α->Nat}{s:List α}(h:LVx s)(h2:2*s.length<=24):v4 pr (s++s)<=v4 pr s+1:=by
 have e:s++s=a0e 2 s:=by rw [a6x,a6x];simp [a0e]
 have hs:LVx (a0e 2 s):=by rw [<-e];exact⟨by simp [h.ne],by rw [AW];lia⟩
 have:=a89 (pr:=pr) h (k:=2) (by decide) h2 hs
 rw [e]
 lia
def kyC(x:List (List Nat)):List m7:=x.map λr=>Sum.inr (S r)
theorem b2T:∀x:List (List Nat),Z9 (x.map row)=ξ (kyC x)
 |[]=>rfl
 |r::x=>by
  unfold kyC;rw [AG,AG,Z9,b2T x]
  rfl
def c1X(r:List Nat):Prop:=c1Z (S r)=true
theorem b8j:∀x:List (List Nat),(∀r∈x,c1X r)->(kyC x).all c6y=true
 |[],_=>rfl
 |r::x,h=>by
  unfold kyC;rw [AG,List.all_cons,χ];exact⟨h r Ak,b8j x λr hr=>h r (Al _ hr)⟩
theorem c1C{x:List (List Nat)}(h:x≠[])(ho:∀r∈x,c1X r):a49 (.v (d9 x))=ξ (kyC x):=by
 show((Z9 (x.map row)).bind λk=>if b07 k=true then ξ k else ζ)=_
 rw [b2T,AD,if_pos];unfold b07;have h0:0<(kyC x).length:=by unfold kyC;rw [AZ];exact List.length_pos_iff.mpr h
 rw [b8j x ho,Bool.and_true,Bool.or_eq_true];exact .inr (by rw [Nat.blt_eq];exact h0)
theorem c3P{x y:List (List Nat)}(h:kyC x=kyC y):x=y:=by
 unfold kyC at h
 induction x generalizing y with
 |nil=>cases y with
  |nil=>rfl
  |cons b y=>cases h
 |cons a x ih=>cases y with
  |nil=>cases h
  |cons b y=>
   rw [AG,AG] at h
   injection h with h1 h2
   rw [b7I (Sum.inr.inj h1),ih h2]
mutual
def b2m:Px (List Nat)->Wa
 | .run r k=> .rows k (a0W (fld r))
 | .again k ps=> .again k (a3h ps)
def a3h:List (Px (List Nat))->List Wa
 |[]=>[]
 |p::ps=>b2m p::a3h ps
end
mutual
theorem c4I:∀p:Px (List Nat),X2 (b2m p)=pvX ptC p/\dpV (b2m p)=a80 p
 | .run r k=>by
   rw [b2m,X2,pvX,dpV,a80,(a4a (fld r)).1];exact⟨rfl,rfl⟩
 | .again k ps=>by
   obtain⟨h1,h2⟩:=b1T ps;rw [b2m,X2,pvX,dpV,a80,h1,h2];exact⟨rfl,rfl⟩
theorem b1T:∀ps:List (Px (List Nat)),j8 (a3h ps)=C0 ptC ps/\Q0 (a3h ps)=dpX ps
 |[]=>by
  rw [a3h,j8,C0,Q0,dpX];exact⟨rfl,rfl⟩
 |p::ps=>by
  obtain⟨h1,h2⟩:=b1T ps;obtain⟨g1,g2⟩:=c4I p;rw [a3h,j8,C0,Q0,dpX,h1,h2,g1,g2];exact⟨rfl,rfl⟩
end
theorem b6d{ps:List (Px (List Nat))}(h:ps≠[]):a3h ps≠[]:=by
 cases ps with
 |nil=>exact absurd rfl h
 |cons p ps=>rw [a3h];exact λz=>nomatch z
def rOk(r:List Nat):Prop:=LVx r/\fv5 r
theorem c61{r:List Nat}(h:rOk r):gFo (a0W (fld r))/\B3 (a0W (fld r))=r/\coL (a0W (fld r))=v4 (λ_=>1) r:=by
 obtain⟨f1,f2,f3,f4⟩:=a7S h.1;obtain⟨h1,h2,h3,h4⟩:=a4a (fld r);have o:=b1R f1.ok (by rw [f1.un];exact λx hx=>c2k (h.2 x hx))
 have d:=b44 f1 h.1.len;refine⟨⟨o,b6c f1.ne,by lia,by rw [h2,f1.un];exact h.1.len⟩,by rw [h2,f1.un],by rw [h4,f2]⟩
mutual
theorem c4H:∀{p:Px (List Nat)},b5H p->(∀r∈X4 p,rOk r)->gVx (b2m p)/\unV (b2m p)=X4 p/\coV (b2m p)=a4v pw p
 | .run r k,h,g=>by
   rw [X4] at g;obtain⟨f1,f2,f3⟩:=c61 (g r (Ah.mpr ⟨0,List.mem_range.mpr h.1,rfl⟩));rw [b2m,gVx,unV,X4,coV,a4v,f2,f3];exact⟨⟨f1,h.1,h.2⟩,rfl,rfl⟩
 | .again k ps,h,g=>by
   rw [X4] at g;obtain⟨h1,h2,h3⟩:=b1S h.2.2.2 λx hx=>g x (b3V (by have:=h.1;lia) hx)
   rw [b2m,gVx,unV,X4,coV,a4v,h2,h3];exact⟨⟨⟨h.1,h.2.1⟩,b6d h.2.2.1,h1⟩,rfl,rfl⟩
theorem b1S:∀{ps:List (Px (List Nat))},okX ps->(∀r∈unX ps,rOk r)->U8 (a3h ps)/\B7 (a3h ps)=unX ps/\a1S (a3h ps)=coX pw ps
 |[],_,_=>by
  rw [a3h,U8,B7,unX,a1S,coX];exact⟨trivial,rfl,rfl⟩
 |p::ps,h,g=>by
  rw [unX] at g;obtain⟨h1,h2,h3⟩:=b1S h.2 λx hx=>g x (Au _ hx);obtain⟨g1,g2,g3⟩:=c4H h.1 λx hx=>g x (BD _ hx);rw [a3h,U8,B7,unX,a1S,coX,h2,h3,g2,g3];exact⟨⟨g1,h1⟩,rfl,rfl⟩
end
structure Cl(cs:List (List Nat)):Prop where
 lv:LVx cs
 rw:∀r∈cs,rOk r
theorem c4J{cs:List (List Nat)}(h:Cl cs):∃ws,U8 ws/\ws≠[]/\w6 ws<=24/\Q0 ws<=4/\B7 ws=cs/\a1S ws=v4 pw cs/\Y8 [d9 cs]=ξ (.own (j8 ws)):=by
 obtain⟨T,g,c,d,e⟩:=c22 h.lv λr hr=>(h.rw r hr).1;obtain⟨h1,h2,h3⟩:=b1S g.ok (by rw [g.un];exact h.rw)
 obtain⟨p1,p2⟩:=b1T T;refine⟨a3h T,h1,b6d g.ne, ?_, ?_,by rw [h2,g.un],by rw [h3,c],by rw [p1,e]⟩
 ·rw [<-a0S,h2,g.un];exact h.lv.len
 ·rw [p2];exact b44 g h.lv.len
mutual
def b9r:Wa->Px (List Nat)
 | .rows k ps=> .run (B3 ps) k
 | .again k ws=> .again k (a7U ws)
def a7U:List Wa->List (Px (List Nat))
 |[]=>[]
 |w::ws=>b9r w::a7U ws
end
theorem b49{ws:List Wa}(h:ws≠[]):a7U ws≠[]:=by
 cases ws with
 |nil=>exact absurd rfl h
 |cons p ps=>rw [a7U];exact λz=>nomatch z
mutual
theorem c08:∀{w:Wa},gVx w->X4 (b9r w)=unV w/\a4v pw (b9r w)<=coV w/\b5H (b9r w)
 | .rows k ps,h=>by
   rw [gVx] at h;have:=c07 h.1;rw [b9r,unV,X4,coV,a4v];unfold pw;exact⟨rfl,by lia,h.2⟩
 | .again k ws,h=>by
   rw [gVx] at h;obtain⟨h1,h2,h3⟩:=a83 h.2.2;rw [b9r,unV,X4,coV,a4v,h1];exact⟨rfl,by lia,h.1.1,h.1.2,b49 h.2.1,h3⟩
theorem a83:∀{ws:List Wa},U8 ws->unX (a7U ws)=B7 ws/\coX pw (a7U ws)<=a1S ws/\okX (a7U ws)
 |[],_=>by
  rw [a7U,B7,unX,a1S,coX];exact⟨rfl,AN _,trivial⟩
 |w::ws,h=>by
  rw [U8] at h;obtain⟨h1,h2,h3⟩:=a83 h.2;obtain⟨g1,g2,g3⟩:=c08 h.1;rw [a7U,B7,unX,a1S,coX,h1,g1];exact⟨rfl,by lia,g3,h3⟩
end
theorem c4K{ws:List Wa}(g:U8 ws)(ne:ws≠[])(h:Cl (B7 ws)):v4 pw (B7 ws)<=a1S ws:=by
 obtain⟨h1,h2,h3⟩:=a83 g;exact Nat.le_trans (a4M h.lv ⟨h3,b49 ne,h1⟩) h2
mutual
theorem c3T:∀{w:Wa} {n:Nat},gVx w->n∈lnV w->∃r∈unV w,r.length=n
 | .rows k ps,n,g,h=>by
   rw [gVx] at g;rw [lnV,List.mem_singleton] at h;rw [unV];exact⟨B3 ps,Ah.mpr ⟨0,List.mem_range.mpr g.2.1,rfl⟩,h.symm⟩
 | .again k ws,n,g,h=>by
   rw [gVx] at g;rw [lnV] at h;obtain⟨r,hr,e⟩:=a72 g.2.2 h;rw [unV];exact⟨r,b3V (by have:=g.1.1;lia) hr,e⟩
theorem a72:∀{ws:List Wa} {n:Nat},U8 ws->n∈R8 ws->∃r∈B7 ws,r.length=n
 |[],n,_,h=>by rw [R8] at h;cases h
 |w::ws,n,g,h=>by
  rw [U8] at g;rw [R8] at h;rw [B7];rcases Aq.mp h with h|h
  ·obtain⟨r,hr,e⟩:=c3T g.1 h;exact⟨r,BD _ hr,e⟩
  ·obtain⟨r,hr,e⟩:=a72 g.2 h;exact⟨r,Au _ hr,e⟩
end
theorem c5W{ws vs:List Wa}(g:U8 vs)(h:b9Y (R8 ws))(e:B7 vs=B7 ws)(ne:B7 ws≠[]):b9Y (R8 vs):=by
 refine⟨λz=> ?_,λx hx y hy=> ?_⟩
 ·obtain⟨l,hl⟩:=List.exists_mem_of_ne_nil _ ne;rw [<-e] at hl;have:=a2N hl;rw [z] at this;cases this
 ·obtain⟨a,ha,rfl⟩:=a72 g hx;obtain⟨b,hb,rfl⟩:=a72 g hy;rw [e] at ha hb;exact h.2 _ (a2N ha) _ (a2N hb)
theorem b8t{l:List (List Nat)}{k:Nat}(h1:l≠[])(hk:1<=k)(hz:l.length*k<=1000):a7X (.v (d9 l)) (.v (.int (k:Nat)))=φ (d9 (a0e k l)):=by
 have z:0<l.length:=List.length_pos_iff.mpr h1;have:1*k<=l.length*k:=Nat.mul_le_mul_right _ z;have:=b67 (ps:=l.map row) (k:=k) (by rw [AZ];lia) hk (by rw [AZ];lia) (by lia)
 rw [b5x] at this;exact this
theorem c0H{α:Type}{l:List α}{b:Nat}(h:b<=l.length):cut l (ξ (b:Int)) ζ=l.drop b:=by
 unfold cut;rw [HT.sIx_none,HT.sIx_nat,Nat.min_eq_left h];rw [List.take_of_length_le (by rw [List.length_drop];lia)]
theorem a8E{s:List (List Nat)}{w:Nat}(h:w<=s.length)(hl:s.length<=1000):gSl (.v (d9 s)) ζ (ξ ((w:Nat):Int))=φ (d9 (s.take w)):=by
 have:=kC.sl (l:=s) (lo:=ζ) (hi:=ξ ((w:Nat):Int)) hl;rw [b4U h] at this;exact this
theorem c2E{s:List (List Nat)}{w:Nat}(h:w<=s.length)(hl:s.length<=1000):gSl (.v (d9 s)) (ξ ((w:Nat):Int)) ζ=φ (d9 (s.drop w)):=by
 have:=kC.sl (l:=s) (lo:=ξ ((w:Nat):Int)) (hi:=ζ) hl;rw [c0H h] at this;exact this
theorem c4w{l:List (List Nat)}{i j:Nat}(hi:i<=j)(hj:j<=l.length)(hl:l.length<=1000):gSl (.v (d9 l)) (ξ ((i:Nat):Int)) (ξ ((j:Nat):Int))=φ (d9 (k9 l i j)):=by
 have:=kC.sl (l:=l) (lo:=ξ ((i:Nat):Int)) (hi:=ξ ((j:Nat):Int)) hl;rw [b7U hi hj] at this;exact this
theorem a8F{s:List (List Nat)}(h:LVx s){w:Nat}(h1:1<=w):LVx (s.take w):=by
 have hp:0<s.length:=List.length_pos_iff.mpr h.ne;refine⟨λe=> ?_, ?_⟩
 ·have:=congrArg List.length e;rw [List.length_take,Ad] at this
  lia
 ·rw [List.length_take];have:=h.len;lia
theorem c3m{s:List (List Nat)}(h:LVx s){w:Nat}(h1:w<s.length):LVx (s.drop w):=by
 refine⟨λe=> ?_, ?_⟩
 ·have:=congrArg List.length e;rw [List.length_drop] at this;simp at this
  lia
 ·rw [List.length_drop];have:=h.len;lia
def eqr(s:List (List Nat))(w:Nat):Bool:=s==a0e (s.length / w) (s.take w)
theorem c0Y{s:List (List Nat)}(h:LVx s){w:Nat}(h1:1<=w)(h2:w<s.length)(e:eqr s w=true):v4 pw s<=1+v4 pw (s.take w):=by
 have e':s=a0e (s.length / w) (s.take w):=by simpa [eqr] using e
 have hl:=congrArg List.length e';rw [a5V,List.length_take,Nat.min_eq_left (by lia)] at hl
 have hk:2<=s.length / w:=by
  rcases Nat.lt_or_ge (s.length / w) 2 with h3|h3
  ·have:s.length / w*w<=1*w:=Nat.mul_le_mul_right _ (by lia)
   lia
  ·exact h3
 have h24:=h.len;have:=a89 (pr:=pw) (a8F h h1) hk (by rw [List.length_take,Nat.min_eq_left (by lia)];lia) (by rw [<-e'];exact h)
 rwa [<-e'] at this
theorem b7Q{α:Type}{pr:α->Nat}{B:Nat}:∀s:List α,(∀c∈s,pr c<=B)->coX pr (s.map λc=> .run c 1)<=B*s.length
 |[],_=>by rw [AR,coX];exact Nat.zero_le _
 |c::s,h=>by
  have i:=b7Q s λd hd=>h d (Al _ hd);have:=h c Ak;rw [AG,coX,a4v,AU,Nat.mul_add,Nat.mul_one]
  lia
theorem b8n{α:Type}{pr:α->Nat}{B:Nat}{s:List α}(h:LVx s)(hr:∀c∈s,pr c<=B):v4 pr s<=B*s.length:=by
 obtain⟨h1,h2⟩:=b0W s;exact Nat.le_trans (a4M h ⟨h1,by simp [h.ne],h2⟩) (b7Q s hr)
theorem c7n{r:List Nat}(h:LVx r):pw r<=25:=by
 have:=b8n (pr:=λ_=>1) (B:=1) h λ_ _=>AN _;have:=h.len;unfold pw
 lia
theorem b4d{s:List (List Nat)}(hs:s≠[]):(s==a0e s.length (s.take 1))=unx s:=by
 obtain⟨c0,t,ec⟩:∃c t,s=c::t:=by
  cases s with
  |nil=>exact absurd rfl hs
  |cons a t=>exact⟨a,t,rfl⟩
 have e1:s.take 1=[c0]:=by rw [ec];rfl
 have e2:a0e s.length [c0]=AV s.length c0:=by
  rw [b0v];generalize s.length=n
  induction n with
  |zero=>rfl
  |succ n ih=>rw [Ac,List.flatten_cons,ih,Ac];rfl
 rw [e1,e2,Bool.eq_iff_iff,beq_iff_eq,a6G hs];constructor
 ·exact λe=>⟨c0,e⟩
 ·rintro⟨c,e⟩;have:c0∈s:=by rw [ec];exact Ak
  rw [e] at this;rw [(List.mem_replicate.mp this).2];exact e
theorem c1Y{r:List Nat}(h:rOk r):c1X r:=by
 have hp:0<r.length:=List.length_pos_iff.mpr h.1.ne;show(Nat.blt 0 (S r).cps.size &&(S r).cps.toList.all λc=>c==97||c==98||c==99||c==120||c==122)=true
 rw [a7A,χ];refine⟨?_,List.all_eq_true.mpr λc hc=> ?_⟩
 ·rw [Nat.blt_eq];have:=a1L r;unfold Str.length at this
  lia
 ·have:=h.2 c hc;simp only [L5,An,List.not_mem_nil,or_false] at this;simp only [Bool.or_eq_true,beq_iff_eq]
  lia
theorem b3P{x:List (List Nat)}(h:x≠[])(ho:∀r∈x,rOk r):a49 (.v (d9 x))=ξ (kyC x):=c1C h λr hr=>c1Y (ho r hr)
theorem c4X{i:Nat}{mk:M}{ρ:c9}{x:List (List Nat)}{p:PV}{D:Γ}(hx:x≠[])(ho:∀r∈x,rOk r)(h1:mk ρ=φ (d9 x))(h2:ρ[i]?=ξ (φ (dv D)))(h3:z5 D (kyC x)=ξ p):a5M i mk ρ=φ p:=by
 rw [b3U,h1,AD,b3P hx ho,AD,c0Q h2,AD,h3]
 rfl
theorem getV{i:Nat}{mk:M}{ρ:c9}{x:List (List Nat)}{p:PV}{D:Γ}(hx:x≠[])(ho:∀r∈x,rOk r)(h1:mk ρ=φ (d9 x))(h2:ρ[i]?=ξ (ξ (.ow (.dct D))))(h3:z5 D (kyC x)=ξ p):a27 i mk ρ=φ p:=by
 rw [b5q,h1,AD,b3P hx ho,AD,c0J h2 h3]
theorem c4d{s:List (List Nat)}(h:LVx s)(ho:∀r∈s,rOk r)(h2:2<=s.length){K:Γ}(hK:∀w,1<=w->w<s.length->z5 K (kyC (s.take w))=ξ (.int (v4 pw (s.take w):Nat))):∃v:Nat,E7 [d9 s,dv K]=φ (.int (v:Nat))/\v4 pw s<=v/\(unx s=false->∀w,2<=w->w<s.length->eqr s w=true->v<=1+v4 pw (s.take w)):=by
 have h24:=h.len;have hot:∀w,∀r∈s.take w,rOk r:=λw r hr=>ho r (List.mem_of_mem_take hr);have hln:=kC.len (l:=s) (by lia)
 replace hln:y9 (.v (d9 s))=_:=hln;have s1:=a8E (s:=s) (w:=1) (by lia) (by lia)
 replace s1:gSl (.v (d9 s)) ζ (ξ 1)=_:=s1;have t1:=a8F h (w:=1) (AN _);have hmu:=b8t (l:=s.take 1) (k:=s.length) t1.ne (by lia) (by rw [List.length_take,Nat.min_eq_left (by lia)];lia)
 have hu:=b4d h.ne;have hq:=b3I s (a0e s.length (s.take 1));rw [hu] at hq;have hne:gNe (.v (d9 s)) (.v (d9 (a0e s.length (s.take 1))))=φ (.bool (!unx s)):=by
  rw [a4E (x:= .v (d9 s)) (y:= .v (d9 (a0e s.length (s.take 1)))) ⟨Z6 _,Z6 _⟩] at hq;rw [b01 (x:= .v (d9 s)) (y:= .v (d9 (a0e s.length (s.take 1)))) ⟨Z6 _,Z6 _⟩];have hq:=Option.some.inj hq;injection hq with hq
  injection hq with hq
  rw [hq]
 have g0:=c4X (i:=1) (mk:=F9 (a8 0) P6 (A2 (mC (.int 1)))) (ρ:=[φ (d9 s),φ (dv K),ζ,ζ]) t1.ne (hot 1) (by simp! [e8,b5,AD,k6,k7,n8,u4,k6,n8,k7,u4,s1]) rfl (hK 1 (AN _) (by lia))
 have loop:∀v0:Nat,v4 pw s<=v0->∃(v:Nat) (q3:Υ d4),O1 D3 (g9 3) (K4 2 (s.length:Nat)) [φ (d9 s),φ (dv K),φ (.int (v0:Nat)),ζ]=ξ (.nx [φ (d9 s),φ (dv K),φ (.int (v:Nat)),q3])/\v4 pw s<=v/\∀w,2<=w->w<s.length->eqr s w=true->v<=1+v4 pw (s.take w):=by
  intro v0 hv0;obtain⟨ρ1,e1,v,q3,rfl,hlo,hup⟩:=D1 (body:=D3) (tg:=g9 3) (λk ρ=>∃(v:Nat) (q3:Υ d4),ρ=[φ (d9 s),φ (dv K),φ (.int (v:Nat)),q3]/\v4 pw s<=v/\∀w,2<=w->w<k+2->w<s.length->eqr s w=true->v<=1+v4 pw (s.take w))
   (ps:=K4 2 (s.length:Nat)) (ρ:=[φ (d9 s),φ (dv K),φ (.int (v0:Nat)),ζ])
   (by
    rintro k p hp ρ ⟨v,q3,rfl,hlo,hup⟩;obtain⟨rfl,hk⟩:=W6 hp;rw [show(2:Int)+(k:Int)=((k+2:Nat):Int) by lia] at hk ⊢
    have hkl:k+2<s.length:=by lia
    have hd:((s.length:Nat):Int)/((k+2:Nat):Int)=((s.length /(k+2):Nat):Int):=rfl;have c0:((k+2:Nat):Int)≠0:=by lia
    have hsl:=a8E (s:=s) (w:=k+2) (by lia) (by lia)
    have hle:(s.take (k+2)).length*(s.length /(k+2))<=1000:=by
     rw [List.length_take,Nat.min_eq_left (by lia)]
     have:=Nat.mul_div_le s.length (k+2)
     lia
    have hdl:1<=s.length /(k+2):=(Nat.le_div_iff_mul_le (by lia)).mpr (by lia)
    have tk:=a8F h (w:=k+2) (by lia)
    have hm:=b8t (l:=s.take (k+2)) (k:=s.length /(k+2)) tk.ne hdl hle;have hqq:=b3I s (a0e (s.length /(k+2)) (s.take (k+2)));replace hqq:X5 (.v (d9 s)) (.v (d9 (a0e (s.length /(k+2)) (s.take (k+2)))))=φ (.bool (eqr s (k+2))):=hqq;cases hr:eqr s (k+2) with
    |false=>
     rw [hr] at hqq;refine G4 (ρ1:=[φ (d9 s),φ (dv K),φ (.int (v:Nat)),φ (.int ((k+2:Nat):Int))]) rfl (ρ2:=[φ (d9 s),φ (dv K),φ (.int (v:Nat)),φ (.int ((k+2:Nat):Int))]) ?_ ⟨v,_,rfl,hlo,λw h1 h2 h3 h4=> ?_⟩
     ·unfold D3;simp! [G6,d8,m9,b5,d3,f6,y0,l7,g5,i7,AD,k6,k7,n8,u4,hln,c0,hd,k6,n8,k7,u4,hsl,hm,hqq]
     ·rcases Nat.lt_or_ge w (k+2) with h5|h5
      ·exact hup w h1 h5 h3 h4
      ·have:w=k+2:=by lia
       subst this;rw [hr] at h4;cases h4
    |true=>
     rw [hr] at hqq;have hlo2:=c0Y h (by lia) hkl hr
     have hg:=c4X (i:=1) (mk:=F9 (a8 0) P6 (A2 (a8 3))) (ρ:=[φ (d9 s),φ (dv K),φ (.int (v:Nat)),φ (.int ((k+2:Nat):Int))]) tk.ne (hot _) (by simp! [b5,d3,AD,k6,k7,n8,u4,k6,n8,k7,u4,hsl]) rfl (hK (k+2) (by lia) hkl)
     obtain⟨v',hv',hv1,hv2,hv3⟩:∃v':Nat,(if(1:Int)+(v4 pw (s.take (k+2)):Nat)<(v:Nat) then(1:Int)+(v4 pw (s.take (k+2)):Nat) else(v:Nat))=(v':Nat)/\v'<=v/\v'<=1+v4 pw (s.take (k+2))/\v4 pw s<=v':=by
      by_cases hc:(1:Int)+(v4 pw (s.take (k+2)):Nat)<(v:Nat)
      ·exact⟨1+v4 pw (s.take (k+2)),by rw [if_pos hc];lia,by lia,by lia,hlo2⟩
      ·exact⟨v,by rw [if_neg hc],AN _,by lia,hlo⟩
     refine G4 (ρ1:=[φ (d9 s),φ (dv K),φ (.int (v:Nat)),φ (.int ((k+2:Nat):Int))]) rfl (ρ2:=[φ (d9 s),φ (dv K),φ (.int (v':Nat)),φ (.int ((k+2:Nat):Int))]) ?_ ⟨v',_,rfl,hv3,λw h1 h2 h3 h4=> ?_⟩
     ·unfold D3;simp! [l6,K3,G6,d8,m9,e8,b5,d3,g7,p8,f6,D8,g5,i7,AD,AS,AT,k6,k7,n8,u4,hln,c0,hd,k6,n8,k7,u4,hsl,hm,hqq,hg,hv']
     ·rcases Nat.lt_or_ge w (k+2) with h5|h5
      ·exact Nat.le_trans hv1 (hup w h1 h5 h3 h4)
      ·have:w=k+2:=by lia
       subst this;exact hv2) ⟨v0,ζ,rfl,hv0,λw h1 h2=>by lia⟩
  rw [R9] at hup;exact⟨v,q3,e1,hlo,λw h1 h2 h3=>hup w h1 (by lia) h2 h3⟩
 have r1:a9S [.int 2,.int (s.length:Nat)]=ξ (K4 2 (s.length:Nat)):=a6y ⟨by lia,by lia,by lia⟩
 cases hb:unx s with
 |true=>
  rw [hb] at hne;have lo:v4 pw s<=1+v4 pw (s.take 1):=c0Y h (AN _) (by lia) (by
   unfold eqr;rw [Nat.div_one,hu];exact hb)
  obtain⟨v,q3,e1,hlo,_⟩:=loop _ lo;have ei:(1:Int)+(v4 pw (s.take 1):Nat)=((1+v4 pw (s.take 1):Nat):Int):=by lia
  refine⟨v, ?_,hlo,λz=>by cases z⟩
  unfold E7 a02;simp! [l6,d8,m9,e8,b5,b8,b6,b7,g7,p8,f8,i6,f6,y0,l7,i3,j5,g5,i7,u9,AD,AG,AR,Ac,AX,Aa,AY,AS,AT,Bool.not_true,k6,k7,n8,u4,Q7,Q8,g0,ei,k6,n8,k7,u4,s1,hln,hmu,hne,a17,r1,e1]
 |false=>
  rw [hb] at hne;have lo:v4 pw s<=1000000:=by
   have:=b8n (pr:=pw) (B:=25) h λr hr=>c7n (ho r hr).1
   lia
  obtain⟨v,q3,e1,hlo,hup⟩:=loop 1000000 lo;have e1':O1 D3 (g9 3) (K4 2 (s.length:Nat)) [φ (d9 s),φ (dv K),φ (.int 1000000),ζ]=_:=e1;have hp:gIc b6l (λi j=> .int (i ^ j.toNat)) (.v (.int 10)) (.v (.int 6))=φ (.int 1000000):=c1k ⟨⟨by decide,by decide⟩,by decide⟩
  refine⟨v, ?_,hlo,λ_=>hup⟩;unfold E7 a02;simp! [l6,d8,m9,e8,b5,b8,b6,b7,g7,p8,f8,i6,f6,D8,i3,j5,g5,i7,u9,AD,AG,AR,Ac,AX,Aa,AY,AS,AT,Bool.not_false,k6,k7,n8,u4,Q7,Q8,g0,k6,n8,k7,u4,s1,hln,hmu,hne,hp,a17,r1,e1']
theorem a3z{m n:MS}{ρ ρ':c9}(h:m ρ=ξ (.nx ρ')):i8 m n ρ=n ρ':=by
 rw [f8,h];rfl
theorem c1r{c:MT}{a:MS}{ρ:c9}(h:c ρ=ξ false):v5 c a n4 ρ=ξ (.nx ρ):=by
 show(c ρ).bind _=_;rw [h];rfl
def Vr(K:Γ):Prop:=∀x p,z5 K (kyC x)=ξ p->p= .int (v4 pw x:Nat)
structure KB(l:List (List Nat))(K:Γ)(w s:Nat):Prop where
 vr:Vr K
 has:∀i j,i<j->j<=l.length->(j - i<w\/(j - i=w/\i<s))->(z5 K (kyC (k9 l i j))).isSome=true
theorem KB.val{l:List (List Nat)}{K:Γ}{w s:Nat}(k:KB l K w s){i j:Nat}(h1:i<j)(h2:j<=l.length)(h3:j - i<w\/(j - i=w/\i<s)):z5 K (kyC (k9 l i j))=ξ (.int (v4 pw (k9 l i j):Nat)):=by
 obtain⟨p,hp⟩:=Option.isSome_iff_exists.mp (k.has i j h1 h2 h3);rw [hp,k.vr _ _ hp]
theorem Vr.put{K:Γ}(h:Vr K)(x:List (List Nat)):Vr (a11 K (kyC x) (.int (v4 pw x:Nat))):=λy p hp=>by
 rw [a4c] at hp;split at hp
 ·rename_i he;rw [<-c3P he];exact(Option.some.inj hp).symm
 ·exact h y p hp
theorem a8p{K:Γ}{k k':List m7}{v:PV}(h:k=k'\/(z5 K k').isSome=true):(z5 (a11 K k v) k').isSome=true:=by
 rw [a4c];split
 ·rfl
 ·rename_i e;exact h.resolve_left e
theorem c2H{l:List (List Nat)}{i j:Nat}{r:List Nat}(h:r∈k9 l i j):r∈l:=by
 unfold k9 at h;exact List.mem_of_mem_drop (List.mem_of_mem_take h)
theorem c2I{l:List (List Nat)}{i:Nat}(h:i<l.length):k9 l i (i+1)=[l[i]]:=by
 unfold k9;rw [show i+1 - i=1 by lia,List.drop_eq_getElem_cons h]
 rfl
theorem c3V(r:List Nat):v4 pw [r]=pw r:=a3X (pr:=pw) (c:=r) (k:=1) (AN _) (by decide)
theorem c3W{x:List (List Nat)}(h:LVx x)(hu:unx x=true):v4 pw x=v4 pw (x.take 1):=by
 obtain⟨c,e⟩:=(a6G h.ne).mp hu;have hp:0<x.length:=List.length_pos_iff.mpr h.ne;rw [e,a3X hp h.len,List.take_replicate,Nat.min_eq_left hp,a3X (AN _) (by decide)]
theorem b6P{l:List (List Nat)}(hl:LVx l)(ho:∀r∈l,rOk r):∃(K:Γ) (q2:Υ d4),O1 a2w (g9 2) (l.map row) [φ (d9 l),ξ (.ow (.dct [])),ζ,ζ,ζ,ζ,ζ,ζ]=ξ (.nx [φ (d9 l),ξ (.ow (.dct K)),q2,ζ,ζ,ζ,ζ,ζ])/\KB l K 2 0/\K.length<=24:=by
 have h24:=hl.len;obtain⟨ρ1,e1,K,q2,rfl,hv,hh,hn⟩:=D1 (body:=a2w) (tg:=g9 2) (λk ρ=>∃(K:Γ) (q2:Υ d4),ρ=[φ (d9 l),ξ (.ow (.dct K)),q2,ζ,ζ,ζ,ζ,ζ]/\Vr K/\(∀i,i<k->i<l.length->(z5 K (kyC (k9 l i (i+1)))).isSome=true)/\K.length<=k)
  (ps:=l.map row) (ρ:=[φ (d9 l),ξ (.ow (.dct [])),ζ,ζ,ζ,ζ,ζ,ζ])
  (by
   rintro k p hp ρ ⟨K,q2,rfl,hv,hh,hn⟩;rw [Az] at hp;obtain⟨r,hk,rfl⟩:=Option.map_eq_some_iff.mp hp;obtain⟨hlt,er⟩:=Av.mp hk;have hr:=ho r (BA hk);obtain⟨f1,f2,f3,f4⟩:=a7S hr.1;have hco:a4F [.list (C0 ptS (fld r))]=φ (.int (coX (λ_=>1) (fld r):Nat)):=b4Q 26 (fld r) (by lia)
   rw [f2] at hco;have hpw:(1:Int)+((v4 (λ_=>1) r:Nat):Int)=((v4 pw [r]:Nat):Int):=by rw [c3V];unfold pw;lia
   have hput:b1i 1 (a6 (a8 2) b9) (m2 t7 (mC (.int 1)) (f7 a4F (a6 (f7 V0 (a6 (a8 2) b9)) b9))) [φ (d9 l),ξ (.ow (.dct K)),φ (row r),ζ,ζ,ζ,ζ,ζ]=ξ (.nx [φ (d9 l),ξ (.ow (.dct (a11 K (kyC [r]) (.int (v4 pw [r]:Nat))))),φ (row r),ζ,ζ,ζ,ζ,ζ]):=by
    have hm:(m2 t7 (mC (.int 1)) (f7 a4F (a6 (f7 V0 (a6 (a8 2) b9)) b9))) [φ (d9 l),ξ (.ow (.dct K)),φ (row r),ζ,ζ,ζ,ζ,ζ]=φ (.int (v4 pw [r]:Nat)):=by
     simp! [l6,d8,e8,b5,d3,b8,b6,b7,a2b,e9,AD,f4,hco,hpw]
    have h2:(a6 (a8 2) b9) [φ (d9 l),ξ (.ow (.dct K)),φ (row r),ζ,ζ,ζ,ζ,ζ]=ξ [row r]:=by simp! [b5,d3,b8,b6,b7,AD]
    have htv:d4.toVal (.v (.int (v4 pw [r]:Nat)))=ξ (.int (v4 pw [r]:Nat)):=rfl;have hks:Z9 [row r]=ξ (kyC [r]):=rfl;unfold b1i;rw [hm,AD,htv,AD,h2,AD,if_pos (by rw [sizeLine_eq];simp),hks,AD,b0P rfl (by lia)]
    rfl
   have hpl:=a8o K (kyC [r]) (.int (v4 pw [r]:Nat));refine G4 (ρ1:=[φ (d9 l),ξ (.ow (.dct K)),φ (row r),ζ,ζ,ζ,ζ,ζ]) rfl hput ⟨_,_,rfl,hv.put [r],λi hi hi2=> ?_,by lia⟩
   rcases Nat.lt_or_ge i k with z|z
   ·exact a8p (.inr (hh i z hi2))
   ·have:i=k:=by lia
    subst this;rw [c2I hi2,er];exact a8p (.inl rfl)) ⟨[],ζ,rfl,λx p h=>(by simp [z5] at h),λi h=>(by lia),AN _⟩
 rw [AZ] at hh hn;refine⟨K,q2,e1,⟨hv,λi j h1 h2 h3=> ?_⟩,by lia⟩
 have:j=i+1:=by lia
 subst this;exact hh i (by lia) (by lia)
theorem c1F{l:List (List Nat)}(hl:LVx l)(ho:∀r∈l,rOk r){K:Γ}{w s:Nat}(hw:2<=w)(hs:s+w<=l.length)(hK:KB l K w s)(hKl:K.length<=1000)(q2 q5 q6 q7:Υ d4):
 ∃K' q5' q6' q7',V3 [φ (d9 l),ξ (.ow (.dct K)),q2,φ (.int (w:Nat)),φ (.int (s:Nat)),q5,q6,q7]=ξ (.nx [φ (d9 l),ξ (.ow (.dct K')),q2,φ (.int (w:Nat)),φ (.int (s:Nat)),q5',q6',q7'])/\KB l K' w (s+1)/\K'.length<=K.length+1:=by
 have h24:=hl.len
 have hsl:=c4w (l:=l) (i:=s) (j:=s+w) (by lia) hs (by lia)
 have hsw:((s:Nat):Int)+((w:Nat):Int)=((s+w:Nat):Int):=by lia
 have hL:=a6C hl (i:=s) (j:=s+w) (by lia) hs
 have sl:=N4 (l:=l) (i:=s) hs
 have slw:(k9 l s (s+w)).length=w:=by lia
 have hox:∀r∈k9 l s (s+w),rOk r:=λr hr=>ho r (c2H hr)
 generalize hx:k9 l s (s+w)=x at*
 have hin:a9N true 1 (a8 5) [φ (d9 l),ξ (.ow (.dct K)),q2,φ (.int (w:Nat)),φ (.int (s:Nat)),φ (d9 x),q6,q7]=φ (.bool (!(z5 K (kyC x)).isSome)):=by
  ext ac
  rw [b9J,hk,AD,b3P hL.ne hox,AD]
  rfl
 have hasS:∀{K':Γ},(z5 K' (kyC x)).isSome=true->(∀i j,i<j->j<=l.length->(j - i<w\/(j - i=w/\i<s))->(z5 K' (kyC (k9 l i j))).isSome=true)->∀i j,i<j->j<=l.length->(j - i<w\/(j - i=w/\i<s+1))->(z5 K' (kyC (k9 l i j))).isSome=true:=λ {K'} h1 h2 i j h3 h4 h5=>by
  rcases h5 with h5|⟨h5,h6⟩
  ·exact h2 i j h3 h4 (.inl h5)
  ·rcases Nat.lt_or_ge i s with h7|h7
   ·exact h2 i j h3 h4 (.inr ⟨h5,h7⟩)
   ·have e1:i=s:=by lia
    have e2:j=s+w:=by lia
    rw [e1,e2,hx];exact h1
 cases hb:(z5 K (kyC x)).isSome with
 |true=>
  rw [hb] at hin
  refine⟨K,φ (d9 x),q6,q7, ?_,⟨hK.vr,hasS hb hK.has⟩,by lia⟩
  unfold V3
  simp! [l6,d8,b5,d3,g7,p8,f8,i6,f6,y0,l7,g5,i7,AD,AS,AT,Bool.not_true,k6,k7,u4,k6,k7,u4,hsw,hsl,hin]
 |false=>
  rw [hb] at hin
  have tk:∀a,1<=a->a<w->z5 K (kyC (x.take a))=ξ (.int (v4 pw (x.take a):Nat)):=λa h1 h2=>by
   rw [<-hx,a6D (by lia)]
   exact hK.val (by lia) (by lia) (.inl (by lia))
  have dk:∀a,1<=a->a<w->z5 K (kyC (x.drop a))=ξ (.int (v4 pw (x.drop a):Nat)):=λa h1 h2=>by
   rw [<-hx,b3l (by lia)]
   exact hK.val (by lia) (by lia) (.inl (by lia))
  have hot:∀a,∀r∈x.take a,rOk r:=λa r hr=>hox r (List.mem_of_mem_take hr)
  have hod:∀a,∀r∈x.drop a,rOk r:=λa r hr=>hox r (List.mem_of_mem_drop hr)
  obtain⟨v0,ep,lo0,u2⟩:=c4d hL hox (by lia) (K:=K) (λa h1 h2=>tk a h1 (by lia))
  have ecall:b0r E7 1 (a8 5) [φ (d9 l),ξ (.ow (.dct K)),q2,φ (.int (w:Nat)),φ (.int (s:Nat)),φ (d9 x),q6,q7]=φ (.int (v0:Nat)):=by
   ext ac
   have hks:d4.toVal (.v (d9 x))=ξ (d9 x):=rfl;unfold b0r;rw [hk,AD,hks,AD];show(E7 [d9 x,dv K]).bind _=_;rw [ep,AD]
   rfl
  have s1:=a8E (s:=x) (w:=1) (by lia) (by lia)
  replace s1:gSl (.v (d9 x)) ζ (ξ 1)=_:=s1
  have t1:=a8F hL (w:=1) (AN _)
  have hmu:=kC.mul (l:=x.take 1) (k:=w) hw t1.ne (by rw [List.length_take,Nat.min_eq_left (by lia)];lia)
  replace hmu:Q4 (.v (d9 (x.take 1))) (.v (.int (w:Nat)))=φ (d9 (a0e w (x.take 1))):=hmu
  have hq:=b3I x (a0e w (x.take 1))
  have hu:=b4d hL.ne
  rw [slw] at hu
  rw [hu] at hq
  obtain⟨v1,em,lo1,y1,y2⟩:∃v1:Nat,v5 (G2 (m2 X5 (a8 5) (m2 Q4 (F9 (a8 5) P6 (A2 (mC (.int 1)))) (a8 3)))) (p7 6 (a27 1 (F9 (a8 5) P6 (A2 (mC (.int 1)))))) n4 [φ (d9 l),ξ (.ow (.dct K)),q2,φ (.int (w:Nat)),φ (.int (s:Nat)),φ (d9 x),φ (.int (v0:Nat)),q7]=ξ (.nx [φ (d9 l),ξ (.ow (.dct K)),q2,φ (.int (w:Nat)),φ (.int (s:Nat)),φ (d9 x),φ (.int (v1:Nat)),q7])/\v4 pw x<=v1/\(unx x=true->v1=v4 pw x)/\(unx x=false->∀w,2<=w->w<x.length->eqr x w=true->v1<=1+v4 pw (x.take w)):=by
   cases hb:unx x with
   |true=>
    rw [hb] at hq;have g0:=getV (i:=1) (mk:=F9 (a8 5) P6 (A2 (mC (.int 1)))) (ρ:=[φ (d9 l),ξ (.ow (.dct K)),q2,φ (.int (w:Nat)),φ (.int (s:Nat)),φ (d9 x),φ (.int (v0:Nat)),q7]) t1.ne (hot 1) (by simp! [e8,b5,d3,AD,k6,k7,n8,u4,k6,n8,k7,u4,s1]) rfl (tk 1 (AN _) (by lia))
    rw [<-c3W hL hb] at g0;refine⟨v4 pw x, ?_,AN _,λ_=>rfl,λz=>by cases z⟩
    simp! [d8,e8,b5,d3,g7,p8,f6,D8,g5,i7,AD,AS,AT,k6,k7,n8,u4,k6,n8,k7,u4,s1,hmu,hq,g0]
   |false=>
    rw [hb] at hq;refine⟨v0, ?_,lo0,(λz=>by cases z),λ_=>u2 hb⟩
    simp! [d8,e8,b5,d3,f6,y0,l7,g5,i7,AD,k6,k7,n8,u4,k6,n8,k7,u4,s1,hmu,hq]
  obtain⟨ρ1,e1,v,q7',rfl,lo,up0,up⟩:=D1 (body:=a0C) (tg:=g9 7) (λk ρ=>∃(v:Nat) (q7:Υ d4),ρ=[φ (d9 l),ξ (.ow (.dct K)),q2,φ (.int (w:Nat)),φ (.int (s:Nat)),φ (d9 x),φ (.int (v:Nat)),q7]/\v4 pw x<=v/\v<=v1/\∀a,1<=a->a<=k->a<w->v<=v4 pw (x.take a)+v4 pw (x.drop a))
   (ps:=K4 1 (w:Nat)) (ρ:=[φ (d9 l),ξ (.ow (.dct K)),q2,φ (.int (w:Nat)),φ (.int (s:Nat)),φ (d9 x),φ (.int (v1:Nat)),q7])
   (by
    rintro k p hp ρ ⟨v,q7,rfl,lo,up0,up⟩;obtain⟨rfl,hk⟩:=W6 hp;rw [show(1:Int)+(k:Int)=((k+1:Nat):Int) by lia] at hk ⊢
    have hkw:k+1<w:=by lia
    have s1':=a8E (s:=x) (w:=k+1) (by lia) (by lia)
    have s2':=c2E (s:=x) (w:=k+1) (by lia) (by lia)
    have lt:=a8F hL (w:=k+1) (by lia)
    have ld:=c3m hL (w:=k+1) (by lia)
    have g1:=getV (i:=1) (mk:=F9 (a8 5) P6 (A2 (a8 7))) (ρ:=[φ (d9 l),ξ (.ow (.dct K)),q2,φ (.int (w:Nat)),φ (.int (s:Nat)),φ (d9 x),φ (.int (v:Nat)),φ (.int ((k+1:Nat):Int))]) lt.ne (hot _) (by simp! [b5,d3,AD,k6,k7,n8,u4,k6,n8,k7,u4,s1']) rfl (tk (k+1) (by lia) hkw)
    have g2:=getV (i:=1) (mk:=F9 (a8 5) (A2 (a8 7)) P6) (ρ:=[φ (d9 l),ξ (.ow (.dct K)),q2,φ (.int (w:Nat)),φ (.int (s:Nat)),φ (d9 x),φ (.int (v:Nat)),φ (.int ((k+1:Nat):Int))]) ld.ne (hod _) (by simp! [b5,d3,AD,k6,k7,n8,u4,k6,n8,k7,u4,s2']) rfl (dk (k+1) (by lia) hkw)
    have hlo2:v4 pw x<=v4 pw (x.take (k+1))+v4 pw (x.drop (k+1)):=by
     have:=b2Y (pr:=pw) lt ld (by rw [List.take_append_drop];exact hL)
     rwa [List.take_append_drop] at this
    obtain⟨v',hv',hv1,hv2,hv3⟩:∃v':Nat,(if((v4 pw (x.take (k+1)):Nat):Int)+(v4 pw (x.drop (k+1)):Nat)<(v:Nat) then((v4 pw (x.take (k+1)):Nat):Int)+(v4 pw (x.drop (k+1)):Nat) else(v:Nat))=(v':Nat)/\v'<=v/\v'<=v4 pw (x.take (k+1))+v4 pw (x.drop (k+1))/\v4 pw x<=v':=by
     by_cases hc:((v4 pw (x.take (k+1)):Nat):Int)+(v4 pw (x.drop (k+1)):Nat)<(v:Nat)
     ·exact⟨v4 pw (x.take (k+1))+v4 pw (x.drop (k+1)),by rw [if_pos hc];lia,by lia,AN _,hlo2⟩
     ·exact⟨v,by rw [if_neg hc],AN _,by lia,lo⟩
    refine G4 (ρ1:=[φ (d9 l),ξ (.ow (.dct K)),q2,φ (.int (w:Nat)),φ (.int (s:Nat)),φ (d9 x),φ (.int (v:Nat)),φ (.int ((k+1:Nat):Int))]) rfl (ρ2:=[φ (d9 l),ξ (.ow (.dct K)),q2,φ (.int (w:Nat)),φ (.int (s:Nat)),φ (d9 x),φ (.int (v':Nat)),φ (.int ((k+1:Nat):Int))]) ?_ ⟨v',_,rfl,hv3,by lia,λa h1 h2 h3=> ?_⟩
    ·unfold a0C;simp! [l6,K3,d8,b5,d3,g7,p8,AD,AS,AT,g1,g2,hv']
    ·rcases Nat.lt_or_ge k a with h5|h5
     ·have:a=k+1:=by lia
      subst this;exact hv2
     ·exact Nat.le_trans hv1 (up a h1 h5 h3)) ⟨v1,q7,rfl,lo1,AN _,λa h1 h2=>by lia⟩
  rw [R9] at up
  have hv:v=v4 pw x:=by
   refine Nat.le_antisymm ?_ lo;cases hu:unx x with
   |true=>have:=y1 hu;lia
   |false=>
    rcases b8o (pr:=pw) hL with⟨c,k,hk,e,e1⟩|⟨k,p,hk,hp,e,e1⟩|⟨a,b,ha,hb',e,e1⟩
    ·have:unx x=true:=(a6G hL.ne).mpr ⟨c,by rw [e,List.length_replicate]⟩
     rw [hu] at this;cases this
    ·have hp':0<p.length:=List.length_pos_iff.mpr hp.ne;have hxl:x.length=k*p.length:=by rw [e,a5V]
     have h2:2*p.length<=k*p.length:=Nat.mul_le_mul_right _ hk;have ht:x.take p.length=p:=by
      obtain⟨m,rfl⟩:∃m,k=m+1:=⟨k - 1,by lia⟩
      rw [e,a6x,List.take_left]
     rcases Nat.lt_or_ge p.length 2 with h3|h3
     ·have h1:p.length=1:=by lia
      rw [h1] at ht hxl;rw [<-b4d hL.ne,ht,hxl,Nat.mul_one,<-e] at hu;simp at hu
     ·have hq:eqr x p.length=true:=by
       unfold eqr;rw [ht,hxl,Nat.mul_div_cancel _ hp',beq_iff_eq];exact e
      have:=y2 hu p.length h3 (by lia) hq
      rw [ht] at this
      lia
    ·have la:0<a.length:=List.length_pos_iff.mpr ha.ne;have lb:0<b.length:=List.length_pos_iff.mpr hb'.ne;have hxl:x.length=a.length+b.length:=by rw [e,AW]
     have:=up a.length la (by lia) (by lia)
     rw [e,List.take_left,List.drop_left] at this
     lia
  subst hv
  have hpl:=a8o K (kyC x) (.int (v4 pw x:Nat))
  have r1:a9S [.int 1,.int (w:Nat)]=ξ (K4 1 (w:Nat)):=a6y ⟨by lia,by lia,by lia⟩
  have eput:b0s 1 (a8 5) (a8 6) [φ (d9 l),ξ (.ow (.dct K)),q2,φ (.int (w:Nat)),φ (.int (s:Nat)),φ (d9 x),φ (.int (v4 pw x:Nat)),q7']=ξ (.nx [φ (d9 l),ξ (.ow (.dct (a11 K (kyC x) (.int (v4 pw x:Nat))))),q2,φ (.int (w:Nat)),φ (.int (s:Nat)),φ (d9 x),φ (.int (v4 pw x:Nat)),q7']):=by
   have h5:a8 5 [φ (d9 l),ξ (.ow (.dct K)),q2,φ (.int (w:Nat)),φ (.int (s:Nat)),φ (d9 x),φ (.int (v4 pw x:Nat)),q7']=φ (d9 x):=by simp! [b5,d3]
   have h6:a8 6 [φ (d9 l),ξ (.ow (.dct K)),q2,φ (.int (w:Nat)),φ (.int (s:Nat)),φ (d9 x),φ (.int (v4 pw x:Nat)),q7']=φ (.int (v4 pw x:Nat)):=by simp! [b5,d3]
   have htv:d4.toVal (.v (.int (v4 pw x:Nat)))=ξ (.int (v4 pw x:Nat)):=rfl;rw [b5r,h6,AD,htv,AD,h5,AD,b3P hL.ne hox,AD,b0P rfl (by lia)]
   rfl
  have fz:∀nn:MS,a0b 5 nn [φ (d9 l),ξ (.ow (.dct K)),q2,φ (.int (w:Nat)),φ (.int (s:Nat)),φ (d9 x),q6,q7]=nn [φ (d9 l),ξ (.ow (.dct K)),q2,φ (.int (w:Nat)),φ (.int (s:Nat)),φ (d9 x),q6,q7]:=λ_=>rfl
  refine⟨a11 K (kyC x) (.int (v4 pw x:Nat)),φ (d9 x),φ (.int (v4 pw x:Nat)),q7', ?_,⟨hK.vr.put x,hasS (a8p (.inl rfl)) λi j h1 h2 h3=>a8p (.inr (hK.has i j h1 h2 h3))⟩,by lia⟩
  have efor:X1 (a75 (a6 (mC (.int 1)) (a6 (a8 3) b9))) (g9 7) a0C [φ (d9 l),ξ (.ow (.dct K)),q2,φ (.int (w:Nat)),φ (.int (s:Nat)),φ (d9 x),φ (.int (v1:Nat)),q7]=ξ (.nx [φ (d9 l),ξ (.ow (.dct K)),q2,φ (.int (w:Nat)),φ (.int (s:Nat)),φ (d9 x),φ (.int (v4 pw x:Nat)),q7']):=by
   simp! [e8,b5,d3,b8,b6,b7,u9,AD,a17,r1,e1]
  unfold V3
  rw [a3z (ρ':=[φ (d9 l),ξ (.ow (.dct K)),q2,φ (.int (w:Nat)),φ (.int (s:Nat)),φ (d9 x),q6,q7]) (by simp! [l6,d8,b5,d3,g7,p8,AD,AS,AT,k6,k7,u4,k6,k7,u4,hsw,hsl])]
  have ht:G2 (a9N true 1 (a8 5)) [φ (d9 l),ξ (.ow (.dct K)),q2,φ (.int (w:Nat)),φ (.int (s:Nat)),φ (d9 x),q6,q7]=ξ true:=by simp! [g5,i7,AD,Bool.not_false,hin]
  have hif:∀a b:MS,v5 (G2 (a9N true 1 (a8 5))) a b [φ (d9 l),ξ (.ow (.dct K)),q2,φ (.int (w:Nat)),φ (.int (s:Nat)),φ (d9 x),q6,q7]=a [φ (d9 l),ξ (.ow (.dct K)),q2,φ (.int (w:Nat)),φ (.int (s:Nat)),φ (d9 x),q6,q7]:=λa b=>by
   show(G2 (a9N true 1 (a8 5)) [φ (d9 l),ξ (.ow (.dct K)),q2,φ (.int (w:Nat)),φ (.int (s:Nat)),φ (d9 x),q6,q7]).bind _=_;rw [ht];rfl
  rw [hif,a3z (ρ':=[φ (d9 l),ξ (.ow (.dct K)),q2,φ (.int (w:Nat)),φ (.int (s:Nat)),φ (d9 x),φ (.int (v0:Nat)),q7]) (by rw [fz];simp! [g7,p8,AD,AS,AT,ecall]),a3z em,a3z efor]
  exact eput
theorem c1E{l:List (List Nat)}(hl:LVx l)(ho:∀r∈l,rOk r):a1y [d9 l]=φ (.int (v4 pw l:Nat)):=by
 have h24:=hl.len;have hpos:0<l.length:=List.length_pos_iff.mpr hl.ne;have hln:=kC.len (l:=l) (by lia)
 replace hln:y9 (.v (d9 l))=_:=hln;obtain⟨K0,p2,e0,hK0,hKl0⟩:=b6P hl ho;obtain⟨ρ1,e1,K,q3,q4,q5,q6,q7,rfl,hK,hKl⟩:=D1 (body:=a2x) (tg:=g9 3) (λk ρ=>∃(K:Γ) (q3 q4 q5 q6 q7:Υ d4),ρ=[φ (d9 l),ξ (.ow (.dct K)),p2,q3,q4,q5,q6,q7]/\KB l K (k+2) 0/\K.length<=24+25*k)
  (ps:=K4 2 ((l.length:Nat)+1)) (ρ:=[φ (d9 l),ξ (.ow (.dct K0)),p2,ζ,ζ,ζ,ζ,ζ])
  (by
   rintro k p hp ρ ⟨K,q3,q4,q5,q6,q7,rfl,hK,hKl⟩;obtain⟨rfl,hk⟩:=W6 hp;rw [show(2:Int)+(k:Int)=((k+2:Nat):Int) by lia] at hk ⊢
   obtain⟨ρ2,e2,K2,q4',q5',q6',q7',rfl,hK2,hKl2⟩:=D1 (body:=V3) (tg:=g9 4) (λs ρ=>∃(K:Γ) (q4 q5 q6 q7:Υ d4),ρ=[φ (d9 l),ξ (.ow (.dct K)),p2,φ (.int ((k+2:Nat):Int)),q4,q5,q6,q7]/\KB l K (k+2) s/\K.length<=24+25*k+s)
    (ps:=K4 0 ((l.length - (k+1):Nat):Int)) (ρ:=[φ (d9 l),ξ (.ow (.dct K)),p2,φ (.int ((k+2:Nat):Int)),q4,q5,q6,q7])
    (by
     rintro s p hp ρ ⟨K,q4,q5,q6,q7,rfl,hK,hKl⟩;obtain⟨rfl,hs⟩:=W6 hp;rw [show(0:Int)+(s:Int)=(s:Int) by lia] at hs ⊢
     obtain⟨K',q5',q6',q7',e,hK',hKl'⟩:=c1F hl ho (w:=k+2) (s:=s) (by lia) (by lia) hK (by lia) p2 q5 q6 q7
     exact G4 (ρ1:=[φ (d9 l),ξ (.ow (.dct K)),p2,φ (.int ((k+2:Nat):Int)),φ (.int (s:Nat)),q5,q6,q7]) rfl e ⟨K',_,_,_,_,rfl,hK',by lia⟩) ⟨K,q4,q5,q6,q7,rfl,hK,by lia⟩
   rw [R9,show(((l.length - (k+1):Nat):Int) - 0).toNat=l.length - (k+1) by lia] at hK2 hKl2
   have hr:((l.length:Nat):Int) - ((k+2:Nat):Int)+1=((l.length - (k+1):Nat):Int):=by lia
   have r1:b8D [.int ((l.length - (k+1):Nat):Int)]=ξ (K4 0 ((l.length - (k+1):Nat):Int)):=a1r ⟨by lia,by lia⟩
   refine G4 (ρ1:=[φ (d9 l),ξ (.ow (.dct K)),p2,φ (.int ((k+2:Nat):Int)),q4,q5,q6,q7]) rfl (ρ2:=[φ (d9 l),ξ (.ow (.dct K2)),p2,φ (.int ((k+2:Nat):Int)),q4',q5',q6',q7']) ?_ ⟨K2,_,_,_,_,_,rfl,⟨hK2.vr,λi j h1 h2 h3=>hK2.has i j h1 h2 (by lia)⟩,by lia⟩
   unfold a2x;simp! [l6,K3,d8,m9,e8,b5,d3,b8,b6,b7,u9,M5,AD,hln,hr,M5,r1,e2]) ⟨K0,ζ,ζ,ζ,ζ,ζ,rfl,hK0,by lia⟩
 rw [R9] at hK;have hv:=hK.val (i:=0) (j:=l.length) hpos (AN _) (.inl (by lia))
 rw [b1Q] at hv;have r1:a9S [.int 2,.int (((l.length:Nat):Int)+1)]=ξ (K4 2 (((l.length:Nat):Int)+1)):=a6y ⟨by lia,by lia,by lia⟩
 have hg:=getV (i:=1) (mk:=a8 0) (ρ:=[φ (d9 l),ξ (.ow (.dct K)),p2,q3,q4,q5,q6,q7]) hl.ne ho (by simp! [b5]) rfl hv
 have hit:PyData.items? (d9 l)=ξ (l.map row):=rfl;unfold a1y a9A;simp! [l6,d8,m9,e8,b5,b8,b6,b7,g7,j7,u5,f8,i6,i3,j5,u9,AD,AG,AR,Ac,AX,Aa,AY,AS,AT,F8,b2Z,a8S,hit,e0,hln,a17,r1,e1,hg]
theorem b8K:∀(n:Nat) (ps:List Pa),dpL ps<n->shB l0 n (.list (x8 ps))=true
 |0,_,h=>by lia
 |n+1,ps,h=>by
  show(x8 ps).all (shT l0 (shB l0 n))=true;rw [a0M,List.all_map];refine List.all_eq_true.mpr λp hp=> ?_;have d:=a64 hp;show shT l0 (shB l0 n) (E2 p)=true;rcases a6S p with⟨c,k,rfl,ep⟩|⟨k,qs,rfl,ep⟩
  ·rw [ep];have hc:l0 (AQ "run")=false:=by decide+kernel
   show(a3m (row [c])&&(shB l0 n (.int (k:Nat))||(a3m (.int (k:Nat))&& !l0 (AQ "run"))))=true
   rw [hc];show(true &&(shB l0 n (.int (k:Nat))||(true && !false)))=true
   simp
  ·rw [dpP] at d;have:=b8K n qs (by lia)
   rw [ep];show(a3m (.int (k:Nat))&&(shB l0 n (.list (x8 qs))||_))=true
   rw [this];rfl
theorem c2B:∀(n:Nat) (ws:List Wa),U8 ws->Q0 ws+6<=n->shB l0 n (.list (j8 ws))=true
 |0,_,_,h=>by lia
 |n+1,ws,g,h=>by
  show(j8 ws).all (shT l0 (shB l0 n))=true;rw [Y0,List.all_map];refine List.all_eq_true.mpr λp hp=> ?_;have d:=b0m hp;have g1:=a6o g hp;show shT l0 (shB l0 n) (X2 p)=true;rcases c6q p with⟨k,ps,rfl,ep⟩|⟨k,qs,rfl,ep⟩
  ·rw [gVx] at g1;obtain⟨⟨a1,a2,a3,a4⟩,_⟩:=g1;have:=a8l (b0N a2 a1) a4;have:=b8K n ps (by lia)
   rw [ep];show(a3m (.int (k:Nat))&&(shB l0 n (.list (x8 ps))||_))=true
   rw [this];rfl
  ·rw [dpV] at d;rw [gVx] at g1;have:=c2B n qs g1.2.2 (by lia)
   rw [ep];show(a3m (.int (k:Nat))&&(shB l0 n (.list (j8 qs))||_))=true
   rw [this];rfl
theorem b2K:∀cs:List (List Nat),a9K (cs.map row)=true
 |[]=>rfl
 |c::cs=>by
  rw [AG];show(a3m (row c)&& a9K (cs.map row))=true;rw [b2K cs];rfl
mutual
theorem c6L:∀{w:Wa},gVx w->∀r∈unV w,r≠[]
 | .rows k ps,g,r,h=>by
   rw [gVx] at g;rw [unV] at h;obtain⟨_,_,rfl⟩:=Ah.mp h;have hp:=a6E g.1.2.1 g.1.1;exact λz=>by rw [z] at hp;cases hp
 | .again k ws,g,r,h=>by
   rw [gVx] at g;rw [unV] at h;obtain⟨x,hx,hl⟩:=List.mem_flatten.mp h;obtain⟨_,_,rfl⟩:=Ah.mp hx;exact c2V g.2.2 r hl
theorem c2V:∀{ws:List Wa},U8 ws->∀r∈B7 ws,r≠[]
 |[],_,r,h=>by rw [B7] at h;cases h
 |w::ws,g,r,h=>by
  rw [U8] at g;rw [B7] at h;rcases Aq.mp h with h|h
  ·exact c6L g.1 r h
  ·exact c2V g.2 r h
end
theorem c7c(cs:List (List Nat)):gNe (.v (d9 cs)) (.v (d9 cs))=φ (.bool false):=a0y (Z6 cs)
structure Tl(cs:List (List Nat))(ws:List Wa):Prop where
 g:U8 ws
 ne:ws≠[]
 kn:w6 ws<=24
 dp:Q0 ws<=4
 un:B7 ws=cs
 co:a1S ws=v4 pw cs
section
variable {cs:List (List Nat)}{ws:List Wa}(t:Tl cs ws)
include t
theorem Tl.isw:W2 [.list (j8 ws)]=φ (.bool true):=c1y 26 ws t.g t.ne t.kn (by have:=t.dp;lia)
theorem Tl.lun:C1 [.list (j8 ws)]=φ (d9 cs):=by
 have:C1 [.list (j8 ws)]=_:=b0q 26 ws t.g t.kn (by have:=t.dp;lia)
 rw [t.un] at this;exact this
theorem Tl.cun:a6q [.list (j8 ws)]=φ (d9 cs):=by
 have:a6q [.list (j8 ws)]=_:=c2Z 6 ws t.g t.kn (by have:=t.dp;lia)
 rw [t.un] at this;exact this
theorem Tl.pri:N1 [.list (j8 ws)]=φ (.int (v4 pw cs:Nat)):=by
 have:N1 [.list (j8 ws)]=_:=a88 26 ws t.g (by have:=t.dp;lia)
 rw [t.co] at this;exact this
theorem Tl.rd(o:b9Y (R8 ws)):∃x,Y7 [.list (j8 ws)]=φ (row x)/\left V1 [row x]=φ (.list (j8 ws)):=by
 have s1:Y7 [.list (j8 ws)]=_:=c2C 30 ws t.g t.kn (by have:=t.dp;lia)
 have hl:=c2z t.g;have k:=t.kn;have rd0:=c2l t.g t.ne (by have:=t.dp;lia) k o (by lia)
 refine⟨_,s1, ?_⟩;unfold left;rw [rd0]
 rfl
end
theorem b8N{cs:List (List Nat)}(h:Cl cs):∃ws,Tl cs ws/\Y8 [d9 cs]=ξ (.own (j8 ws)):=by
 obtain⟨ws,h1,h2,h3,h4,h5,h6,h7⟩:=c4J h;exact⟨ws,⟨h1,h2,h3,h4,h5,h6⟩,h7⟩
theorem turn{ns:List Int}(hn:ns.length<=63){i:Nat}(hi:i<2)(q2 q3 q4 q5 q6:Υ d4):∃q2' q3' q4' q5' q6',a70 [φ (.list (ns.map .int)),φ (.int (i:Nat)),q2,q3,q4,q5,q6]=ξ (.nx [φ (.list (ns.map .int)),φ (.int (i:Nat)),q2',q3',q4',q5',q6']):=by
 obtain⟨ts,g,ne,hk,o,h5,ew⟩:=b9H ns hn (a:=40*i) (by lia)
 have e1:(40:Int)*(i:Int)=((40*i:Nat):Int):=by lia
 have hd:=a8l (b0l ne g) hk;have lt:C1 [.list (j8 ts)]=φ (d9 (B7 ts)):=b0q 26 ts g hk (by lia)
 have pt:N1 [.list (j8 ts)]=φ (.int (a1S ts:Nat)):=a88 26 ts g (by lia)
 have hlen:=a0S ts;have hpos:=a5G ne g;have hne:B7 ts≠[]:=λz=>by
  rw [z] at hlen;simp at hlen
  lia
 have hin:= @a2N ts;have hle:=b61 g;have hcl:Cl (B7 ts):=⟨⟨hne,by lia⟩,λr hr=>⟨⟨c2V g r hr,hle _ (hin hr)⟩,h5 r hr⟩⟩
 have hlo:=c4K g ne hcl;obtain⟨ws,t,ef⟩:=b8N hcl;have ho:=c5W t.g o t.un hne;generalize hcs:B7 ts=cs at*;have n0:=c7c cs;have hln:y9 (.v (d9 cs))=φ (.int (cs.length:Nat)):=b3J cs;obtain⟨x,sx,rx⟩:=t.rd ho;have isw:=t.isw;have lun:=t.lun;have cun:=t.cun;have pri:=t.pri;have d1:decide (((a1S ts:Nat):Int)<(v4 pw cs:Nat))=false:=decide_eq_false (by lia)
 have b0:a2s (.v (.int (cs.length:Nat))) (.v (.int 8))=φ (.bool (decide (((cs.length:Nat):Int)<=8))):=rfl;have t4:a1N (G2 (m2 a2s (m1 y9 (a8 3)) (mC (.int 8)))) (G2 (m2 gNe (a8 5) (f7 a1y (a6 (a8 3) b9)))) [φ (.list (ns.map .int)),φ (.int (i:Nat)),φ (.list (j8 ts)),φ (d9 cs),φ (.list (j8 ws)),φ (.int (v4 pw cs:Nat)),q6]=ξ false:=by
  cases hb:decide (((cs.length:Nat):Int)<=8) with
  |true=>
   have le:=c1E hcl.lv hcl.rw;have nn:gNe (.v (.int (v4 pw cs:Nat))) (.v (.int (v4 pw cs:Nat)))=φ (.bool false):=a0y rfl;simp! [d8,m9,e8,b5,d3,b8,b6,b7,e9,g5,i7,z6,a01,AD,hln,b0,hb,le,nn]
  |false=>simp! [d8,m9,e8,b5,d3,g5,i7,z6,a4o,AD,hln,b0,hb]
 have t5:a1N (G2 (m2 a2s (m1 y9 (a8 3)) (mC (.int 8)))) (G2 (m2 (gI λi j=> .bool (decide (j<i))) (f7 N1 (a6 (f7 Y8 (a6 (m2 t7 (a8 3) (a8 3)) b9)) b9)) (m2 t7 (a8 5) (mC (.int 1))))) [φ (.list (ns.map .int)),φ (.int (i:Nat)),φ (.list (j8 ts)),φ (d9 cs),φ (.list (j8 ws)),φ (.int (v4 pw cs:Nat)),q6]=ξ false:=by
  cases hb:decide (((cs.length:Nat):Int)<=8) with
  |true=>
   have hb':=of_decide_eq_true hb;have h2:Cl (cs++cs):=⟨⟨by simp [hcl.lv.ne],by rw [AW];lia⟩,λr hr=>(Aq.mp hr).elim (hcl.rw r) (hcl.rw r)⟩
   obtain⟨w2,t2,e2⟩:=b8N h2;have p2:=t2.pri;have ad:t7 (.v (d9 cs)) (.v (d9 cs))=φ (d9 (cs++cs)):=by
    have hp:0<cs.length:=List.length_pos_iff.mpr hcl.lv.ne;show(if((cs.map row).length≠0/\(cs.map row).length≠0)/\(cs.map row).length+(cs.map row).length<=AL then ξ (d4.v (.tuple (cs.map row++cs.map row))) else ζ)=φ (.tuple ((cs++cs).map row))
    rw [if_pos (by rw [AZ,sizeLine_eq];lia),Ao]
   have tw:=c2P (pr:=pw) hcl.lv (by lia)
   have dd:decide (((v4 pw cs:Nat):Int)+1<(v4 pw (cs++cs):Nat))=false:=decide_eq_false (by lia)
   simp! [l6,K3,d8,m9,e8,b5,d3,b8,b6,b7,a2b,e9,g5,i7,z6,a01,AD,hln,b0,hb,ad,e2,p2,dd]
  |false=>simp! [d8,m9,e8,b5,d3,g5,i7,z6,a4o,AD,hln,b0,hb]
 have emid:a5I [φ (.list (ns.map .int)),φ (.int (i:Nat)),φ (.list (j8 ts)),φ (d9 cs),φ (.list (j8 ws)),q5,q6]=ξ (.nx [φ (.list (ns.map .int)),φ (.int (i:Nat)),φ (.list (j8 ts)),φ (d9 cs),φ (.list (j8 ws)),φ (.int (v4 pw cs:Nat)),q6]):=by
  unfold a5I;rw [a3z (c1r (by simp! [d8,b5,d3,b8,b6,b7,e9,G3,g5,i7,Y2,D4,P8,a34,AD,Ar,Bool.not_true,isw,lun,n0,cun])),a3z (ρ':=[φ (.list (ns.map .int)),φ (.int (i:Nat)),φ (.list (j8 ts)),φ (d9 cs),φ (.list (j8 ws)),φ (.int (v4 pw cs:Nat)),q6]) (by simp! [b5,d3,b8,b6,b7,e9,g7,p8,AD,AS,AT,pri]),a3z (c1r (by simp! [K3,d8,b5,d3,b8,b6,b7,e9,g5,i7,AD,pt,d1])),a3z (c1r t4),a3z (c1r t5),a3z (c1r (by simp! [d8,b5,d3,b8,b6,b7,e9,g5,i7,AD,sx,rx,lun,n0]))]
  rfl
 have told:∀nn:MS,b5u l0 26 4 [3] [0,1,2,3,6] [5] (f7 Y8 (a6 (a8 3) b9)) a5I nn [φ (.list (ns.map .int)),φ (.int (i:Nat)),φ (.list (j8 ts)),φ (d9 cs),q4,q5,q6]=nn [φ (.list (ns.map .int)),φ (.int (i:Nat)),φ (.list (j8 ts)),φ (d9 cs),ζ,φ (.int (v4 pw cs:Nat)),q6]:=λnn=>by
  unfold b5u;have fa:c03 [3] [φ (.list (ns.map .int)),φ (.int (i:Nat)),φ (.list (j8 ts)),φ (d9 cs),q4,q5,q6]=true:=by
   show(a9K (cs.map row)&& true)=true;rw [b2K];rfl
  rw [if_pos ⟨fa,by show 4<7;lia⟩]
  have em:f7 Y8 (a6 (a8 3) b9) [ζ,ζ,ζ,φ (d9 cs),ζ,ζ,ζ]=ξ (.own (j8 ws)):=by simp! [b5,d3,b8,b6,b7,e9,AD,ef]
  show(match f7 Y8 (a6 (a8 3) b9) [ζ,ζ,ζ,φ (d9 cs),ζ,ζ,ζ] with|some (.ow (.lst T))=>_|_=>ζ)=_
  rw [em];show(match a5I [φ (.list (ns.map .int)),φ (.int (i:Nat)),φ (.list (j8 ts)),φ (d9 cs),φ (.list (j8 ws)),q5,q6] with|some (.nx ρ5)=>_|_=>ζ)=_
  rw [emid];show(if shB l0 26 (.list (j8 ws))=true then _ else ζ)=_
  rw [if_pos (c2B 26 ws t.g (by have:=t.dp;lia))]
  rfl
 have fz2:∀nn:MS,a0b 2 nn [φ (.list (ns.map .int)),φ (.int (i:Nat)),φ (.list (j8 ts)),φ (d9 cs),q4,q5,q6]=nn [φ (.list (ns.map .int)),φ (.int (i:Nat)),φ (.list (j8 ts)),φ (d9 cs),q4,q5,q6]:=λ_=>rfl;have fz6:∀nn:MS,a0b 6 nn [φ (.list (ns.map .int)),φ (.int (i:Nat)),φ (.list (j8 ts)),φ (d9 cs),ζ,φ (.int (v4 pw cs:Nat)),ξ (.own (j8 ws))]=nn [φ (.list (ns.map .int)),φ (.int (i:Nat)),φ (.list (j8 ts)),φ (d9 cs),ζ,φ (.int (v4 pw cs:Nat)),φ (.list (j8 ws))]:=λ_=>rfl;have n2:gNe (.v (.int (v4 pw cs:Nat))) (.v (.int (v4 pw cs:Nat)))=φ (.bool false):=a0y rfl;refine⟨φ (.list (j8 ts)),φ (d9 cs),ζ,φ (.int (v4 pw cs:Nat)),φ (.list (j8 ws)), ?_⟩;unfold a70;simp! [T8,d8,e8,b5,d3,b8,b6,b7,e9,g7,p8,Z4,f8,i6,f6,y0,l7,G3,g5,i7,Y2,D4,P8,a34,AD,Ar,AS,AT,Bool.not_true,e1,ew,lt,fz2,told,ef,fz6,isw,lun,n0,pri,n2]
theorem main:∀ns:List Int,ns.length<=63->c1l [.list (ns.map .int)]=φ (.bool true):=by
 intro ns hl;obtain⟨ρ1,e1,q1,q2,q3,q4,q5,q6,rfl⟩:=D1 (body:=a70) (tg:=g9 1) (λ_ ρ=>∃(q1 q2 q3 q4 q5 q6:Υ d4),ρ=[φ (.list (ns.map .int)),q1,q2,q3,q4,q5,q6])
  (ps:=K4 0 2) (ρ:=[φ (.list (ns.map .int)),ζ,ζ,ζ,ζ,ζ,ζ])
  (by
   rintro i p hp ρ ⟨q1,q2,q3,q4,q5,q6,rfl⟩;obtain⟨rfl,hi⟩:=W6 hp;rw [Int.zero_add] at hi ⊢;obtain⟨q2',q3',q4',q5',q6',e⟩:=turn hl (i:=i) (by lia) q2 q3 q4 q5 q6
   exact G4 (ρ1:=[φ (.list (ns.map .int)),φ (.int (i:Nat)),q2,q3,q4,q5,q6]) rfl e ⟨_,_,_,_,_,_,rfl⟩) ⟨ζ,ζ,ζ,ζ,ζ,ζ,rfl⟩
 unfold c1l c4S;simp! [e8,b8,b6,b7,j7,u5,f8,i6,i3,j5,u9,M5,a1r,AD,AG,AR,Ac,AX,Aa,AY,e1]
set_option maxHeartbeats 4000000
seal L2.PE L2.PS L2.PSs L2.PT L2.PW L2.PA L2.PG L2.PGs L2.PI
def top(i:Nat):Stmt:=PySem.Challenge.pw_carpetkin_k35_whole_least_weavings.main.body.getD i (.Pass ⟨0,0,0,0⟩)
abbrev a4V:Stmt:=top 48
theorem a6U:i4 ["_law_cell"] ["_law_cell"] (d6 a4V):=mkS
theorem a77:List.Nodup (α:=Str) ["_law_fold_here","_law_parts","_law_part","_law_turn"]:=by decide+kernel
theorem a78:List.Nodup (α:=Str) ["_law_fold_here","_law_parts","_law_part","_law_turn"]:=by decide+kernel
abbrev a0O:Stmt:=top 50
theorem a1K:i4 ["_law_fold_here","_law_parts","_law_part"] ["_law_fold_here"] (d6 a0O):=mkS
abbrev a4U:Stmt:=top 49
theorem a59:i4 ["_law_cells","_law_at","_law_room","_law_deep","_law_fold_here","_law_left","_law_many","_law_turn","_law_number_here","_law_k","_law_inner"] ["_law_cells","_law_at","_law_room","_law_deep"] (d6 a4U):=mkS
abbrev a3v:Stmt:=top 47
theorem a57:i4 ["_law_script","_law_k"] ["_law_script","_law_k"] (d6 a3v):=mkS
abbrev a5Y:Stmt:=top 52
theorem a8v:i4 ["_law_script","_law_at","_law_most","_law_cells","_law_room"] ["_law_script","_law_at","_law_most"] (d6 a5Y):=mkS
abbrev a9k:Stmt:=top 55
theorem b1H:i4 ["_law_line","_law_fold_here","_law_sign"] ["_law_line"] (d6 a9k):=mkS
theorem b1l:List.Nodup (α:=Str) ["_law_script","_law_at","_law_first","_law_line","_law_found","_law_k","_law_other","_law_own","_law_c"]:=by decide+kernel
abbrev a50:Stmt:=top 56
theorem a8x:i4 ["_law_script","_law_at","_law_first","_law_line","_law_found","_law_k","_law_other","_law_own"] ["_law_script","_law_at"] (d6 a50):=mkS
abbrev a1t:Stmt:=top 58
theorem a2K:i4 ["_law_weaving_here","_law_rows","_law_part","_law_turn"] ["_law_weaving_here"] (d6 a1t):=mkS
abbrev a1u:Stmt:=top 57
theorem a2L:i4 ["_law_cells","_law_at","_law_room","_law_deep","_law_lines_here","_law_weaving_here","_law_left","_law_many","_law_turn","_law_number_here","_law_k","_law_inner"] ["_law_cells","_law_at","_law_room","_law_deep","_law_lines_here"] (d6 a1u):=mkS
abbrev a51:Stmt:=top 60
theorem a8y:i4 ["_law_script","_law_at","_law_lines_here","_law_room"] ["_law_script","_law_at"] (d6 a51):=mkS
theorem b2b:List.Nodup (α:=Str) ["things","thing"]:=by decide+kernel
abbrev a7r:Stmt:=top 16
theorem a9V:i4 ["things"] ["things"] (d6 a7r):=mkS
abbrev a5X:Stmt:=top 17
theorem a8u:i4 ["things","width"] ["things","width"] (d6 a5X):=mkS
abbrev a9j:Stmt:=top 18
theorem b1G:i4 ["things","prices","best","start","end","stretch","found","width","middle"] ["things","prices","best","start","end"] (d6 a9j):=mkS
abbrev a2F:Stmt:=top 19
theorem a5c:i4 ["things","prices","best","width","start","end"] ["things","prices"] (d6 a2F):=mkS
abbrev a38:Stmt:=top 22
theorem b3k:i4 ["colour","many"] ["colour","many"] (d6 a38):=mkS
abbrev Z0:Stmt:=top 20
theorem a1h:i4 ["things","best","part_of","start","end","choice","inner","left"] ["things","best","part_of","start","end"] (d6 Z0):=mkS
abbrev a7q:Stmt:=top 21
theorem a9U:i4 ["things","prices","part_of","best"] ["things","prices","part_of"] (d6 a7q):=mkS
theorem b5D:List.Nodup (α:=Str) ["line","prices","colour"]:=by decide+kernel
abbrev b1F:Stmt:=top 23
theorem b3j:i4 ["line","prices"] ["line"] (d6 b1F):=mkS
abbrev a19:Stmt:=top 36
theorem b1J:i4 ["row","many"] ["row","many"] (d6 a19):=mkS
abbrev W8:Stmt:=top 20
theorem a0Q:i4 ["things","best","part_of","start","end","choice","inner","left"] ["things","best","part_of","start","end"] (d6 W8):=mkS
abbrev a5W:Stmt:=top 21
theorem a8t:i4 ["things","prices","part_of","best"] ["things","prices","part_of"] (d6 a5W):=mkS
abbrev b4m:Stmt:=top 15
theorem b4o:i4 ["fold","many","part"] ["fold"] (d6 b4m):=mkS
abbrev b4n:Stmt:=top 37
theorem b54:i4 ["cloth","prices","row"] ["cloth"] (d6 b4n):=mkS
abbrev a4T:Stmt:=top 51
theorem a58:i4 ["_law_fold_here","_law_found","_law_part"] ["_law_fold_here"] (d6 a4T):=mkS
abbrev a3c:Stmt:=top 59
theorem a4Z:i4 ["_law_weaving_here","_law_found","_law_part"] ["_law_weaving_here"] (d6 a3c):=mkS
abbrev a3w:Stmt:=top 64
theorem a2I:i4 ["_law_parts","_law_part"] ["_law_parts"] (d6 a3w):=mkS
abbrev a2G:Stmt:=top 53
theorem a5d:i4 ["_law_found","_law_least_here"] ["_law_found","_law_least_here"] (d6 a2G):=mkS
abbrev a1s:Stmt:=top 54
theorem a2J:i4 ["_law_fold_here","_law_part"] ["_law_fold_here"] (d6 a1s):=mkS
abbrev W7:Stmt:=top 61
theorem a0P:i4 ["_law_weaving_here","_law_part"] ["_law_weaving_here"] (d6 W7):=mkS
theorem b2c:List.Nodup (α:=Str) ["fold","part"]:=by decide+kernel
abbrev a4X:Stmt:=top 14
theorem a6b:i4 ["fold"] ["fold"] (d6 a4X):=mkS
abbrev Z2:Stmt:=top 13
theorem a1j:i4 ["part"] ["part"] (d6 Z2):=mkS
abbrev a6B:Stmt:=top 35
theorem a7u:i4 ["weaving","cloth","part"] ["weaving"] (d6 a6B):=mkS
abbrev a1f:Stmt:=top 62
theorem a3e:i4 ["_law_cloth","_law_known","_law_found","_law_size"] ["_law_cloth","_law_known"] (d6 a1f):=mkS
abbrev a5Z:Stmt:=top 63
theorem a8w:i4 ["_law_cloth","_law_known","_law_row","_law_size","_law_low","_law_some","_law_best","_law_at"] ["_law_cloth"] (d6 a5Z):=mkS
abbrev a9m:Stmt:=top 7
theorem b1K:i4 ["text","at","first","last","end"] ["text","at","first","last"] (d6 a9m):=mkS
abbrev a3u:Stmt:=top 8
theorem a55:i4 ["text","at"] ["text","at"] (d6 a3u):=mkS
abbrev a52:Stmt:=top 9
theorem a8z:i4 ["word"] ["word"] (d6 a52):=mkS
abbrev a1g:Stmt:=top 10
theorem a3f:i4 ["word","least","most","number"] ["word","least","most"] (d6 a1g):=mkS
abbrev a7s:Stmt:=top 28
theorem a9W:i4 ["text","at","end","many"] ["text","at"] (d6 a7s):=mkS
abbrev a4R:Stmt:=top 30
theorem a54:i4 ["text","at","left","part_at","closing","found","times"] ["text","at","left","part_at","closing"] (d6 a4R):=mkS
abbrev L7:Stmt:=top 31
theorem a1J:i4 ["text","at","left","times"] ["text","at","left"] (d6 L7):=mkS
abbrev a4W:Stmt:=top 29
theorem a6a:i4 ["text","at","left","part_at","parts","found"] ["text","at","left","part_at"] (d6 a4W):=mkS
abbrev a4S:Stmt:=top 32
theorem a56:i4 ["fold","many","part"] ["fold"] (d6 a4S):=mkS
abbrev a53:Stmt:=top 33
theorem a8A:i4 ["text","found"] ["text"] (d6 a53):=mkS
abbrev a9l:Stmt:=top 41
theorem b1I:i4 ["text","at","end","fold","times"] ["text","at"] (d6 a9l):=mkS
abbrev a3b:Stmt:=top 30
theorem a4Y:i4 ["text","at","left","part_at","closing","found","times"] ["text","at","left","part_at","closing"] (d6 a3b):=mkS
abbrev a3d:Stmt:=top 29
theorem a40:i4 ["text","at","left","part_at","parts","found"] ["text","at","left","part_at"] (d6 a3d):=mkS
abbrev D0:Stmt:=top 42
theorem a0f:i4 ["text","at","left"] ["text","at","left"] (d6 D0):=mkS
abbrev a6A:Stmt:=top 43
theorem a7t:i4 ["weaving","many","part"] ["weaving"] (d6 a6A):=mkS
abbrev a12:Stmt:=top 44
theorem a3x:i4 ["weaving","lengths","part"] ["weaving"] (d6 a12):=mkS
abbrev a2H:Stmt:=top 45
theorem a5e:i4 ["text","found"] ["text"] (d6 a2H):=mkS
abbrev a1I:Stmt:=top 24
theorem a39:i4 ["many"] ["many"] (d6 a1I):=mkS
theorem a96:List.Nodup (α:=Str) ["fold","part"]:=by decide+kernel
abbrev a13:Stmt:=top 27
theorem a3y:i4 ["fold"] ["fold"] (d6 a13):=mkS
abbrev Q9:Stmt:=top 25
theorem X3:i4 ["part"] ["part"] (d6 Q9):=mkS
abbrev M1:Stmt:=top 38
theorem R0:i4 ["part"] ["part"] (d6 M1):=mkS
theorem a7g:List.Nodup (α:=Str) ["weaving","part"]:=by decide+kernel
abbrev Z1:Stmt:=top 40
theorem a1i:i4 ["weaving"] ["weaving"] (d6 Z1):=mkS
abbrev c2r:Stmt:=top 65
theorem c2s:i4 ["_law_script","_law_k","_law_told","_law_cloth","_law_found","_law_own","_law_again"] ["_law_script"] (d6 c2r):=mkS
structure MoB(K:AE)(mg:Str->Υ AA):Prop where
 Zb7:mg "all"=ζ
 Zb1:mg "bool"=ζ
 Zb2:mg "dict"=ζ
 Zb6:mg "int"=ζ
 Zaf:mg "isinstance"=ζ
 Zah:mg "len"=ζ
 Zbt:mg "list"=ζ
 Zbv:mg "min"=ζ
 Zai:mg "range"=ζ
 Zb8:mg "set"=ζ
 Zby:mg "str"=ζ
 Zbl:mg "tuple"=ζ
 nk:a8a K=true
 nl:b9R K=true
section
variable (P:AJ)(w:AH)(K:AE)(mg:Str->Υ AA)(base:Heap)
abbrev M7:Prop:=g8 P w K mg base "_law_number" ["_law_cell"] 1 G1
abbrev U3:Prop:=g8 P w K mg base "_law_unfolded" ["_law_fold_here"] 27 C5
abbrev b6r:Prop:=g8 P w K mg base "_law_fold" ["_law_cells","_law_at","_law_room","_law_deep"] 32 a7a
abbrev a1m:Prop:=g8 P w K mg base "_law_cell_at" ["_law_script","_law_k"] 1 S4
abbrev a9q:Prop:=g8 P w K mg base "_law_drawn" ["_law_script","_law_at","_law_most"] 33 a1x
abbrev b2p:Prop:=g8 P w K mg base "_law_run" ["_law_line"] 1 a3T
abbrev a9s:Prop:=g8 P w K mg base "_law_lines" ["_law_script","_law_at"] 34 a2Z
abbrev a3k:Prop:=g8 P w K mg base "_law_unwoven" ["_law_weaving_here"] 53 C1
abbrev b14:Prop:=g8 P w K mg base "_law_weaving" ["_law_cells","_law_at","_law_room","_law_deep","_law_lines_here"] 59 a3q
abbrev a9t:Prop:=g8 P w K mg base "_law_woven" ["_law_script","_law_at"] 60 a20
abbrev b0G:Prop:=g8 P w K mg base "is_alike" ["things"] 1 a2t
abbrev a9p:Prop:=g8 P w K mg base "is_repeat" ["things","width"] 1 a2Y
abbrev b2o:Prop:=g8 P w K mg base "choices" ["things","prices","best","start","end"] 2 a08
abbrev a2e:Prop:=g8 P w K mg base "best_choices" ["things","prices"] 3 L3
abbrev a2f:Prop:=g8 P w K mg base "run_of" ["colour","many"] 1 a1A
abbrev a9Y:Prop:=g8 P w K mg base "parts_between" ["things","best","part_of","start","end"] 27 M3
abbrev b0E:Prop:=g8 P w K mg base "cheapest" ["things","prices","part_of"] 28 Z8
abbrev a7B:Prop:=g8 P w K mg base "folded" ["line"] 29 V0
abbrev a3D:Prop:=g8 P w K mg base "rows_of" ["row","many"] 30 a16
abbrev a8Q:Prop:=g8 P w K mg base "parts_between" ["things","best","part_of","start","end"] 56 K9
abbrev a9o:Prop:=g8 P w K mg base "cheapest" ["things","prices","part_of"] 57 U9
abbrev c0o:Prop:=g8 P w K mg base "cost" ["fold"] 27 a4F
abbrev b7J:Prop:=g8 P w K mg base "woven" ["cloth"] 58 Y8
abbrev b0H:Prop:=g8 P w K mg base "_law_cost" ["_law_fold_here"] 27 a69
abbrev b4F:Prop:=g8 P w K mg base "_law_price" ["_law_weaving_here"] 53 N1
abbrev b13:Prop:=a8M P w K mg base "_law_emptied" ["_law_parts"] 27 l0 26
abbrev U2:Prop:=g8 P w K mg base "_law_is_count" ["_law_found","_law_least_here"] 1 L4
abbrev a6O:Prop:=g8 P w K mg base "_law_is_fold" ["_law_fold_here"] 27 a3p
abbrev a8P:Prop:=g8 P w K mg base "_law_is_weaving" ["_law_weaving_here"] 53 W2
abbrev a4m:Prop:=g8 P w K mg base "unfolded" ["fold"] 31 a2u
structure a6W(k:Nat)(J4 Zac:Λ):Prop where
 Zag:g8 P w K mg base "unfolded" ["fold"] k J4
 Zax:g8 P w K mg base "unfolded_part" ["part"] k Zac
abbrev b81:Prop:=g8 P w K mg base "unwoven" ["weaving"] 37 a6q
abbrev a3B:Prop:=g8 P w K mg base "_law_least_part" ["_law_cloth","_law_known"] 1 E7
abbrev a9r:Prop:=g8 P w K mg base "_law_least" ["_law_cloth"] 30 a1y
abbrev b2q:Prop:=g8 P w K mg base "run_end" ["text","at","first","last"] 1 a86
abbrev a3j:Prop:=g8 P w K mg base "figures_end" ["text","at"] 2 S3
abbrev a9u:Prop:=g8 P w K mg base "number_in" ["word"] 3 a21
abbrev a3C:Prop:=g8 P w K mg base "number_between" ["word","least","most"] 4 W3
abbrev Z3:Prop:=g8 P w K mg base "times_at" ["text","at"] 5 L6
abbrev b0F:Prop:=g8 P w K mg base "fold_part_at" ["text","at","left"] 47 b02
structure a4j(k:Nat)(Zae o9 A4:Λ):Prop where
 Zbi:g8 P w K mg base "again_at" ["text","at","left","part_at","closing"] k Zae
 Zat:g8 P w K mg base "fold_part_at" ["text","at","left"] k o9
 Za0:g8 P w K mg base "parts_at" ["text","at","left","part_at"] k A4
abbrev b6s:Prop:=g8 P w K mg base "parts_at" ["text","at","left","part_at"] 47 a7b
abbrev b6q:Prop:=g8 P w K mg base "knots_in" ["fold"] 17 a68
abbrev a9v:Prop:=b0C P w K mg base "read_fold" ["text"] 48 a1z
abbrev a8R:Prop:=g8 P w K mg base "rows_at" ["text","at"] 49 a6p
abbrev b4G:Prop:=g8 P w K mg base "parts_at" ["text","at","left","part_at"] 91 a5C
structure a2T(k:Nat)(Zad w8 l8:Λ):Prop where
 Zbe:g8 P w K mg base "again_at" ["text","at","left","part_at","closing"] k Zad
 Zay:g8 P w K mg base "parts_at" ["text","at","left","part_at"] k w8
 Zap:g8 P w K mg base "weaving_part_at" ["text","at","left"] k l8
abbrev a7D:Prop:=g8 P w K mg base "weaving_part_at" ["text","at","left"] 91 a7Y
abbrev b80:Prop:=g8 P w K mg base "rows_in" ["weaving"] 17 a85
abbrev b3s:Prop:=g8 P w K mg base "lengths_in" ["weaving"] 47 a4G
abbrev a5k:Prop:=b0C P w K mg base "read_weaving" ["text"] 92 V1
abbrev R3:Prop:=g8 P w K mg base "written_times" ["many"] 1 R5
abbrev a7C:Prop:=g8 P w K mg base "shown_fold" ["fold"] 31 a4H
structure a4k(k:Nat)(A8 Zab:Λ):Prop where
 Zak:g8 P w K mg base "shown_fold" ["fold"] k A8
 Zaq:g8 P w K mg base "shown_part_folds" ["part"] k Zab
structure S9(k:Nat)(Zaa u6:Λ):Prop where
 Zal:g8 P w K mg base "shown_part_weavings" ["part"] k Zaa
 Zam:g8 P w K mg base "shown_weaving" ["weaving"] k u6
abbrev a9Z:Prop:=g8 P w K mg base "shown_weaving" ["weaving"] 61 Y7
end
section
variable (P:AJ)(w:AH){K:AE}{mg:Str->Υ AA}(base:Heap)
theorem b2g(D:Df K mg "_law_number" a4V):M7 P w K mg base:=by
 exists z0,0,a6U,el1 λ_=>rfl
 exact d0 (i9 (d5 C8 (d5 G8 (d5 h9 (d5 C8 (a5 0 (pv 0)) b4) b4) b4) b4))
theorem b0f{k:Nat}(hk0:1<=k){A5:Λ}(D:Df K mg "_law_unfolded" a0O)(M:MoB K mg)(u3:g8 P w K mg base "_law_unfolded" ["_law_fold_here"] k A5):g8 P w K mg base "_law_unfolded" ["_law_fold_here"] (k+1) (k4 2 (a0s A5)):=by
 exists z0,k,a1K,el1 λ_=>rfl
 ext a
 ·exact i5 (i:=1) S.nd (N7 c7)
 ext a
 ·ext i
  ·exact rfl
  ·exact a5 0 (pv 0)
  ·exact o8 (i:=2) S.nd rfl (Or.inr rfl)
  ext k
  ·exact j0 (x9 hu) (g6 (a5 2 (pv 2)) b4) j9 (by first|rfl|exact nomark _)
  ·refine d0 ?_;refine E5 1 (pv 1) ?_;refine a4y ?_ ?_
   ·exact j9
   exists y0,["_law_turn"],["_law_fold_here","_law_parts","_law_part"],3,a77
   ·exact rfl
   ·exact b3E rfl M.Zai (a7 (g6 (a5 2 (pv 2)) b4) c7)
   intro C fp pins s H;exact g6 (a5 2 (pv 2)) b4
  refine d0 ?_;refine E5 1 (pv 1) ?_;refine a4y ?_ ?_
  ·exact j9
  exists y0,["_law_turn"],["_law_fold_here","_law_parts","_law_part"],3,a78
  ·exact rfl
  ·exact b3E rfl M.Zai (a7 (g6 (a5 2 (pv 2)) b4) c7)
  intro C fp pins s H;exact f9 u3 hr (by lia) rfl (a9 d7) (a7 (g6 (a5 2 (pv 2)) b4) c7)
 exact d0 (i9 (a4y j9 (a5 1 (pv 1))))
theorem a9a(O5:Df K mg "_law_unfolded" a0O)(M:MoB K mg):∀n:Nat,g8 P w K mg base "_law_unfolded" ["_law_fold_here"] (1+n) (R6 n):=by
 intro n
 induction n with
 |zero=>exact j6 (k:=0) O5 a1K (λ_ _ _ _ _ _=>el1 (λ_=>rfl)) λf cdv A outer s H E hr=>u7
 |succ n ih=>
  exact b0f P w base (Nat.le_add_right _ _) O5 M ih
theorem b5P{k:Nat}(hk0:27<=k){a0Z:Λ}(D:Df K mg "_law_fold" a4U)(M:MoB K mg)(t8:M7 P w K mg base)(u3:U3 P w K mg base)(a2m:g8 P w K mg base "_law_fold" ["_law_cells","_law_at","_law_room","_law_deep"] k a0Z):g8 P w K mg base "_law_fold" ["_law_cells","_law_at","_law_room","_law_deep"] (k+1) (k4 7 (a4r a0Z)):=by
 exists z0,k,a59,el4 λ_ _ _ _=>rfl
 ext a
 ·exact i5 (i:=4) S.nd (N7 c7)
 ext a
 ·exact i5 (i:=5) S.nd (a5 2 (pv 2))
 ext a
 ·exact i5 (i:=6) S.nd (d5 h9 b4 (d5 C8 (f9 t8 hr (by lia) rfl (a9 d7) (a7 (d5 h9 (g6 (a5 0 (pv 0)) (d5 C8 (a5 1 (pv 1)) (D7 z8 rfl M.Zah (by rfl) (a5 0 (pv 0))))) (a5 1 (pv 1))) c7)) b4))
 ext a
 ·refine a2o PassesOwn.never ?_ ?_ M.Zai ?_ ?_ (p9 7) ?_
  ·exact rfl
  ·exact rfl
  ·exact a7 (a5 6 (pv 6)) c7
  ·exact o8 (i:=7) S.nd rfl (Or.inl rfl)
  ext k
  ·exact j0 a2D (a5 5 (pv 5)) b4 (by first|rfl|exact nomark _)
  ·ext a
   ·exact i5 (i:=1) S.nd (d5 h9 (a5 1 (pv 1)) b4)
   ext a
   ·exact i5 (i:=8) S.nd (f9 t8 hr (by lia) rfl (a9 d7) (a7 (d5 h9 (g6 (a5 0 (pv 0)) (d5 C8 (a5 1 (pv 1)) (D7 z8 rfl M.Zah (by rfl) (a5 0 (pv 0))))) (d5 G8 b4 (a5 1 (pv 1)))) c7))
   refine d0 ?_;refine r6 (PW.pt (a4A (j0 a2D (a5 3 (pv 3)) b4 (by first|rfl|exact nomark _)) (a4A (j0 a2D (a5 5 (pv 5)) b4 (by first|rfl|exact nomark _)) (a4B (j0 (x9 hu) (d5 C8 (a5 8 (pv 8)) b4) b4 (by first|rfl|exact nomark _)))))) ?_ ?_
   ·ext a
    ·exact i5 (i:=9) S.nd (d5 h9 b4 (d5 C8 (d5 B6 (a5 8 (pv 8)) b4) (b2H (a8W rfl) rfl M.Zbv (by rfl) b4 (d5 M0 (a5 5 (pv 5)) b4))))
    ext a
    ·refine c00 (is:=[10,1]) ?_ ?_ ?_
     ·exact rfl
     ·exact f9 a2m hr (by lia) rfl (a9 (a9 (a9 (a9 d7)))) (a7 (a5 0 (pv 0)) (a7 (d5 h9 (a5 1 (pv 1)) b4) (a7 (d5 B6 (a5 5 (pv 5)) (a5 9 (pv 9))) (a7 (d5 M0 (a5 3 (pv 3)) b4) c7))))
     exact a8k (o8 (i:=10) S.nd rfl (Or.inl rfl)) (a8k (o8 (i:=1) S.nd rfl (Or.inl rfl)) b8x)
    ext a
    ·exact E5 4 (pv 4) (B1 (a7 j9 (a7 (a5 9 (pv 9)) (a7 (a5 10 (pv 10)) c7))))
    exact d0 (i5 (i:=5) S.nd (d5 M0 (a5 5 (pv 5)) (d5 G8 (a5 9 (pv 9)) (D7 z8 rfl M.Zah (by rfl) (f9 u3 hr (by lia) rfl (a9 d7) (a7 (a5 10 (pv 10)) c7))))))
   ext a
   ·refine i5 (i:=9) ?_ ?_
    ·exact S.nd
    exact d5 h9 b4 (d5 C8 (d5 B6 (a5 8 (pv 8)) b4) (b2H (a8W rfl) rfl M.Zbv (by rfl) (a5 5 (pv 5)) (d5 h9 b4 (d5 G8 b4 (d5 B6 (d5 C8 (d5 B6 (a5 8 (pv 8)) b4) b4) b4)))))
   exact c8 (E5 4 (pv 4) (B1 (a7 j9 (a7 (g6 j9 (d5 C8 (d5 B6 (a5 8 (pv 8)) b4) b4)) (a7 (a5 9 (pv 9)) c7))))) (d0 (i5 (i:=5) S.nd (d5 M0 (a5 5 (pv 5)) (a5 9 (pv 9)))))
  exact m8
 exact d0 (a1G 4 (i9 (B1 (a7 (a5 4 (pv 4)) (a7 (a5 1 (pv 1)) c7)))))
theorem b30(a4h:Df K mg "_law_fold" a4U)(M:MoB K mg)(t8:M7 P w K mg base)(u3:U3 P w K mg base):∀n:Nat,g8 P w K mg base "_law_fold" ["_law_cells","_law_at","_law_room","_law_deep"] (27+n) (Q5 n):=by
 intro n
 induction n with
 |zero=>exact j6 (k:=26) a4h a59 (λ_ _ _ _ _ _=>el4 (λ_ _ _ _=>rfl)) λf cdv A outer s H E hr=>u7
 |succ n ih=>
  exact b5P P w base (Nat.le_add_right _ _) a4h M t8 u3 ih
theorem b1p(D:Df K mg "_law_cell_at" a3v)(M:MoB K mg):a1m P w K mg base:=by
 exists z0,0,a57,el2 λ_ _=>rfl
 exact c8 (r6 (j0 b4f (a5 1 (pv 1)) (D7 z8 rfl M.Zah (by rfl) (a5 0 (pv 0))) (by first|rfl|exact nomark _)) (d0 (i9 (g6 (a5 0 (pv 0)) (a5 1 (pv 1))))) m8) (d0 (i9 b4))
theorem b35(D:Df K mg "_law_drawn" a5Y)(a2m:b6r P w K mg base)(t8:M7 P w K mg base)(N5:a1m P w K mg base):a9q P w K mg base:=by
 exists z0,32,a8v,el3 λ_ _ _=>rfl
 ext a
 ·exact i5 (i:=3) S.nd (d5 h9 (J8 (a5 0 (pv 0)) (G0 (a5 1 (pv 1))) a0x) (N7 (a7 b4 c7)))
 ext a
 ·refine i5 (i:=4) ?_ ?_
  ·exact S.nd
  refine g6 ?_ ?_
  ·exact N7 (a7 (a5 2 (pv 2)) (a7 (a5 2 (pv 2)) (a7 (d5 B6 (a5 2 (pv 2)) b4) (a7 b4 c7))))
  exact d5 C8 (d5 B6 (f9 t8 hr (by decide) rfl (a9 d7) (a7 (f9 N5 hr (by decide) rfl (a9 (a9 d7)) (a7 (a5 0 (pv 0)) (a7 (a5 1 (pv 1)) c7))) c7)) b4) b4
 exact d0 (a1G 3 (i9 (g6 (f9 a2m hr (by decide) rfl (a9 (a9 (a9 (a9 d7)))) (a7 (a5 3 (pv 3)) (a7 b4 (a7 (a5 4 (pv 4)) (a7 b4 c7))))) b4)))
theorem b7d(D:Df K mg "_law_run" a9k):b2p P w K mg base:=by
 exists z0,0,b1H,el1 λ_=>rfl
 ext a
 ·exact i5 (i:=1) S.nd (N7 c7)
 ext a
 ·refine c3t PassesOwn.never ?_ (b70 (a5 0 (pv 0))) ?_ (p9 2) ?_
  ·exact rfl
  ·ext m
  refine d0 ?_;refine r6 (PW.pt (a4A (j0 (V4 hu) (a5 1 (pv 1)) (N7 c7) (by first|rfl|exact nomark _)) (a4B (j0 (x9 hu) (g6 (g6 (a5 1 (pv 1)) (b6I b4)) b4) (a5 2 (pv 2)) (by first|rfl|exact nomark _))))) ?_ ?_
  ·exact d0 (c0Z 1 (pv 1) (b6I b4) (B1 (a7 j9 (a7 (a5 2 (pv 2)) (a7 (d5 h9 (g6 (g6 (a5 1 (pv 1)) (b6I b4)) b4) b4) c7)))))
  exact d0 (E5 1 (pv 1) (B1 (a7 j9 (a7 (a5 2 (pv 2)) (a7 b4 c7)))))
 exact d0 (T6 1 (pv 1))
theorem b37(D:Df K mg "_law_lines" a50)(M:MoB K mg)(a2W:a9q P w K mg base)(u3:U3 P w K mg base)(t8:M7 P w K mg base)(a8Y:b2p P w K mg base)(N5:a1m P w K mg base):a9s P w K mg base:=by
 exists z0,33,a8x,el2 λ_ _=>rfl
 ext a
 ·exact i5 (i:=2) S.nd (f9 a2W hr (by decide) rfl (a9 (a9 (a9 d7))) (a7 (a5 0 (pv 0)) (a7 (a5 1 (pv 1)) (a7 b4 c7))))
 ext a
 ·exact i5 (i:=3) S.nd (f9 u3 hr (by decide) rfl (a9 d7) (a7 (a5 2 (pv 2)) c7))
 ext a
 ·exact i5 (i:=4) S.nd (N7 (a7 (B1 (a7 (a5 3 (pv 3)) (a7 (a5 2 (pv 2)) c7))) c7))
 ext a
 ·refine a2o PassesOwn.never ?_ ?_ M.Zai ?_ ?_ (p9 5) ?_
  ·exact rfl
  ·exact rfl
  ·refine a7 ?_ ?_
   ·exact d5 h9 b4 (d5 C8 (f9 t8 hr (by decide) rfl (a9 d7) (a7 (f9 N5 hr (by decide) rfl (a9 (a9 d7)) (a7 (a5 0 (pv 0)) (a7 (d5 h9 (a5 1 (pv 1)) b4) c7))) c7)) b4)
   exact c7
  ·exact o8 (i:=5) S.nd rfl (Or.inl rfl)
  ext a
  ·refine i5 (i:=6) ?_ ?_ ?_ (Or.inr rfl)
   ·exact S.nd
   ·refine f9 u3 hr ?_ ?_ ?_ ?_
    ·decide
    ·exact rfl
    ·exact a9 d7
    exact a7 (f9 a2W hr (by decide) rfl (a9 (a9 (a9 d7))) (a7 (a5 0 (pv 0)) (a7 (d5 h9 (d5 h9 (a5 1 (pv 1)) b4) (d5 G8 b4 (a5 5 (pv 5)))) (a7 b4 c7)))) c7
   exact rfl
  ext a
  ·refine i5 (i:=7) ?_ ?_
   ·exact S.nd
   refine a4y ?_ ?_
   ·exact j9
   exists y0,["_law_c"],["_law_script","_law_at","_law_first","_law_line","_law_found","_law_k","_law_other","_law_own"],8,b1l
   ·exact rfl
   ·exact b3E rfl M.Zai (a7 (D7 z8 rfl M.Zah (by rfl) (a5 3 (pv 3))) c7)
   intro C fp pins s H;exact g6 (a5 6 (pv 6)) (d5 C8 (a5 8 (pv 8)) (D7 z8 rfl M.Zah (by rfl) (a5 6 (pv 6))))
  exact d0 (E5 4 (pv 4) (B1 (a7 (a5 7 (pv 7)) (a7 (f9 a8Y hr (by decide) rfl (a9 d7) (a7 (a5 7 (pv 7)) c7)) c7))))
 exact d0 (T6 4 (pv 4))
theorem b1s{k:Nat}(hk0:27<=k){K5:Λ}(D:Df K mg "_law_unwoven" a1t)(M:MoB K mg)(u3:U3 P w K mg base)(A0:g8 P w K mg base "_law_unwoven" ["_law_weaving_here"] k K5):g8 P w K mg base "_law_unwoven" ["_law_weaving_here"] (k+1) (k4 3 (a1o K5)):=by
 exists z0,k,a2K,el1 λ_=>rfl
 ext a
 ·exact i5 (i:=1) S.nd (N7 c7)
 ext a
 ·ext i
  ·exact rfl
  ·exact a5 0 (pv 0)
  ·ext m
  refine d0 ?_;refine a2o PassesOwn.never ?_ ?_ M.Zai ?_ ?_ (p9 3) ?_
  ·exact rfl
  ·exact rfl
  ·exact a7 (g6 (a5 2 (pv 2)) b4) c7
  ·exact o8 (i:=3) S.nd rfl (Or.inl rfl)
  ext k
  ·exact j0 (x9 hu) (g6 (a5 2 (pv 2)) b4) j9 (by first|rfl|exact nomark _)
  ·exact d0 (E5 1 (pv 1) (f9 u3 hr (by lia) rfl (a9 d7) (a7 (g6 (a5 2 (pv 2)) b4) c7)))
  exact d0 (i5 (i:=1) S.nd (d5 h9 (a5 1 (pv 1)) (a9J (b4R rfl) rfl M.Zbt (by rfl) (f9 A0 hr (by lia) rfl (a9 d7) (a7 (g6 (a5 2 (pv 2)) b4) c7)))))
 exact d0 (i9 (a9J c0F rfl M.Zbl (by rfl) (a5 1 (pv 1))))
theorem b0a(X6:Df K mg "_law_unwoven" a1t)(M:MoB K mg)(u3:U3 P w K mg base):∀n:Nat,g8 P w K mg base "_law_unwoven" ["_law_weaving_here"] (27+n) (O8 n):=by
 intro n
 induction n with
 |zero=>exact j6 (k:=26) X6 a2K (λ_ _ _ _ _ _=>el1 (λ_=>rfl)) λf cdv A outer s H E hr=>u7
 |succ n ih=>
  exact b1s P w base (Nat.le_add_right _ _) X6 M u3 ih
theorem b1t{k:Nat}(hk0:53<=k){S1:Λ}(D:Df K mg "_law_weaving" a1u)(M:MoB K mg)(t8:M7 P w K mg base)(A0:a3k P w K mg base)(X8:g8 P w K mg base "_law_weaving" ["_law_cells","_law_at","_law_room","_law_deep","_law_lines_here"] k S1):g8 P w K mg base "_law_weaving" ["_law_cells","_law_at","_law_room","_law_deep","_law_lines_here"] (k+1) (k4 7 (a1p S1)):=by
 exists z0,k,a2L,el5 λ_ _ _ _ _=>rfl
 ext a
 ·exact i5 (i:=5) S.nd (N7 c7)
 ext a
 ·exact i5 (i:=6) S.nd (a5 2 (pv 2))
 ext a
 ·refine i5 (i:=7) ?_ ?_
  ·exact S.nd
  exact d5 h9 b4 (d5 C8 (f9 t8 hr (by lia) rfl (a9 d7) (a7 (d5 h9 (g6 (a5 0 (pv 0)) (d5 C8 (a5 1 (pv 1)) (D7 z8 rfl M.Zah (by rfl) (a5 0 (pv 0))))) (d5 G8 b4 (a5 1 (pv 1)))) c7)) b4)
 ext a
 ·refine a2o PassesOwn.never ?_ ?_ M.Zai ?_ ?_ (p9 8) ?_
  ·exact rfl
  ·exact rfl
  ·exact a7 (a5 7 (pv 7)) c7
  ·exact o8 (i:=8) S.nd rfl (Or.inl rfl)
  ext k
  ·exact j0 a2D (a5 6 (pv 6)) b4 (by first|rfl|exact nomark _)
  ·ext a
   ·exact i5 (i:=1) S.nd (d5 h9 (a5 1 (pv 1)) b4)
   ext a
   ·exact i5 (i:=9) S.nd (f9 t8 hr (by lia) rfl (a9 d7) (a7 (d5 h9 (g6 (a5 0 (pv 0)) (d5 C8 (a5 1 (pv 1)) (D7 z8 rfl M.Zah (by rfl) (a5 0 (pv 0))))) (d5 G8 b4 (a5 1 (pv 1)))) c7))
   refine d0 ?_;refine r6 (PW.pt (a4A (j0 a2D (a5 3 (pv 3)) b4 (by first|rfl|exact nomark _)) (a4A (j0 a2D (a5 6 (pv 6)) b4 (by first|rfl|exact nomark _)) (a4B (j0 (x9 hu) (d5 C8 (a5 9 (pv 9)) b4) b4 (by first|rfl|exact nomark _)))))) ?_ ?_
   ·ext a
    ·exact i5 (i:=10) S.nd (d5 h9 b4 (d5 C8 (d5 B6 (a5 9 (pv 9)) b4) (b2H (a8W rfl) rfl M.Zbv (by rfl) b4 (d5 M0 (a5 6 (pv 6)) b4))))
    ext a
    ·refine c00 (is:=[11,1]) ?_ ?_ ?_
     ·exact rfl
     ·refine f9 X8 hr ?_ ?_ ?_ ?_
      ·lia
      ·exact rfl
      ·exact a9 (a9 (a9 (a9 (a9 d7))))
      exact a7 (a5 0 (pv 0)) (a7 (d5 h9 (a5 1 (pv 1)) b4) (a7 (d5 B6 (a5 6 (pv 6)) (a5 10 (pv 10))) (a7 (d5 M0 (a5 3 (pv 3)) b4) (a7 (a5 4 (pv 4)) c7))))
     exact a8k (o8 (i:=11) S.nd rfl (Or.inl rfl)) (a8k (o8 (i:=1) S.nd rfl (Or.inl rfl)) b8x)
    ext a
    ·exact E5 5 (pv 5) (B1 (a7 j9 (a7 (a5 10 (pv 10)) (a7 (a5 11 (pv 11)) c7))))
    exact d0 (i5 (i:=6) S.nd (d5 M0 (a5 6 (pv 6)) (d5 G8 (a5 10 (pv 10)) (D7 z8 rfl M.Zah (by rfl) (f9 A0 hr (by lia) rfl (a9 d7) (a7 (a5 11 (pv 11)) c7))))))
   ext a
   ·refine i5 (i:=10) ?_ ?_
    ·exact S.nd
    exact d5 h9 b4 (d5 C8 (d5 B6 (a5 9 (pv 9)) b4) (b2H (a8W rfl) rfl M.Zbv (by rfl) (a5 6 (pv 6)) (d5 h9 b4 (d5 G8 b4 (d5 B6 (d5 C8 (d5 B6 (a5 9 (pv 9)) b4) b4) b4)))))
   ext a
   ·exact E5 5 (pv 5) (B1 (a7 j9 (a7 (a5 10 (pv 10)) (a7 (g6 (g6 (a5 4 (pv 4)) (d5 C8 (d5 B6 (a5 9 (pv 9)) b4) (D7 z8 rfl M.Zah (by rfl) (a5 4 (pv 4))))) b4) c7))))
   exact d0 (i5 (i:=6) S.nd (d5 M0 (a5 6 (pv 6)) (a5 10 (pv 10))))
  exact m8
 exact d0 (a1G 5 (i9 (B1 (a7 (a5 5 (pv 5)) (a7 (a5 1 (pv 1)) c7)))))
theorem b0b(a1l:Df K mg "_law_weaving" a1u)(M:MoB K mg)(t8:M7 P w K mg base)(A0:a3k P w K mg base):∀n:Nat,g8 P w K mg base "_law_weaving" ["_law_cells","_law_at","_law_room","_law_deep","_law_lines_here"] (53+n) (G7 n):=by
 intro n
 induction n with
 |zero=>exact j6 (k:=52) a1l a2L (λ_ _ _ _ _ _=>el5 (λ_ _ _ _ _=>rfl)) λf cdv A outer s H E hr=>u7
 |succ n ih=>
  exact b1t P w base (Nat.le_add_right _ _) a1l M t8 A0 ih
theorem b39(D:Df K mg "_law_woven" a51)(a5u:a9s P w K mg base)(X8:b14 P w K mg base)(t8:M7 P w K mg base)(N5:a1m P w K mg base):a9t P w K mg base:=by
 exists z0,59,a8y,el2 λ_ _=>rfl
 ext a
 ·exact i5 (i:=2) S.nd (f9 a5u hr (by decide) rfl (a9 (a9 d7)) (a7 (a5 0 (pv 0)) (a7 (a5 1 (pv 1)) c7)))
 ext a
 ·refine i5 (i:=3) ?_ ?_
  ·exact S.nd
  refine g6 ?_ ?_
  ·exact N7 (a7 b4 (a7 b4 (a7 b4 (a7 b4 c7))))
  exact d5 C8 (d5 B6 (f9 t8 hr (by decide) rfl (a9 d7) (a7 (f9 N5 hr (by decide) rfl (a9 (a9 d7)) (a7 (a5 0 (pv 0)) (a7 (d5 h9 (a5 1 (pv 1)) b4) c7))) c7)) b4) b4
 refine d0 ?_;refine a1G 2 ?_;refine i9 ?_;refine g6 ?_ ?_
 ·refine f9 X8 hr ?_ ?_ ?_ ?_
  ·decide
  ·exact rfl
  ·exact a9 (a9 (a9 (a9 (a9 d7))))
  exact a7 (d5 h9 (J8 (a5 0 (pv 0)) (G0 (a5 1 (pv 1))) a0x) (N7 (a7 b4 c7))) (a7 b4 (a7 (a5 3 (pv 3)) (a7 b4 (a7 (a5 2 (pv 2)) c7))))
 exact b4
theorem b5M(D:Df K mg "is_alike" a7r)(M:MoB K mg):b0G P w K mg base:=by
 exists z0,0,a9V,el1 λ_=>rfl
 refine d0 ?_;refine i9 ?_;refine D7 (c5m rfl) ?_ M.Zb7 ?_ ?_
 ·exact rfl
 ·rfl
 refine a2X (ys:=["thing"]) (N0:=["things"]) (λ_ _ h=>h) ?_ ⟨by kernel_rfl,rfl,δ rfl,δ rfl,δ rfl⟩ (EIF.ei (c3q (a5 0 (pv 0)))) (λC fp pins s H=>o8 (i:=1) b2b rfl (Or.inl rfl)) (λn h=>V5 (i:=1) (Nat.le_of_eq h)) (λC fp pins s H=>a5y) ?_
 ·exact rfl
 intro C fp pins s H;exact b3D (x9 hu) (a5 1 (pv 1)) (g6 (a5 0 (pv 0)) b4) (by first|rfl|exact nomark _)
theorem b34(D:Df K mg "is_repeat" a5X)(M:MoB K mg):a9p P w K mg base:=by
 exists z0,0,a8u,el2 λ_ _=>rfl
 refine d0 ?_;refine i9 ?_;refine b6G ?_ ?_
 ·exact b3D (x9 hu) (d5 C8 (D7 z8 rfl M.Zah (by rfl) (a5 0 (pv 0))) (a5 1 (pv 1))) b4 (by first|rfl|exact nomark _)
 exact c0S (b3D (x9 hu) (a5 0 (pv 0)) (d5 G8 (J8 (a5 0 (pv 0)) a0x (G0 (a5 1 (pv 1)))) (d5 B6 (D7 z8 rfl M.Zah (by rfl) (a5 0 (pv 0))) (a5 1 (pv 1)))) (by first|rfl|exact nomark _))
theorem b7c(D:Df K mg "choices" a9j)(M:MoB K mg)(a62:b0G P w K mg base)(a5s:a9p P w K mg base):b2o P w K mg base:=by
 exists z0,1,b1G,el5 λ_ _ _ _ _=>rfl
 ext a
 ·exact i5 (i:=5) S.nd (J8 (a5 0 (pv 0)) (G0 (a5 3 (pv 3))) (G0 (a5 4 (pv 4))))
 ext a
 ·exact i5 (i:=6) S.nd (N7 c7)
 ext a
 ·refine a1G 5 ?_;refine r6 ?_ ?_ ?_
  ·exact E6 (f9 a62 hr (by decide) rfl (a9 d7) (a7 (a5 5 (pv 5)) c7))
  ·exact d0 (E5 6 (pv 6) (B1 (a7 (c0T 1 hu (pv 1) (g6 (a5 5 (pv 5)) b4)) (a7 j9 (a7 (d5 M0 (a5 4 (pv 4)) (a5 3 (pv 3))) c7)))))
  exact m8
 ext a
 ·refine a3P PassesOwn.never ?_ ?_ M.Zai ?_ ?_ (p9 7) ?_
  ·exact rfl
  ·exact rfl
  ·exact a7 b4 (a7 (d5 h9 (d5 B6 (d5 M0 (a5 4 (pv 4)) (a5 3 (pv 3))) b4) b4) c7)
  ·exact o8 (i:=7) S.nd rfl (Or.inl rfl)
  refine d0 ?_;refine a1G 5 ?_;refine r6 ?_ ?_ ?_
  ·exact E6 (f9 a5s hr (by decide) rfl (a9 (a9 d7)) (a7 (a5 5 (pv 5)) (a7 (a5 7 (pv 7)) c7)))
  ·exact d0 (E5 6 (pv 6) (B1 (a7 (d5 h9 b4 (g6 (a5z 2 hu (pv 2) (a7 (a5 3 (pv 3)) (a7 (d5 h9 (a5 3 (pv 3)) (a5 7 (pv 7))) c7))) b4)) (a7 j9 (a7 (a5 7 (pv 7)) c7)))))
  exact m8
 ext a
 ·refine a3P PassesOwn.never ?_ ?_ M.Zai ?_ ?_ (p9 8) ?_
  ·exact rfl
  ·exact rfl
  ·exact a7 (d5 h9 (a5 3 (pv 3)) b4) (a7 (a5 4 (pv 4)) c7)
  ·exact o8 (i:=8) S.nd rfl (Or.inl rfl)
  refine d0 ?_;refine E5 6 (pv 6) ?_;exact B1 (a7 (d5 h9 (g6 (a5z 2 hu (pv 2) (a7 (a5 3 (pv 3)) (a7 (a5 8 (pv 8)) c7))) b4) (g6 (a5z 2 hu (pv 2) (a7 (a5 8 (pv 8)) (a7 (a5 4 (pv 4)) c7))) b4)) (a7 j9 (a7 (a5 8 (pv 8)) c7)))
 exact d0 (T6 6 (pv 6))
theorem b0c(D:Df K mg "best_choices" a2F)(M:MoB K mg)(a8X:b2o P w K mg base):a2e P w K mg base:=by
 exists z0,2,a5c,el2 λ_ _=>rfl
 ext a
 ·exact i5 (i:=2) S.nd b7Z
 ext a
 ·refine a3P PassesOwn.never ?_ ?_ M.Zai ?_ ?_ (p9 3) ?_
  ·exact rfl
  ·exact rfl
  ·exact a7 b4 (a7 (d5 h9 (D7 z8 rfl M.Zah (by rfl) (a5 0 (pv 0))) b4) c7)
  ·exact o8 (i:=3) S.nd rfl (Or.inl rfl)
  refine d0 ?_;refine a2o PassesOwn.never ?_ ?_ M.Zai ?_ ?_ (p9 4) ?_
  ·exact rfl
  ·exact rfl
  ·exact a7 (d5 h9 (d5 M0 (D7 z8 rfl M.Zah (by rfl) (a5 0 (pv 0))) (a5 3 (pv 3))) b4) c7
  ·exact o8 (i:=4) S.nd rfl (Or.inl rfl)
  ext a
  ·exact i5 (i:=5) S.nd (d5 h9 (a5 4 (pv 4)) (a5 3 (pv 3)))
  refine d0 ?_;refine b71 2 ?_ (pv 2) ?_ ?_
  ·exact hu
  ·exact a7 (a5 4 (pv 4)) (a7 (a5 5 (pv 5)) c7)
  refine D7 (c3g hu rfl) ?_ M.Zbv ?_ ?_
  ·exact rfl
  ·rfl
  exact b0R 2 (f9 a8X hr (by decide) rfl (a9 (a9 (a9 (a9 (a9 d7))))) (a7 (a5 0 (pv 0)) (a7 (a5 1 (pv 1)) (a7 (a5 2 (pv 2)) (a7 (a5 4 (pv 4)) (a7 (a5 5 (pv 5)) c7))))))
 exact d0 (T6 2 (pv 2))
theorem b9X(D:Df K mg "run_of" a38):a2f P w K mg base:=by
 exists z0,0,b3k,el2 λ_ _=>rfl
 exact d0 (i9 (B1 (a7 j9 (a7 (a5 0 (pv 0)) (a7 (a5 1 (pv 1)) c7)))))
theorem a9b{k:Nat}(hk0:1<=k){M2:Λ}(D:Df K mg "parts_between" Z0){a3R:AB}(a0i:FnV K mg "run_of" a3R)(U5:a2f P w K mg base)(J5:g8 P w K mg base "parts_between" ["things","best","part_of","start","end"] k M2):g8 P w K mg base "parts_between" ["things","best","part_of","start","end"] (k+1) (k4 3 (a46 M2)):=by
 exists z0,k,a1h,el5 λ_ _ _ _ _=>rfl
 ext a
 ·exact i5 (i:=5) S.nd (a5z 1 hu (pv 1) (a7 (a5 3 (pv 3)) (a7 (a5 4 (pv 4)) c7)))
 ext a
 ·refine r6 ?_ ?_ ?_
  ·exact j0 (x9 hu) (g6 (a5 5 (pv 5)) b4) j9 (by first|rfl|exact nomark _)
  ·exact d0 (i9 (N7 (a7 (a7N 2 (a4D U5 a0i (by lia) rfl a6m) hr (pv 2) (a9 (a9 d7)) (a7 (g6 (a5 0 (pv 0)) (a5 3 (pv 3))) (a7 (d5 M0 (a5 4 (pv 4)) (a5 3 (pv 3))) c7))) c7)))
  exact m8
 ext a
 ·refine r6 ?_ ?_ ?_
  ·exact j0 (x9 hu) (g6 (a5 5 (pv 5)) b4) j9 (by first|rfl|exact nomark _)
  ·ext a
   ·refine i5 (i:=6) ?_ ?_
    ·exact S.nd
    refine f9 J5 hr ?_ ?_ ?_ ?_
    ·lia
    ·exact rfl
    ·exact a9 (a9 (a9 (a9 (a9 d7))))
    exact a7 (a5 0 (pv 0)) (a7 (a5 1 (pv 1)) (a7 (a5 2 (pv 2)) (a7 (a5 3 (pv 3)) (a7 (d5 h9 (a5 3 (pv 3)) (g6 (a5 5 (pv 5)) b4)) c7))))
   exact d0 (a1G 6 (i9 (N7 (a7 (B1 (a7 j9 (a7 (d5 B6 (d5 M0 (a5 4 (pv 4)) (a5 3 (pv 3))) (g6 (a5 5 (pv 5)) b4)) (a7 (a5 6 (pv 6)) c7)))) c7))))
  exact m8
 ext a
 ·exact i5 (i:=7) S.nd (f9 J5 hr (by lia) rfl (a9 (a9 (a9 (a9 (a9 d7))))) (a7 (a5 0 (pv 0)) (a7 (a5 1 (pv 1)) (a7 (a5 2 (pv 2)) (a7 (a5 3 (pv 3)) (a7 (g6 (a5 5 (pv 5)) b4) c7))))))
 refine d0 ?_;refine i9 ?_;refine d5 h9 ?_ ?_
 ·exact a5 7 (pv 7)
 exact f9 J5 hr (by lia) rfl (a9 (a9 (a9 (a9 (a9 d7))))) (a7 (a5 0 (pv 0)) (a7 (a5 1 (pv 1)) (a7 (a5 2 (pv 2)) (a7 (g6 (a5 5 (pv 5)) b4) (a7 (a5 4 (pv 4)) c7)))))
theorem a8c(Y3:Df K mg "parts_between" Z0){a3R:AB}(a0i:FnV K mg "run_of" a3R)(U5:a2f P w K mg base):∀n:Nat,g8 P w K mg base "parts_between" ["things","best","part_of","start","end"] (1+n) (a3U n):=by
 intro n
 induction n with
 |zero=>exact j6 (k:=0) Y3 a1h (λ_ _ _ _ _ _=>el5 (λ_ _ _ _ _=>rfl)) λf cdv A outer s H E hr=>u7
 |succ n ih=>
  exact a9b P w base (Nat.le_add_right _ _) Y3 a0i U5 ih
theorem b5L(D:Df K mg "cheapest" a7q)(M:MoB K mg)(U4:a2e P w K mg base)(J5:a9Y P w K mg base)(U5:a2f P w K mg base):b0E P w K mg base:=by
 exists z0,27,a9U,el3 λ_ _ _=>rfl
 ext a
 ·exact i5 (i:=3) S.nd (f9 U4 hr (by decide) rfl (a9 (a9 d7)) (a7 (a5 0 (pv 0)) (a7 (a5 1 (pv 1)) c7)))
 refine d0 ?_;refine i9 ?_;exact b0R 3 (f9 J5 hr (by decide) rfl (a9 (a9 (a9 (a9 (a9 d7))))) (a7 (a5 0 (pv 0)) (a7 (a5 3 (pv 3)) (a7 (a5 2 (pv 2)) (a7 b4 (a7 (D7 z8 rfl M.Zah (by rfl) (a5 0 (pv 0))) c7))))))
theorem b9W(D:Df K mg "folded" b1F)(M:MoB K mg){a3R:AB}(a0i:FnV K mg "run_of" a3R)(a60:b0E P w K mg base)(U5:a2f P w K mg base):a7B P w K mg base:=by
 exists z0,28,b3j,el1 λ_=>rfl
 ext a
 ·refine i5 (i:=1) ?_ ?_
  ·exact S.nd
  refine a9J (c0E rfl hu) ?_ M.Zb2 ?_ ?_
  ·exact rfl
  ·rfl
  refine a2X (ys:=["colour"]) (N0:=["line","prices"]) (λ_ _ h=>h) ?_ ⟨by kernel_rfl,rfl,δ rfl,δ rfl,δ rfl⟩ (EIF.ei (b70 (a5 0 (pv 0)))) (λC fp pins s H=>o8 (i:=2) b5D rfl (Or.inl rfl)) (λn h=>V5 (i:=2) (Nat.le_of_eq h)) (λC fp pins s H=>a5y) ?_
  ·exact rfl
  intro C fp pins s H;exact B1 (a7 (a5 2 (pv 2)) (a7 b4 c7))
 exact d0 (i9 (b40 1 (f9 a60 hr (by decide) rfl (a9 (a9 (a9 d7))) (a7 (a5 0 (pv 0)) (a7 (a5 1 (pv 1)) (a7 (b2I a0i) c7))))))
theorem b7g(D:Df K mg "rows_of" a19)(a2k:a7B P w K mg base):a3D P w K mg base:=by
 exists z0,29,b1J,el2 λ_ _=>rfl
 exact d0 (i9 (B1 (a7 j9 (a7 (a5 1 (pv 1)) (a7 (f9 a2k hr (by decide) rfl (a9 d7) (a7 (a5 0 (pv 0)) c7)) c7)))))
theorem a8g{k:Nat}(hk0:30<=k){K7:Λ}(D:Df K mg "parts_between" W8){a2q:AB}(U7:FnV K mg "rows_of" a2q)(a05:a3D P w K mg base)(E4:g8 P w K mg base "parts_between" ["things","best","part_of","start","end"] k K7):g8 P w K mg base "parts_between" ["things","best","part_of","start","end"] (k+1) (k4 3 (a3F K7)):=by
 exists z0,k,a0Q,el5 λ_ _ _ _ _=>rfl
 ext a
 ·exact i5 (i:=5) S.nd (a5z 1 hu (pv 1) (a7 (a5 3 (pv 3)) (a7 (a5 4 (pv 4)) c7)))
 ext a
 ·refine r6 ?_ ?_ ?_
  ·exact j0 (x9 hu) (g6 (a5 5 (pv 5)) b4) j9 (by first|rfl|exact nomark _)
  ·exact d0 (i9 (N7 (a7 (a7N 2 (a4D a05 U7 (by lia) rfl a6m) hr (pv 2) (a9 (a9 d7)) (a7 (g6 (a5 0 (pv 0)) (a5 3 (pv 3))) (a7 (d5 M0 (a5 4 (pv 4)) (a5 3 (pv 3))) c7))) c7)))
  exact m8
 ext a
 ·refine r6 ?_ ?_ ?_
  ·exact j0 (x9 hu) (g6 (a5 5 (pv 5)) b4) j9 (by first|rfl|exact nomark _)
  ·ext a
   ·refine i5 (i:=6) ?_ ?_
    ·exact S.nd
    refine f9 E4 hr ?_ ?_ ?_ ?_
    ·lia
    ·exact rfl
    ·exact a9 (a9 (a9 (a9 (a9 d7))))
    exact a7 (a5 0 (pv 0)) (a7 (a5 1 (pv 1)) (a7 (a5 2 (pv 2)) (a7 (a5 3 (pv 3)) (a7 (d5 h9 (a5 3 (pv 3)) (g6 (a5 5 (pv 5)) b4)) c7))))
   exact d0 (a1G 6 (i9 (N7 (a7 (B1 (a7 j9 (a7 (d5 B6 (d5 M0 (a5 4 (pv 4)) (a5 3 (pv 3))) (g6 (a5 5 (pv 5)) b4)) (a7 (a5 6 (pv 6)) c7)))) c7))))
  exact m8
 ext a
 ·exact i5 (i:=7) S.nd (f9 E4 hr (by lia) rfl (a9 (a9 (a9 (a9 (a9 d7))))) (a7 (a5 0 (pv 0)) (a7 (a5 1 (pv 1)) (a7 (a5 2 (pv 2)) (a7 (a5 3 (pv 3)) (a7 (g6 (a5 5 (pv 5)) b4) c7))))))
 refine d0 ?_;refine i9 ?_;refine d5 h9 ?_ ?_
 ·exact a5 7 (pv 7)
 exact f9 E4 hr (by lia) rfl (a9 (a9 (a9 (a9 (a9 d7))))) (a7 (a5 0 (pv 0)) (a7 (a5 1 (pv 1)) (a7 (a5 2 (pv 2)) (a7 (g6 (a5 5 (pv 5)) b4) (a7 (a5 4 (pv 4)) c7)))))
theorem a7k(V8:Df K mg "parts_between" W8){a2q:AB}(U7:FnV K mg "rows_of" a2q)(a05:a3D P w K mg base):∀n:Nat,g8 P w K mg base "parts_between" ["things","best","part_of","start","end"] (30+n) (a23 n):=by
 intro n
 induction n with
 |zero=>exact j6 (k:=29) V8 a0Q (λ_ _ _ _ _ _=>el5 (λ_ _ _ _ _=>rfl)) λf cdv A outer s H E hr=>u7
 |succ n ih=>
  exact a8g P w base (Nat.le_add_right _ _) V8 U7 a05 ih
theorem b33(D:Df K mg "cheapest" a5W)(M:MoB K mg)(U4:a2e P w K mg base)(E4:a8Q P w K mg base)(a05:a3D P w K mg base):a9o P w K mg base:=by
 exists z0,56,a8t,el3 λ_ _ _=>rfl
 ext a
 ·exact i5 (i:=3) S.nd (f9 U4 hr (by decide) rfl (a9 (a9 d7)) (a7 (a5 0 (pv 0)) (a7 (a5 1 (pv 1)) c7)))
 refine d0 ?_;refine i9 ?_;exact b0R 3 (f9 E4 hr (by decide) rfl (a9 (a9 (a9 (a9 (a9 d7))))) (a7 (a5 0 (pv 0)) (a7 (a5 3 (pv 3)) (a7 (a5 2 (pv 2)) (a7 b4 (a7 (D7 z8 rfl M.Zah (by rfl) (a5 0 (pv 0))) c7))))))
theorem c35{k:Nat}(hk0:1<=k){a8O:Λ}(D:Df K mg "cost" b4m)(a61:g8 P w K mg base "cost" ["fold"] k a8O):g8 P w K mg base "cost" ["fold"] (k+1) (k4 2 (b3u a8O)):=by
 exists z0,k,b4o,el1 λ_=>rfl
 ext a
 ·exact i5 (i:=1) S.nd b4
 ext a
 ·ext i
  ·exact rfl
  ·exact a5 0 (pv 0)
  ·ext m
  ext a
  ·exact a4z (i:=1) S.nd b4 a2E
  exact d0 (r6 (j0 (x9 hu) (g6 (a5 2 (pv 2)) b4) j9 (by first|rfl|exact nomark _)) (d0 (a4z (i:=1) S.nd (f9 a61 hr (by lia) rfl (a9 d7) (a7 (g6 (a5 2 (pv 2)) b4) c7)) a2E)) m8)
 exact d0 (T6 1 (pv 1))
theorem c1U(b0z:Df K mg "cost" b4m):∀n:Nat,g8 P w K mg base "cost" ["fold"] (1+n) (a6r n):=by
 intro n
 induction n with
 |zero=>exact j6 (k:=0) b0z b4o (λ_ _ _ _ _ _=>el1 (λ_=>rfl)) λf cdv A outer s H E hr=>u7
 |succ n ih=>
  exact c35 P w base (Nat.le_add_right _ _) b0z ih
theorem c1V(D:Df K mg "woven" b4n){a2q:AB}(U7:FnV K mg "rows_of" a2q)(a5r:a9o P w K mg base)(a05:a3D P w K mg base)(a61:c0o P w K mg base)(a2k:a7B P w K mg base):b7J P w K mg base:=by
 exists z0,57,b54,el1 λ_=>rfl
 ext a
 ·exact i5 (i:=1) S.nd c5r
 ext a
 ·ext i
  ·exact rfl
  ·exact a5 0 (pv 0)
  ·ext m
  ext k
  ·exact b9k 1 hu (pv 1) (a5 2 (pv 2)) (by first|rfl|exact nomark _)
  ·exact d0 (c3v 1 hu (pv 1) (a5 2 (pv 2)) (d5 h9 b4 (f9 a61 hr (by decide) rfl (a9 d7) (a7 (f9 a2k hr (by decide) rfl (a9 d7) (a7 (a5 2 (pv 2)) c7)) c7))))
  exact m8
 exact d0 (i9 (b40 1 (f9 a5r hr (by decide) rfl (a9 (a9 (a9 d7))) (a7 (a5 0 (pv 0)) (a7 (a5 1 (pv 1)) (a7 (b2I U7) c7))))))
theorem b5O{k:Nat}(hk0:1<=k){a0Y:Λ}(D:Df K mg "_law_cost" a4T)(M:MoB K mg)(Z5:g8 P w K mg base "_law_cost" ["_law_fold_here"] k a0Y):g8 P w K mg base "_law_cost" ["_law_fold_here"] (k+1) (k4 2 (a4q a0Y)):=by
 exists z0,k,a58,el1 λ_=>rfl
 ext a
 ·exact i5 (i:=1) S.nd (D7 z8 rfl M.Zah (by rfl) (a5 0 (pv 0)))
 ext a
 ·ext i
  ·exact rfl
  ·exact a5 0 (pv 0)
  ·ext m
  exact d0 (r6 (j0 (x9 hu) (g6 (a5 2 (pv 2)) b4) j9 (by first|rfl|exact nomark _)) (d0 (i5 (i:=1) S.nd (d5 h9 (a5 1 (pv 1)) (f9 Z5 hr (by lia) rfl (a9 d7) (a7 (g6 (a5 2 (pv 2)) b4) c7))))) m8)
 exact d0 (T6 1 (pv 1))
theorem b3Z(a4g:Df K mg "_law_cost" a4T)(M:MoB K mg):∀n:Nat,g8 P w K mg base "_law_cost" ["_law_fold_here"] (1+n) (a1C n):=by
 intro n
 induction n with
 |zero=>exact j6 (k:=0) a4g a58 (λ_ _ _ _ _ _=>el1 (λ_=>rfl)) λf cdv A outer s H E hr=>u7
 |succ n ih=>
  exact b5O P w base (Nat.le_add_right _ _) a4g M ih
theorem b38{k:Nat}(hk0:27<=k){a0g:Λ}(D:Df K mg "_law_price" a3c)(M:MoB K mg)(Z5:b0H P w K mg base)(Q2:g8 P w K mg base "_law_price" ["_law_weaving_here"] k a0g):g8 P w K mg base "_law_price" ["_law_weaving_here"] (k+1) (k4 2 (a2V a0g)):=by
 exists z0,k,a4Z,el1 λ_=>rfl
 ext a
 ·exact i5 (i:=1) S.nd (D7 z8 rfl M.Zah (by rfl) (a5 0 (pv 0)))
 ext a
 ·ext i
  ·exact rfl
  ·exact a5 0 (pv 0)
  ·ext m
  ext k
  ·exact j0 (x9 hu) (g6 (a5 2 (pv 2)) b4) j9 (by first|rfl|exact nomark _)
  ·exact d0 (i5 (i:=1) S.nd (d5 h9 (a5 1 (pv 1)) (f9 Z5 hr (by lia) rfl (a9 d7) (a7 (g6 (a5 2 (pv 2)) b4) c7))))
  exact d0 (i5 (i:=1) S.nd (d5 h9 (a5 1 (pv 1)) (f9 Q2 hr (by lia) rfl (a9 d7) (a7 (g6 (a5 2 (pv 2)) b4) c7))))
 exact d0 (T6 1 (pv 1))
theorem b2f(a2R:Df K mg "_law_price" a3c)(M:MoB K mg)(Z5:b0H P w K mg base):∀n:Nat,g8 P w K mg base "_law_price" ["_law_weaving_here"] (27+n) (a0z n):=by
 intro n
 induction n with
 |zero=>exact j6 (k:=26) a2R a4Z (λ_ _ _ _ _ _=>el1 (λ_=>rfl)) λf cdv A outer s H E hr=>u7
 |succ n ih=>
  exact b38 P w base (Nat.le_add_right _ _) a2R M Z5 ih
theorem b1q(D:Df K mg "_law_emptied" a3w)(M:MoB K mg):∀n:Nat,a8M P w K mg base "_law_emptied" ["_law_parts"] (1+n) l0 n:=by
 intro n
 induction n with
 |zero=>exact c0V (k:=0) D a2I (λ_ _ _ _ _ _=>el1 (λ_=>rfl))
 |succ n d=>
  refine c0U (k:=1+n) M.nl D a2I (λ_ _ _ _ _ _=>el1 (λ_=>rfl)) λf cdv A outer s H E hr=> ?_;have S:=a2I;have hu:=hr.units;exact c5s M.nl d hr (by lia) rfl PassesOwn.never rfl (a9J (b4R rfl) rfl M.Zbt (by rfl) (a5 0 (pv 0))) (o8 (i:=1) S.nd rfl (Or.inl rfl)) (PW.pt (Q3 (j0 (x9 hu) (g6 (a5 1 (pv 1)) b4) j9 (by first|rfl|exact nomark _)) (O7 (j0 (x9 hu) (g6 (a5 1 (pv 1)) b4) j9 (by first|rfl|exact nomark _))))) (c7R "again" "rows") (g6 (a5 1 (pv 1)) b4) (pv 0)
theorem b0e(D:Df K mg "_law_is_count" a2G)(M:MoB K mg):U2 P w K mg base:=by
 exists z0,0,a5d,el2 λ_ _=>rfl
 refine d0 ?_;refine i9 ?_;refine b6G ?_ ?_
 ·exact a4x (.inl rfl) rfl M.Zaf (a5 0 (pv 0)) (a10 rfl M.Zb6 (by rfl) rfl)
 exact b6G (c5q (a4x (.inr (.inl rfl)) rfl M.Zaf (a5 0 (pv 0)) (a10 rfl M.Zb1 (by rfl) rfl))) (c0S (b3D c56 (a5 0 (pv 0)) (a5 1 (pv 1)) (by first|rfl|exact nomark _)))
theorem b1r{k:Nat}(hk0:1<=k){S0:Λ}(D:Df K mg "_law_is_fold" a1s)(M:MoB K mg)(z9:U2 P w K mg base)(N6:g8 P w K mg base "_law_is_fold" ["_law_fold_here"] k S0):g8 P w K mg base "_law_is_fold" ["_law_fold_here"] (k+1) (k4 1 (a1n S0)):=by
 exists z0,k,a2J,el1 λ_=>rfl
 ext a
 ·exact r6 (PW.pt (Q3 (L1 (E6 (a4x (.inr (.inr (.inr (.inl rfl)))) rfl M.Zaf (a5 0 (pv 0)) (a10 rfl M.Zbt (by rfl) rfl)))) (O7 (j0 (x9 hu) (a5 0 (pv 0)) (N7 c7) (by first|rfl|exact nomark _))))) (d0 (i9 a0w)) m8
 ext a
 ·refine a07 PassesOwn.never ?_ ?_ ?_ (p9 1) ?_
  ·exact rfl
  ·exact a5 0 (pv 0)
  ·exact o8 (i:=1) S.nd rfl (Or.inl rfl)
  ext a
  ·refine r6 (PW.pt (Q3 (L1 (E6 (a4x (.inr (.inr (.inr (.inr (.inl rfl))))) rfl M.Zaf (a5 1 (pv 1)) (a10 rfl M.Zbl (by rfl) rfl)))) (O7 (j0 (V4 hu) (D7 z8 rfl M.Zah (by rfl) (a5 1 (pv 1))) b4 (by first|rfl|exact nomark _))))) ?_ ?_
   ·exact d0 (i9 a0w)
   exact m8
  ext k
  ·exact j0 (x9 hu) (g6 (a5 1 (pv 1)) b4) j9 (by first|rfl|exact nomark _)
  ·refine d0 ?_;refine r6 (PW.pt (Q3 (L1 (E6 (a4x (.inr (.inr (.inl rfl))) rfl M.Zaf (g6 (a5 1 (pv 1)) b4) (a10 rfl M.Zby (by rfl) rfl)))) (Q3 (j0 (V4 hu) (D7 z8 rfl M.Zah (by rfl) (g6 (a5 1 (pv 1)) b4)) b4 (by first|rfl|exact nomark _)) (O7 (L1 (E6 (f9 z9 hr (by lia) rfl (a9 (a9 d7)) (a7 (g6 (a5 1 (pv 1)) b4) (a7 b4 c7))))))))) ?_ ?_
   ·exact d0 (i9 a0w)
   exact m8
  refine d0 ?_;refine r6 (PW.pt (Q3 (j0 (V4 hu) (g6 (a5 1 (pv 1)) b4) j9 (by first|rfl|exact nomark _)) (Q3 (L1 (E6 (f9 z9 hr (by lia) rfl (a9 (a9 d7)) (a7 (g6 (a5 1 (pv 1)) b4) (a7 b4 c7))))) (O7 (L1 (E6 (f9 N6 hr (by lia) rfl (a9 d7) (a7 (g6 (a5 1 (pv 1)) b4) c7)))))))) ?_ ?_
  ·exact d0 (i9 a0w)
  exact m8
 exact d0 (i9 a0w)
theorem a99(a1k:Df K mg "_law_is_fold" a1s)(M:MoB K mg)(z9:U2 P w K mg base):∀n:Nat,g8 P w K mg base "_law_is_fold" ["_law_fold_here"] (1+n) (V2 n):=by
 intro n
 induction n with
 |zero=>exact j6 (k:=0) a1k a2J (λ_ _ _ _ _ _=>el1 (λ_=>rfl)) λf cdv A outer s H E hr=>u7
 |succ n ih=>
  exact b1r P w base (Nat.le_add_right _ _) a1k M z9 ih
theorem a8d{k:Nat}(hk0:27<=k){K6:Λ}(D:Df K mg "_law_is_weaving" W7)(M:MoB K mg)(z9:U2 P w K mg base)(N6:a6O P w K mg base)(K8:g8 P w K mg base "_law_is_weaving" ["_law_weaving_here"] k K6):g8 P w K mg base "_law_is_weaving" ["_law_weaving_here"] (k+1) (k4 1 (W0 K6)):=by
 exists z0,k,a0P,el1 λ_=>rfl
 ext a
 ·exact r6 (PW.pt (Q3 (L1 (E6 (a4x (.inr (.inr (.inr (.inl rfl)))) rfl M.Zaf (a5 0 (pv 0)) (a10 rfl M.Zbt (by rfl) rfl)))) (O7 (j0 (x9 hu) (a5 0 (pv 0)) (N7 c7) (by first|rfl|exact nomark _))))) (d0 (i9 a0w)) m8
 ext a
 ·refine a07 PassesOwn.never ?_ ?_ ?_ (p9 1) ?_
  ·exact rfl
  ·exact a5 0 (pv 0)
  ·exact o8 (i:=1) S.nd rfl (Or.inl rfl)
  ext a
  ·refine r6 (PW.pt (Q3 (L1 (E6 (a4x (.inr (.inr (.inr (.inr (.inl rfl))))) rfl M.Zaf (a5 1 (pv 1)) (a10 rfl M.Zbl (by rfl) rfl)))) (O7 (j0 (V4 hu) (D7 z8 rfl M.Zah (by rfl) (a5 1 (pv 1))) b4 (by first|rfl|exact nomark _))))) ?_ ?_
   ·exact d0 (i9 a0w)
   exact m8
  ext k
  ·exact j0 (x9 hu) (g6 (a5 1 (pv 1)) b4) j9 (by first|rfl|exact nomark _)
  ·refine d0 ?_;refine r6 (PW.pt (Q3 (L1 (E6 (f9 z9 hr (by lia) rfl (a9 (a9 d7)) (a7 (g6 (a5 1 (pv 1)) b4) (a7 b4 c7))))) (O7 (L1 (E6 (f9 N6 hr (by lia) rfl (a9 d7) (a7 (g6 (a5 1 (pv 1)) b4) c7))))))) ?_ ?_
   ·exact d0 (i9 a0w)
   exact m8
  refine d0 ?_;refine r6 (PW.pt (Q3 (j0 (V4 hu) (g6 (a5 1 (pv 1)) b4) j9 (by first|rfl|exact nomark _)) (Q3 (L1 (E6 (f9 z9 hr (by lia) rfl (a9 (a9 d7)) (a7 (g6 (a5 1 (pv 1)) b4) (a7 b4 c7))))) (O7 (L1 (E6 (f9 K8 hr (by lia) rfl (a9 d7) (a7 (g6 (a5 1 (pv 1)) b4) c7)))))))) ?_ ?_
  ·exact d0 (i9 a0w)
  exact m8
 exact d0 (i9 a0w)
theorem a7j(V7:Df K mg "_law_is_weaving" W7)(M:MoB K mg)(z9:U2 P w K mg base)(N6:a6O P w K mg base):∀n:Nat,g8 P w K mg base "_law_is_weaving" ["_law_weaving_here"] (27+n) (N2 n):=by
 intro n
 induction n with
 |zero=>exact j6 (k:=26) V7 a0P (λ_ _ _ _ _ _=>el1 (λ_=>rfl)) λf cdv A outer s H E hr=>u7
 |succ n ih=>
  exact a8d P w base (Nat.le_add_right _ _) V7 M z9 N6 ih
theorem b5S{k:Nat}(hk0:1<=k){J4 Zac:Λ}(D:Df K mg "unfolded" a4X)(g:a6W P w K mg base k J4 Zac):g8 P w K mg base "unfolded" ["fold"] (k+1) (k4 0 (a4s J4 Zac)):=by
 exists z0,k,a6b,el1 λ_=>rfl
 refine d0 ?_;refine i9 ?_;refine a4y ?_ ?_
 ·exact j9
 exists y0,["part"],["fold"],1,b2c
 ·exact rfl
 ·exact b6J (a5 0 (pv 0))
 intro C fp pins s H;exact f9 g.Zax hr (by lia) rfl (a9 d7) (a7 (a5 1 (pv 1)) c7)
theorem a9d{k:Nat}(hk0:1<=k){J4 Zac:Λ}(D:Df K mg "unfolded_part" Z2)(g:a6W P w K mg base k J4 Zac):g8 P w K mg base "unfolded_part" ["part"] (k+1) (k4 0 (Y6 J4 Zac)):=by
 exists z0,k,a1j,el1 λ_=>rfl
 ext a
 ·exact r6 (j0 (x9 hu) (g6 (a5 0 (pv 0)) b4) j9 (by first|rfl|exact nomark _)) (d0 (i9 (d5 G8 (g6 (a5 0 (pv 0)) b4) (g6 (a5 0 (pv 0)) b4)))) m8
 exact d0 (i9 (d5 G8 (f9 g.Zag hr (by lia) rfl (a9 d7) (a7 (g6 (a5 0 (pv 0)) b4) c7)) (g6 (a5 0 (pv 0)) b4)))
theorem b31(a2d:Df K mg "unfolded" a4X)(Zaz:Df K mg "unfolded_part" Z2):∀n:Nat,a6W P w K mg base (1+n) (a0k n) (O9 n):=by
 intro n
 induction n with
 |zero=>exact⟨j6 (k:=0) a2d a6b (λ_ _ _ _ _ _=>el1 (λ_=>rfl)) λf cdv A outer s H E hr=>u7,j6 (k:=0) Zaz a1j (λ_ _ _ _ _ _=>el1 (λ_=>rfl)) λf cdv A outer s H E hr=>u7⟩
 |succ n ih=>
  exact⟨b5S P w base (Nat.le_add_right _ _) a2d ih,a9d P w base (Nat.le_add_right _ _) Zaz ih⟩
theorem b7i{k:Nat}(hk0:31<=k){a15:Λ}(D:Df K mg "unwoven" a6B)(Zag:a4m P w K mg base)(a3I:g8 P w K mg base "unwoven" ["weaving"] k a15):g8 P w K mg base "unwoven" ["weaving"] (k+1) (k4 2 (a6h a15)):=by
 exists z0,k,a7u,el1 λ_=>rfl
 ext a
 ·exact i5 (i:=1) S.nd (B1 c7)
 ext a
 ·ext i
  ·exact rfl
  ·exact a5 0 (pv 0)
  ·ext m
  ext k
  ·exact j0 (x9 hu) (g6 (a5 2 (pv 2)) b4) j9 (by first|rfl|exact nomark _)
  ·exact d0 (a4z (i:=1) S.nd (d5 a8h (B1 (a7 (f9 Zag hr (by lia) rfl (a9 d7) (a7 (g6 (a5 2 (pv 2)) b4) c7)) c7)) (g6 (a5 2 (pv 2)) b4)) b26)
  exact d0 (a4z (i:=1) S.nd (d5 a8h (f9 a3I hr (by lia) rfl (a9 d7) (a7 (g6 (a5 2 (pv 2)) b4) c7)) (g6 (a5 2 (pv 2)) b4)) b26)
 exact d0 (T6 1 (pv 1))
theorem b5J(a6e:Df K mg "unwoven" a6B)(Zag:a4m P w K mg base):∀n:Nat,g8 P w K mg base "unwoven" ["weaving"] (31+n) (a1a n):=by
 intro n
 induction n with
 |zero=>exact j6 (k:=30) a6e a7u (λ_ _ _ _ _ _=>el1 (λ_=>rfl)) λf cdv A outer s H E hr=>u7
 |succ n ih=>
  exact b7i P w base (Nat.le_add_right _ _) a6e Zag ih
theorem a8e(D:Df K mg "_law_least_part" a1f)(M:MoB K mg):a3B P w K mg base:=by
 exists z0,0,a3e,el2 λ_ _=>rfl
 ext a
 ·exact i5 (i:=2) S.nd (d5 h9 b4 (b0Q 1 hu M.nk (pv 1) (J8 (a5 0 (pv 0)) a0x (G0 b4))))
 ext a
 ·exact r6 (j0 (V4 hu) (a5 0 (pv 0)) (d5 a8h (J8 (a5 0 (pv 0)) a0x (G0 b4)) (D7 z8 rfl M.Zah (by rfl) (a5 0 (pv 0)))) (by first|rfl|exact nomark _)) (d0 (i5 (i:=2) S.nd (d5 c4c b4 b4))) m8
 ext a
 ·refine a3P PassesOwn.never ?_ ?_ M.Zai ?_ ?_ (p9 3) ?_
  ·exact rfl
  ·exact rfl
  ·exact a7 b4 (a7 (D7 z8 rfl M.Zah (by rfl) (a5 0 (pv 0))) c7)
  ·exact o8 (i:=3) S.nd rfl (Or.inl rfl)
  ext k
  ·exact j0 (x9 hu) (a5 0 (pv 0)) (d5 a8h (J8 (a5 0 (pv 0)) a0x (G0 (a5 3 (pv 3)))) (d5 B6 (D7 z8 rfl M.Zah (by rfl) (a5 0 (pv 0))) (a5 3 (pv 3)))) (by first|rfl|exact nomark _)
  ·exact d0 (i5 (i:=2) S.nd (b2H (a8W rfl) rfl M.Zbv (by rfl) (a5 2 (pv 2)) (d5 h9 b4 (b0Q 1 hu M.nk (pv 1) (J8 (a5 0 (pv 0)) a0x (G0 (a5 3 (pv 3))))))))
  exact m8
 exact d0 (T6 2 (pv 2))
theorem b36(D:Df K mg "_law_least" a5Z)(M:MoB K mg)(a61:c0o P w K mg base)(a2k:a7B P w K mg base)(a03:a3B P w K mg base):a9r P w K mg base:=by
 exists z0,29,a8w,el1 λ_=>rfl
 ext a
 ·exact i5 (i:=1) S.nd b7Z
 ext a
 ·ext i
  ·exact rfl
  ·exact a5 0 (pv 0)
  ·ext m
  exact d0 (b71 1 hu (pv 1) (a7 (a5 2 (pv 2)) c7) (d5 h9 b4 (f9 a61 hr (by decide) rfl (a9 d7) (a7 (f9 a2k hr (by decide) rfl (a9 d7) (a7 (a5 2 (pv 2)) c7)) c7))))
 ext a
 ·refine a3P PassesOwn.never ?_ ?_ M.Zai ?_ ?_ (p9 3) ?_
  ·exact rfl
  ·exact rfl
  ·exact a7 b4 (a7 (d5 h9 (D7 z8 rfl M.Zah (by rfl) (a5 0 (pv 0))) b4) c7)
  ·exact o8 (i:=3) S.nd rfl (Or.inl rfl)
  refine d0 ?_;refine a2o PassesOwn.never ?_ ?_ M.Zai ?_ ?_ (p9 4) ?_
  ·exact rfl
  ·exact rfl
  ·exact a7 (d5 h9 (d5 M0 (D7 z8 rfl M.Zah (by rfl) (a5 0 (pv 0))) (a5 3 (pv 3))) b4) c7
  ·exact o8 (i:=4) S.nd rfl (Or.inl rfl)
  ext a
  ·exact i5 (i:=5) S.nd (J8 (a5 0 (pv 0)) (G0 (a5 4 (pv 4))) (G0 (d5 h9 (a5 4 (pv 4)) (a5 3 (pv 3)))))
  ext k
  ·exact b6N 1 hu M.nk (pv 1) (a5 5 (pv 5)) (by first|rfl|exact nomark _)
  ·ext a
   ·exact a1G 5 (i5 (i:=6) S.nd (c0R 1 a03 hr (by decide) rfl (a5 5 (pv 5)) (pv 1)))
   ext a
   ·exact r6 (j0 (x9 hu) (a5 5 (pv 5)) (d5 G8 (J8 (a5 5 (pv 5)) a0x (G0 b4)) (a5 3 (pv 3))) (by first|rfl|exact nomark _)) (d0 (i5 (i:=6) S.nd (a6i 1 hu M.nk (pv 1) (J8 (a5 5 (pv 5)) a0x (G0 b4))))) m8
   ext a
   ·refine a3P PassesOwn.never ?_ ?_ M.Zai ?_ ?_ (p9 7) ?_
    ·exact rfl
    ·exact rfl
    ·exact a7 b4 (a7 (a5 3 (pv 3)) c7)
    ·exact o8 (i:=7) S.nd rfl (Or.inl rfl)
    exact d0 (i5 (i:=6) S.nd (b2H (a8W rfl) rfl M.Zbv (by rfl) (a5 6 (pv 6)) (d5 h9 (a6i 1 hu M.nk (pv 1) (J8 (a5 5 (pv 5)) a0x (G0 (a5 7 (pv 7))))) (a6i 1 hu M.nk (pv 1) (J8 (a5 5 (pv 5)) (G0 (a5 7 (pv 7))) a0x)))))
   exact d0 (b9i 1 hu M.nk (pv 1) (a5 5 (pv 5)) (a5 6 (pv 6)))
  exact m8
 exact d0 (i9 (a6i 1 hu M.nk (pv 1) (a5 0 (pv 0))))
theorem b7h(D:Df K mg "run_end" a9m)(M:MoB K mg):b2q P w K mg base:=by
 exists z0,0,b1K,el4 λ_ _ _ _=>rfl
 ext a
 ·exact i5 (i:=4) S.nd (a5 1 (pv 1))
 ext a
 ·refine b0V 4000 PassesOwn.never (PW.pt (a4A (j0 b4f (a5 4 (pv 4)) (D7 z8 rfl M.Zah (by rfl) (a5 0 (pv 0))) (by first|rfl|exact nomark _)) (a4B (a7R a1q a1q (a5 2 (pv 2)) (g6 (a5 0 (pv 0)) (a5 4 (pv 4))) (a5 3 (pv 3)))))) ?_
  exact d0 (a4z (i:=4) S.nd b4 a2E)
 exact d0 (T6 4 (pv 4))
theorem b1o(D:Df K mg "figures_end" a3u)(a8Z:b2q P w K mg base):a3j P w K mg base:=by
 exists z0,1,a55,el2 λ_ _=>rfl
 exact d0 (i9 (f9 a8Z hr (by decide) rfl (a9 (a9 (a9 (a9 d7)))) (a7 (a5 0 (pv 0)) (a7 (a5 1 (pv 1)) (a7 j9 (a7 j9 c7))))))
theorem b4a(D:Df K mg "number_in" a52)(M:MoB K mg){Zba:AA}{Zbo:Nat}(Zbp:mg "MOST_FIGURES"=ξ Zba)(Zbq:a4n K Zbo Zba=ξ a0T)(X7:a3j P w K mg base):a9u P w K mg base:=by
 exists z0,2,a8z,el1 λ_=>rfl
 ext a
 ·refine r6 (PW.pt (Q3 (L1 (a7R a1q a1q b4 (D7 z8 rfl M.Zah (by rfl) (a5 0 (pv 0))) (a6j rfl Zbp Zbq))) (O7 (j0 (V4 hu) (f9 X7 hr (by decide) rfl (a9 (a9 d7)) (a7 (a5 0 (pv 0)) (a7 b4 c7))) (D7 z8 rfl M.Zah (by rfl) (a5 0 (pv 0))) (by first|rfl|exact nomark _))))) ?_ ?_
  ·exact d0 (i9 B8)
  exact m8
 ext a
 ·exact r6 (PW.pt (a4A (j0 (x9 hu) (g6 (a5 0 (pv 0)) b4) j9 (by first|rfl|exact nomark _)) (a4B (j0 a2D (D7 z8 rfl M.Zah (by rfl) (a5 0 (pv 0))) b4 (by first|rfl|exact nomark _))))) (d0 (i9 B8)) m8
 exact d0 (i9 (a9J c3e rfl M.Zb6 (by rfl) (a5 0 (pv 0))))
theorem a8f(D:Df K mg "number_between" a1g)(a5w:a9u P w K mg base):a3C P w K mg base:=by
 exists z0,3,a3f,el3 λ_ _ _=>rfl
 ext a
 ·exact i5 (i:=3) S.nd (f9 a5w hr (by decide) rfl (a9 d7) (a7 (a5 0 (pv 0)) c7))
 exact c8 (r6 (PW.pt (Q3 (j0 Y9 (a5 3 (pv 3)) B8 (by first|rfl|exact nomark _)) (O7 (L1 (a7R a1q a1q (a5 1 (pv 1)) (a5 3 (pv 3)) (a5 2 (pv 2))))))) (d0 (i9 B8)) m8) (d0 (T6 3 (pv 3)))
theorem b5R(D:Df K mg "times_at" a7s){Zau:AA}{Za6:Nat}(Za7:mg "LONGEST"=ξ Zau)(Za8:a4n K Za6 Zau=ξ S8)(X7:a3j P w K mg base)(a04:a3C P w K mg base):Z3 P w K mg base:=by
 exists z0,4,a9W,el2 λ_ _=>rfl
 ext a
 ·exact i5 (i:=2) S.nd (f9 X7 hr (by decide) rfl (a9 (a9 d7)) (a7 (a5 0 (pv 0)) (a7 (a5 1 (pv 1)) c7)))
 ext a
 ·exact r6 (j0 (x9 hu) (a5 2 (pv 2)) (a5 1 (pv 1)) (by first|rfl|exact nomark _)) (d0 (i9 (B1 (a7 b4 (a7 (a5 2 (pv 2)) c7))))) m8
 ext a
 ·exact i5 (i:=3) S.nd (f9 a04 hr (by decide) rfl (a9 (a9 (a9 d7))) (a7 (J8 (a5 0 (pv 0)) (G0 (a5 1 (pv 1))) (G0 (a5 2 (pv 2)))) (a7 b4 (a7 (a6j rfl Za7 Za8) c7))))
 exact c8 (r6 (j0 Y9 (a5 3 (pv 3)) B8 (by first|rfl|exact nomark _)) (d0 (i9 B8)) m8) (d0 (i9 (B1 (a7 (a5 3 (pv 3)) (a7 (a5 2 (pv 2)) c7)))))
theorem b5K{k:Nat}(hk0:5<=k){Zae o9 A4:Λ}(D:Df K mg "again_at" a4R)(C2:Z3 P w K mg base)(g:a4j P w K mg base k Zae o9 A4):g8 P w K mg base "again_at" ["text","at","left","part_at","closing"] (k+1) (k4 2 (a2g Zae o9 A4)):=by
 exists z0,k,a54,el5 λ_ _ _ _ _=>rfl
 ext a
 ·exact r6 (j0 (x9 hu) (a5 2 (pv 2)) b4 (by first|rfl|exact nomark _)) (d0 (i9 B8)) m8
 ext a
 ·exact i5 (i:=5) S.nd (f9 g.Za0 hr (by lia) rfl (a9 (a9 (a9 (a9 d7)))) (a7 (a5 0 (pv 0)) (a7 (a5 1 (pv 1)) (a7 (d5 M0 (a5 2 (pv 2)) b4) (a7 (a5 3 (pv 3)) c7)))))
 ext a
 ·exact r6 (PW.pt (Q3 (j0 Y9 (a5 5 (pv 5)) B8 (by first|rfl|exact nomark _)) (O7 (L1 (E6 (a06 (a5 0 (pv 0)) (a5 4 (pv 4)) (g6 (a5 5 (pv 5)) b4))))))) (d0 (i9 B8)) m8
 ext a
 ·exact i5 (i:=6) S.nd (f9 C2 hr (by lia) rfl (a9 (a9 d7)) (a7 (a5 0 (pv 0)) (a7 (d5 h9 (g6 (a5 5 (pv 5)) b4) b4) c7)))
 ext a
 ·exact r6 (PW.pt (Q3 (j0 Y9 (a5 6 (pv 6)) B8 (by first|rfl|exact nomark _)) (O7 (j0 (x9 hu) (g6 (a5 6 (pv 6)) b4) b4 (by first|rfl|exact nomark _))))) (d0 (i9 B8)) m8
 exact d0 (i9 (B1 (a7 (B1 (a7 j9 (a7 (g6 (a5 6 (pv 6)) b4) (a7 (g6 (a5 5 (pv 5)) b4) c7)))) (a7 (g6 (a5 6 (pv 6)) b4) c7))))
theorem b0d{k:Nat}(hk0:5<=k){Zae o9 A4:Λ}(D:Df K mg "fold_part_at" L7){J6:AB}(v8:FnV K mg "fold_part_at" J6)(C2:Z3 P w K mg base)(U5:a2f P w K mg base)(g:a4j P w K mg base k Zae o9 A4):g8 P w K mg base "fold_part_at" ["text","at","left"] (k+1) (k4 1 (G5 Zae o9 A4)):=by
 exists z0,k,a1J,el3 λ_ _ _=>rfl
 ext a
 ·refine r6 ?_ ?_ ?_
  ·exact E6 (a06 (a5 0 (pv 0)) j9 (a5 1 (pv 1)))
  ·exact d0 (i9 (f9 g.Zbi hr (by lia) rfl (a9 (a9 (a9 (a9 (a9 d7))))) (a7 (a5 0 (pv 0)) (a7 (d5 h9 (a5 1 (pv 1)) b4) (a7 (a5 2 (pv 2)) (a7 (b2I v8) (a7 j9 c7)))))))
  exact m8
 ext a
 ·exact r6 (L1 (a7R a1q a1q j9 (J8 (a5 0 (pv 0)) (G0 (a5 1 (pv 1))) (G0 (d5 h9 (a5 1 (pv 1)) b4))) j9)) (d0 (i9 B8)) m8
 ext a
 ·exact i5 (i:=3) S.nd (f9 C2 hr (by lia) rfl (a9 (a9 d7)) (a7 (a5 0 (pv 0)) (a7 (d5 h9 (a5 1 (pv 1)) b4) c7)))
 ext a
 ·exact r6 (j0 Y9 (a5 3 (pv 3)) B8 (by first|rfl|exact nomark _)) (d0 (i9 B8)) m8
 exact d0 (i9 (B1 (a7 (f9 U5 hr (by lia) rfl (a9 (a9 d7)) (a7 (g6 (a5 0 (pv 0)) (a5 1 (pv 1))) (a7 (g6 (a5 3 (pv 3)) b4) c7))) (a7 (g6 (a5 3 (pv 3)) b4) c7))))
theorem b5Q{k:Nat}(hk0:5<=k){Zae o9 A4:Λ}(D:Df K mg "parts_at" a4W){J6:AB}(v8:FnV K mg "fold_part_at" J6)(g:a4j P w K mg base k Zae o9 A4):g8 P w K mg base "parts_at" ["text","at","left","part_at"] (k+1) (k4 2 (b0K Zae o9 A4)):=by
 exists z0,k,a6a,el4 λ_ _ _ _=>rfl
 ext a
 ·exact i5 (i:=4) S.nd (N7 c7)
 refine d0 ?_;refine b0V 4000 PassesOwn.never ?_ ?_
 ·exact E6 a0w
 ext a
 ·exact i5 (i:=5) S.nd (a7N 3 (a4D g.Zat v8 (by lia) rfl a6m) hr (pv 3) (a9 (a9 (a9 d7))) (a7 (a5 0 (pv 0)) (a7 (a5 1 (pv 1)) (a7 (a5 2 (pv 2)) c7))))
 ext a
 ·exact r6 (j0 Y9 (a5 5 (pv 5)) B8 (by first|rfl|exact nomark _)) (d0 (i9 B8)) m8
 ext a
 ·exact E5 4 (pv 4) (g6 (a5 5 (pv 5)) b4)
 ext a
 ·exact r6 (L1 (E6 (a06 (a5 0 (pv 0)) j9 (g6 (a5 5 (pv 5)) b4)))) (d0 (a1G 4 (i9 (B1 (a7 (a5 4 (pv 4)) (a7 (g6 (a5 5 (pv 5)) b4) c7)))))) m8
 exact d0 (i5 (i:=1) S.nd (d5 h9 (g6 (a5 5 (pv 5)) b4) b4))
theorem b3X(Zbj:Df K mg "again_at" a4R)(a0q:Df K mg "fold_part_at" L7)(a4i:Df K mg "parts_at" a4W){J6:AB}(v8:FnV K mg "fold_part_at" J6)(C2:Z3 P w K mg base)(U5:a2f P w K mg base):∀n:Nat,a4j P w K mg base (5+n) (a22 n) (M4 n) (a0j n):=by
 intro n
 induction n with
 |zero=>exact⟨j6 (k:=4) Zbj a54 (λ_ _ _ _ _ _=>el5 (λ_ _ _ _ _=>rfl)) λf cdv A outer s H E hr=>u7,j6 (k:=4) a0q a1J (λ_ _ _ _ _ _=>el3 (λ_ _ _=>rfl)) λf cdv A outer s H E hr=>u7,j6 (k:=4) a4i a6a (λ_ _ _ _ _ _=>el4 (λ_ _ _ _=>rfl)) λf cdv A outer s H E hr=>u7⟩
 |succ n ih=>
  exact⟨b5K P w base (Nat.le_add_right _ _) Zbj C2 ih,b0d P w base (Nat.le_add_right _ _) a0q v8 C2 U5 ih,b5Q P w base (Nat.le_add_right _ _) a4i v8 ih⟩
theorem b5N{k:Nat}(hk0:1<=k){a0X:Λ}(D:Df K mg "knots_in" a4S)(a2l:g8 P w K mg base "knots_in" ["fold"] k a0X):g8 P w K mg base "knots_in" ["fold"] (k+1) (k4 2 (a4p a0X)):=by
 exists z0,k,a56,el1 λ_=>rfl
 ext a
 ·exact i5 (i:=1) S.nd b4
 ext a
 ·ext i
  ·exact rfl
  ·exact a5 0 (pv 0)
  ·ext m
  ext k
  ·exact j0 (x9 hu) (g6 (a5 2 (pv 2)) b4) j9 (by first|rfl|exact nomark _)
  ·exact d0 (a4z (i:=1) S.nd (g6 (a5 2 (pv 2)) b4) a2E)
  exact d0 (a4z (i:=1) S.nd (d5 G8 (g6 (a5 2 (pv 2)) b4) (f9 a2l hr (by lia) rfl (a9 d7) (a7 (g6 (a5 2 (pv 2)) b4) c7))) a2E)
 exact d0 (T6 1 (pv 1))
theorem b3Y(a4f:Df K mg "knots_in" a4S):∀n:Nat,g8 P w K mg base "knots_in" ["fold"] (1+n) (a1B n):=by
 intro n
 induction n with
 |zero=>exact j6 (k:=0) a4f a56 (λ_ _ _ _ _ _=>el1 (λ_=>rfl)) λf cdv A outer s H E hr=>u7
 |succ n ih=>
  exact b5N P w base (Nat.le_add_right _ _) a4f ih
theorem b4c(D:Df K mg "read_fold" a53)(M:MoB K mg)(kb:K.In base){Zaj:AB}(Zaw:XC K mg "NoFold" Zaj){J6:AB}(v8:FnV K mg "fold_part_at" J6)(Zbg:PySem.W.excIn K Zaj b1k "ValueError.__new__"=true){Zau:AA}{Za6:Nat}(Za7:mg "LONGEST"=ξ Zau)(Za8:a4n K Za6 Zau=ξ S8){Zar:AA}{Za1:Nat}(Za2:mg "MOST_WITHIN"=ξ Zar)(Za3:a4n K Za1 Zar=ξ O0)(Za0:b6s P w K mg base)(Zat:b0F P w K mg base)(a2l:b6q P w K mg base):a9v P w K mg base:=by
 exists z1,47,a8A,el1 λ_=>rfl
 refine a2p ?_ ?_
 ·exact b42 (L1 (E6 (a4x (.inr (.inr (.inl rfl))) rfl M.Zaf (a5 0 (pv 0)) (a10 rfl M.Zby (by rfl) rfl)))) (a6l (a5A rfl rfl rfl Zaw.mg (a8I kb Zbg) (a7 j9 c7) (λpins σ H s a I x h0 hn e=>a1D I x h0 hn e))) (a4C m8)
 refine a2p ?_ ?_
 ·exact c01 (i5 (i:=1) S.nd (f9 Za0 hr (by decide) rfl (a9 (a9 (a9 (a9 d7)))) (a7 (a5 0 (pv 0)) (a7 b4 (a7 (a6j rfl Za2 Za3) (a7 (b2I v8) c7))))))
 refine a2p ?_ ?_
 ·refine b42 (PW.pt (Q3 (j0 Y9 (a5 1 (pv 1)) B8 (by first|rfl|exact nomark _)) (Q3 (j0 (V4 hu) (g6 (a5 1 (pv 1)) b4) (D7 z8 rfl M.Zah (by rfl) (a5 0 (pv 0))) (by first|rfl|exact nomark _)) (O7 (j0 a2D (f9 a2l hr (by decide) rfl (a9 d7) (a7 (g6 (a5 1 (pv 1)) b4) c7)) (a6j rfl Za7 Za8) (by first|rfl|exact nomark _)))))) ?_ ?_
  ·exact a6l (a5A rfl rfl rfl Zaw.mg (a8I kb Zbg) (a7 j9 c7) (λpins σ H s a I x h0 hn e=>a1D I x h0 hn e))
  exact a4C m8
 exact a4C (d0 (i9 (g6 (a5 1 (pv 1)) b4)))
theorem b7e(D:Df K mg "rows_at" a9l){Zaj:AB}(Zaw:XC K mg "NoFold" Zaj)(Zav:b5f K Zaj Zaj=true)(C2:Z3 P w K mg base)(a5x:a9v P w K mg base):a8R P w K mg base:=by
 exists z0,48,b1I,el2 λ_ _=>rfl
 ext a
 ·exact i5 (i:=2) S.nd (c3p (a5 0 (pv 0)) j9 (a5 1 (pv 1)))
 ext a
 ·exact r6 (j0 b4f (a5 2 (pv 2)) b4 (by first|rfl|exact nomark _)) (d0 (i9 B8)) m8
 ext a
 ·refine c3w Zaw (c1o Zaw Zaw Zav c3K) ?_ ?_
  ·intro Y pn E hx;exact a6l (c3y (i:=3) S.nd a5x hr (by decide) rfl hx (a9 d7) (a7 (J8 (a5 0 (pv 0)) (G0 (a5 1 (pv 1))) (G0 (a5 2 (pv 2)))) c7))
  intro a Y;exact d0 (i9 B8)
 ext a
 ·exact i5 (i:=4) S.nd (f9 C2 hr (by decide) rfl (a9 (a9 d7)) (a7 (a5 0 (pv 0)) (a7 (d5 h9 (a5 2 (pv 2)) b4) c7)))
 ext a
 ·exact r6 (j0 Y9 (a5 4 (pv 4)) B8 (by first|rfl|exact nomark _)) (d0 (i9 B8)) m8
 exact d0 (i9 (B1 (a7 (B1 (a7 j9 (a7 (g6 (a5 4 (pv 4)) b4) (a7 (a5 3 (pv 3)) c7)))) (a7 (g6 (a5 4 (pv 4)) b4) c7))))
theorem b32{k:Nat}(hk0:49<=k){Zad w8 l8:Λ}(D:Df K mg "again_at" a3b)(C2:Z3 P w K mg base)(g:a2T P w K mg base k Zad w8 l8):g8 P w K mg base "again_at" ["text","at","left","part_at","closing"] (k+1) (k4 2 (a9w Zad w8 l8)):=by
 exists z0,k,a4Y,el5 λ_ _ _ _ _=>rfl
 ext a
 ·exact r6 (j0 (x9 hu) (a5 2 (pv 2)) b4 (by first|rfl|exact nomark _)) (d0 (i9 B8)) m8
 ext a
 ·exact i5 (i:=5) S.nd (f9 g.Zay hr (by lia) rfl (a9 (a9 (a9 (a9 d7)))) (a7 (a5 0 (pv 0)) (a7 (a5 1 (pv 1)) (a7 (d5 M0 (a5 2 (pv 2)) b4) (a7 (a5 3 (pv 3)) c7)))))
 ext a
 ·exact r6 (PW.pt (Q3 (j0 Y9 (a5 5 (pv 5)) B8 (by first|rfl|exact nomark _)) (O7 (L1 (E6 (a06 (a5 0 (pv 0)) (a5 4 (pv 4)) (g6 (a5 5 (pv 5)) b4))))))) (d0 (i9 B8)) m8
 ext a
 ·exact i5 (i:=6) S.nd (f9 C2 hr (by lia) rfl (a9 (a9 d7)) (a7 (a5 0 (pv 0)) (a7 (d5 h9 (g6 (a5 5 (pv 5)) b4) b4) c7)))
 ext a
 ·exact r6 (PW.pt (Q3 (j0 Y9 (a5 6 (pv 6)) B8 (by first|rfl|exact nomark _)) (O7 (j0 (x9 hu) (g6 (a5 6 (pv 6)) b4) b4 (by first|rfl|exact nomark _))))) (d0 (i9 B8)) m8
 exact d0 (i9 (B1 (a7 (B1 (a7 j9 (a7 (g6 (a5 6 (pv 6)) b4) (a7 (g6 (a5 5 (pv 5)) b4) c7)))) (a7 (g6 (a5 6 (pv 6)) b4) c7))))
theorem b4b{k:Nat}(hk0:49<=k){Zad w8 l8:Λ}(D:Df K mg "parts_at" a3d){B2:AB}(t0:FnV K mg "weaving_part_at" B2)(g:a2T P w K mg base k Zad w8 l8):g8 P w K mg base "parts_at" ["text","at","left","part_at"] (k+1) (k4 2 (a9E Zad w8 l8)):=by
 exists z0,k,a40,el4 λ_ _ _ _=>rfl
 ext a
 ·exact i5 (i:=4) S.nd (N7 c7)
 refine d0 ?_;refine b0V 4000 PassesOwn.never ?_ ?_
 ·exact E6 a0w
 ext a
 ·exact i5 (i:=5) S.nd (a7N 3 (a4D g.Zap t0 (by lia) rfl a6m) hr (pv 3) (a9 (a9 (a9 d7))) (a7 (a5 0 (pv 0)) (a7 (a5 1 (pv 1)) (a7 (a5 2 (pv 2)) c7))))
 ext a
 ·exact r6 (j0 Y9 (a5 5 (pv 5)) B8 (by first|rfl|exact nomark _)) (d0 (i9 B8)) m8
 ext a
 ·exact E5 4 (pv 4) (g6 (a5 5 (pv 5)) b4)
 ext a
 ·exact r6 (L1 (E6 (a06 (a5 0 (pv 0)) j9 (g6 (a5 5 (pv 5)) b4)))) (d0 (a1G 4 (i9 (B1 (a7 (a5 4 (pv 4)) (a7 (g6 (a5 5 (pv 5)) b4) c7)))))) m8
 exact d0 (i5 (i:=1) S.nd (d5 h9 (g6 (a5 5 (pv 5)) b4) b4))
theorem a7l{k:Nat}(hk0:49<=k){Zad w8 l8:Λ}(D:Df K mg "weaving_part_at" D0){B2:AB}(t0:FnV K mg "weaving_part_at" B2)(a3G:a8R P w K mg base)(g:a2T P w K mg base k Zad w8 l8):g8 P w K mg base "weaving_part_at" ["text","at","left"] (k+1) (k4 0 (I0 Zad w8 l8)):=by
 exists z0,k,a0f,el3 λ_ _ _=>rfl
 ext a
 ·refine r6 ?_ ?_ ?_
  ·exact E6 (a06 (a5 0 (pv 0)) j9 (a5 1 (pv 1)))
  ·exact d0 (i9 (f9 g.Zbe hr (by lia) rfl (a9 (a9 (a9 (a9 (a9 d7))))) (a7 (a5 0 (pv 0)) (a7 (d5 h9 (a5 1 (pv 1)) b4) (a7 (a5 2 (pv 2)) (a7 (b2I t0) (a7 j9 c7)))))))
  exact m8
 exact c8 (r6 (E6 (a06 (a5 0 (pv 0)) j9 (a5 1 (pv 1)))) (d0 (i9 (f9 a3G hr (by lia) rfl (a9 (a9 d7)) (a7 (a5 0 (pv 0)) (a7 (d5 h9 (a5 1 (pv 1)) b4) c7))))) m8) (d0 (i9 B8))
theorem b2e(Zbf:Df K mg "again_at" a3b)(a2S:Df K mg "parts_at" a3d)(T5:Df K mg "weaving_part_at" D0){B2:AB}(t0:FnV K mg "weaving_part_at" B2)(C2:Z3 P w K mg base)(a3G:a8R P w K mg base):∀n:Nat,a2T P w K mg base (49+n) (a1V n) (W4 n) (E8 n):=by
 intro n
 induction n with
 |zero=>exact⟨j6 (k:=48) Zbf a4Y (λ_ _ _ _ _ _=>el5 (λ_ _ _ _ _=>rfl)) λf cdv A outer s H E hr=>u7,j6 (k:=48) a2S a40 (λ_ _ _ _ _ _=>el4 (λ_ _ _ _=>rfl)) λf cdv A outer s H E hr=>u7,j6 (k:=48) T5 a0f (λ_ _ _ _ _ _=>el3 (λ_ _ _=>rfl)) λf cdv A outer s H E hr=>u7⟩
 |succ n ih=>
  exact⟨b32 P w base (Nat.le_add_right _ _) Zbf C2 ih,b4b P w base (Nat.le_add_right _ _) a2S t0 ih,a7l P w base (Nat.le_add_right _ _) T5 t0 a3G ih⟩
theorem b7f{k:Nat}(hk0:1<=k){a14:Λ}(D:Df K mg "rows_in" a6A)(a3H:g8 P w K mg base "rows_in" ["weaving"] k a14):g8 P w K mg base "rows_in" ["weaving"] (k+1) (k4 2 (a6g a14)):=by
 exists z0,k,a7t,el1 λ_=>rfl
 ext a
 ·exact i5 (i:=1) S.nd b4
 ext a
 ·ext i
  ·exact rfl
  ·exact a5 0 (pv 0)
  ·ext m
  ext k
  ·exact j0 (x9 hu) (g6 (a5 2 (pv 2)) b4) j9 (by first|rfl|exact nomark _)
  ·exact d0 (a4z (i:=1) S.nd (g6 (a5 2 (pv 2)) b4) a2E)
  exact d0 (a4z (i:=1) S.nd (d5 G8 (g6 (a5 2 (pv 2)) b4) (f9 a3H hr (by lia) rfl (a9 d7) (a7 (g6 (a5 2 (pv 2)) b4) c7))) a2E)
 exact d0 (T6 1 (pv 1))
theorem b5I(a6d:Df K mg "rows_in" a6A):∀n:Nat,g8 P w K mg base "rows_in" ["weaving"] (1+n) (a2v n):=by
 intro n
 induction n with
 |zero=>exact j6 (k:=0) a6d a7t (λ_ _ _ _ _ _=>el1 (λ_=>rfl)) λf cdv A outer s H E hr=>u7
 |succ n ih=>
  exact b7f P w base (Nat.le_add_right _ _) a6d ih
theorem b2h{k:Nat}(hk0:31<=k){V9:Λ}(D:Df K mg "lengths_in" a12)(M:MoB K mg)(Zag:a4m P w K mg base)(a0v:g8 P w K mg base "lengths_in" ["weaving"] k V9):g8 P w K mg base "lengths_in" ["weaving"] (k+1) (k4 2 (a1Q V9)):=by
 exists z0,k,a3x,el1 λ_=>rfl
 ext a
 ·exact i5 (i:=1) S.nd (N7 c7)
 ext a
 ·ext i
  ·exact rfl
  ·exact a5 0 (pv 0)
  ·ext m
  ext k
  ·exact j0 (x9 hu) (g6 (a5 2 (pv 2)) b4) j9 (by first|rfl|exact nomark _)
  ·exact d0 (E5 1 (pv 1) (D7 z8 rfl M.Zah (by rfl) (f9 Zag hr (by lia) rfl (a9 d7) (a7 (g6 (a5 2 (pv 2)) b4) c7))))
  exact d0 (b9j 1 (pv 1) (f9 a0v hr (by lia) rfl (a9 d7) (a7 (g6 (a5 2 (pv 2)) b4) c7)))
 exact d0 (T6 1 (pv 1))
theorem b1m(a1O:Df K mg "lengths_in" a12)(M:MoB K mg)(Zag:a4m P w K mg base):∀n:Nat,g8 P w K mg base "lengths_in" ["weaving"] (31+n) (S5 n):=by
 intro n
 induction n with
 |zero=>exact j6 (k:=30) a1O a3x (λ_ _ _ _ _ _=>el1 (λ_=>rfl)) λf cdv A outer s H E hr=>u7
 |succ n ih=>
  exact b2h P w base (Nat.le_add_right _ _) a1O M Zag ih
theorem b0g(D:Df K mg "read_weaving" a2H)(M:MoB K mg)(kb:K.In base){Zan:AB}(Zbd:XC K mg "NoWeaving" Zan){B2:AB}(t0:FnV K mg "weaving_part_at" B2)(Za5:PySem.W.excIn K Zan b1k "ValueError.__new__"=true){Zau:AA}{Za6:Nat}(Za7:mg "LONGEST"=ξ Zau)(Za8:a4n K Za6 Zau=ξ S8){Zar:AA}{Za1:Nat}(Za2:mg "MOST_WITHIN"=ξ Zar)(Za3:a4n K Za1 Zar=ξ O0)(Zay:b4G P w K mg base)(Zap:a7D P w K mg base)(a3H:b80 P w K mg base)(a0v:b3s P w K mg base):a5k P w K mg base:=by
 exists z1,91,a5e,el1 λ_=>rfl
 refine a2p ?_ ?_
 ·refine b42 ?_ ?_ ?_
  ·exact L1 (E6 (a4x (.inr (.inr (.inl rfl))) rfl M.Zaf (a5 0 (pv 0)) (a10 rfl M.Zby (by rfl) rfl)))
  ·ext s
  exact a4C m8
 refine a2p ?_ ?_
 ·exact c01 (i5 (i:=1) S.nd (f9 Zay hr (by decide) rfl (a9 (a9 (a9 (a9 d7)))) (a7 (a5 0 (pv 0)) (a7 b4 (a7 (a6j rfl Za2 Za3) (a7 (b2I t0) c7))))))
 refine a2p ?_ ?_
 ·refine b42 (PW.pt (Q3 (j0 Y9 (a5 1 (pv 1)) B8 (by first|rfl|exact nomark _)) (O7 (j0 (V4 hu) (g6 (a5 1 (pv 1)) b4) (D7 z8 rfl M.Zah (by rfl) (a5 0 (pv 0))) (by first|rfl|exact nomark _))))) ?_ ?_
  ·ext s
  exact a4C m8
 refine a2p ?_ ?_
 ·refine b42 (PW.pt (Q3 (j0 a2D (f9 a3H hr (by decide) rfl (a9 d7) (a7 (g6 (a5 1 (pv 1)) b4) c7)) (a6j rfl Za7 Za8) (by first|rfl|exact nomark _)) (O7 (j0 (V4 hu) (b6H rfl rfl M.Zah rfl M.Zb8 (f9 a0v hr (by decide) rfl (a9 d7) (a7 (g6 (a5 1 (pv 1)) b4) c7))) b4 (by first|rfl|exact nomark _))))) ?_ ?_
  ·ext s
  exact a4C m8
 exact a4C (d0 (i9 (g6 (a5 1 (pv 1)) b4)))
theorem a9e(D:Df K mg "written_times" a1I)(M:MoB K mg):R3 P w K mg base:=by
 exists z0,0,a39,el1 λ_=>rfl
 exact c8 (r6 (j0 (x9 hu) (a5 0 (pv 0)) b4 (by first|rfl|exact nomark _)) (d0 (i9 j9)) m8) (d0 (i9 (a9J b6D rfl M.Zby (by rfl) (a5 0 (pv 0)))))
theorem b2j{k:Nat}(hk0:1<=k){A8 Zab:Λ}(D:Df K mg "shown_fold" a13)(g:a4k P w K mg base k A8 Zab):g8 P w K mg base "shown_fold" ["fold"] (k+1) (k4 0 (a1R A8 Zab)):=by
 exists z0,k,a3y,el1 λ_=>rfl
 refine d0 ?_;refine i9 ?_;refine a4y ?_ ?_
 ·exact j9
 exists y0,["part"],["fold"],1,a96
 ·exact rfl
 ·exact b6J (a5 0 (pv 0))
 intro C fp pins s H;exact f9 g.Zaq hr (by lia) rfl (a9 d7) (a7 (a5 1 (pv 1)) c7)
theorem a6L{k:Nat}(hk0:1<=k){A8 Zab:Λ}(D:DfA K mg "shown_part_folds" "shown_part" Q9)(M:MoB K mg)(A9:R3 P w K mg base)(g:a4k P w K mg base k A8 Zab):g8 P w K mg base "shown_part_folds" ["part"] (k+1) (k4 0 (Q6 A8 Zab)):=by
 exists z2,k,X3,el1 λ_=>rfl
 ext a
 ·exact r6 (j0 (x9 hu) (g6 (a5 0 (pv 0)) b4) j9 (by first|rfl|exact nomark _)) (d0 (i9 (d5 h9 (g6 (a5 0 (pv 0)) b4) (f9 A9 hr (by lia) rfl (a9 d7) (a7 (g6 (a5 0 (pv 0)) b4) c7))))) m8
 exact d0 (i9 (d5 h9 (d5 h9 (d5 h9 j9 (f9 g.Zak hr (by lia) rfl (a9 d7) (a7 (g6 (a5 0 (pv 0)) b4) c7))) j9) (a9J b6D rfl M.Zby (by rfl) (g6 (a5 0 (pv 0)) b4))))
theorem b1n(a1P:Df K mg "shown_fold" a13)(Zas:DfA K mg "shown_part_folds" "shown_part" Q9)(M:MoB K mg)(A9:R3 P w K mg base):∀n:Nat,a4k P w K mg base (1+n) (S6 n) (K1 n):=by
 intro n
 induction n with
 |zero=>exact⟨j6 (k:=0) a1P a3y (λ_ _ _ _ _ _=>el1 (λ_=>rfl)) λf cdv A outer s H E hr=>u7,b0n (k:=0) Zas X3 (λ_ _ _ _ _ _=>el1 (λ_=>rfl)) λf cdv A outer s H E hr=>u7⟩
 |succ n ih=>
  exact⟨b2j P w base (Nat.le_add_right _ _) a1P ih,a6L P w base (Nat.le_add_right _ _) Zas M A9 ih⟩
theorem a4P{k:Nat}(hk0:31<=k){Zaa u6:Λ}(D:DfA K mg "shown_part_weavings" "shown_part" M1)(M:MoB K mg)(A9:R3 P w K mg base)(Zak:a7C P w K mg base)(g:S9 P w K mg base k Zaa u6):g8 P w K mg base "shown_part_weavings" ["part"] (k+1) (k4 0 (L9 Zaa u6)):=by
 exists z2,k,R0,el1 λ_=>rfl
 ext a
 ·refine r6 ?_ ?_ ?_
  ·exact j0 (x9 hu) (g6 (a5 0 (pv 0)) b4) j9 (by first|rfl|exact nomark _)
  ·refine d0 ?_;exact i9 (d5 h9 (d5 h9 (d5 h9 j9 (f9 Zak hr (by lia) rfl (a9 d7) (a7 (g6 (a5 0 (pv 0)) b4) c7))) j9) (f9 A9 hr (by lia) rfl (a9 d7) (a7 (g6 (a5 0 (pv 0)) b4) c7)))
  exact m8
 exact d0 (i9 (d5 h9 (d5 h9 (d5 h9 j9 (f9 g.Zam hr (by lia) rfl (a9 d7) (a7 (g6 (a5 0 (pv 0)) b4) c7))) j9) (a9J b6D rfl M.Zby (by rfl) (g6 (a5 0 (pv 0)) b4))))
theorem a9c{k:Nat}(hk0:31<=k){Zaa u6:Λ}(D:Df K mg "shown_weaving" Z1)(g:S9 P w K mg base k Zaa u6):g8 P w K mg base "shown_weaving" ["weaving"] (k+1) (k4 0 (Y5 Zaa u6)):=by
 exists z0,k,a1i,el1 λ_=>rfl
 refine d0 ?_;refine i9 ?_;refine a4y ?_ ?_
 ·exact j9
 exists y0,["part"],["weaving"],1,a7g
 ·exact rfl
 ·exact b6J (a5 0 (pv 0))
 intro C fp pins s H;exact f9 g.Zal hr (by lia) rfl (a9 d7) (a7 (a5 1 (pv 1)) c7)
theorem a33(Zao:DfA K mg "shown_part_weavings" "shown_part" M1)(Y4:Df K mg "shown_weaving" Z1)(M:MoB K mg)(A9:R3 P w K mg base)(Zak:a7C P w K mg base):∀n:Nat,S9 P w K mg base (31+n) (C6 n) (L0 n):=by
 intro n
 induction n with
 |zero=>exact⟨b0n (k:=30) Zao R0 (λ_ _ _ _ _ _=>el1 (λ_=>rfl)) λf cdv A outer s H E hr=>u7,j6 (k:=30) Y4 a1i (λ_ _ _ _ _ _=>el1 (λ_=>rfl)) λf cdv A outer s H E hr=>u7⟩
 |succ n ih=>
  exact⟨a4P P w base (Nat.le_add_right _ _) Zao M A9 Zak ih,a9c P w base (Nat.le_add_right _ _) Y4 ih⟩
theorem c5V{f:AB}{fd:FuncData}(F:Fun K "law" "law" c2r f fd)(M:MoB K mg)(a5v:a9t P w K mg base)(A0:a3k P w K mg base)(a7L:b7J P w K mg base)(Q2:b4F P w K mg base)(Za4:b13 P w K mg base)(K8:a8P P w K mg base)(a3I:b81 P w K mg base)(a5t:a9r P w K mg base)(a2n:a5k P w K mg base)(Zam:a9Z P w K mg base):a1v P w K mg base CX0 93 f fd ["_law_script"] (spP K 1 c1l):=by
 refine c04 (k:=92) F c2s λcdv A outer s H E hr=> ?_;have S:=c2s;have hu:=hr.units
 ext a
 ·refine a2o PassesOwn.never ?_ ?_ M.Zai ?_ ?_ (p9 1) ?_
  ·exact rfl
  ·exact rfl
  ·exact a7 b4 c7
  ·exact o8 (i:=1) S.nd rfl (Or.inl rfl)
  ext a
  ·exact i5 (i:=2) S.nd (f9 a5v hr (by decide) rfl (a9 (a9 d7)) (a7 (a5 0 (pv 0)) (a7 (d5 G8 b4 (a5 1 (pv 1))) c7)))
  refine c8 ?_ (c3x 2 (c3u (x:=4) (A:=[3]) (C:=[0,1,2,3,6]) (B:=[5]) (I:=[5]) S.nd rfl rfl rfl (f9 a7L hr (by decide) rfl (a9 d7) (a7 (a5 3 (pv 3)) c7)) (a18 (λΦ hS=>(b0U hS (PW.pt (Q3 (L1 (E6 (f9 K8 hr (by decide) rfl (a9 d7) (a7 (a5 4 (pv 4)) c7)))) (Q3 (j0 (V4 hu) (f9 A0 hr (by decide) rfl (a9 d7) (a7 (a5 4 (pv 4)) c7)) (a5 3 (pv 3)) (by first|rfl|exact nomark _)) (O7 (j0 (V4 hu) (f9 a3I hr (by decide) rfl (a9 d7) (a7 (a5 4 (pv 4)) c7)) (a5 3 (pv 3)) (by first|rfl|exact nomark _)))))) (a7P (a7Q a0w)) a7O)) (a18 (λΦ hS=>(c3s hS (i:=5) (by decide) S.nd (f9 Q2 hr (by decide) rfl (a9 d7) (a7 (a5 4 (pv 4)) c7)))) (a18 (λΦ hS=>(b0U hS (j0 a2D (a5 5 (pv 5)) (f9 Q2 hr (by decide) rfl (a9 d7) (a7 (a5 2 (pv 2)) c7)) (by first|rfl|exact nomark _)) (a7P (a7Q a0w)) a7O)) (a18 (λΦ hS=>(b0U hS (PW.pt (a4A (j0 a1q (D7 z8 rfl M.Zah (by rfl) (a5 3 (pv 3))) b4 (by first|rfl|exact nomark _)) (a4B (j0 (V4 hu) (a5 5 (pv 5)) (f9 a5t hr (by decide) rfl (a9 d7) (a7 (a5 3 (pv 3)) c7)) (by first|rfl|exact nomark _))))) (a7P (a7Q a0w)) a7O)) (a18 (λΦ hS=>(b0U hS (PW.pt (a4A (j0 a1q (D7 z8 rfl M.Zah (by rfl) (a5 3 (pv 3))) b4 (by first|rfl|exact nomark _)) (a4B (j0 a2D (f9 Q2 hr (by decide) rfl (a9 d7) (a7 (f9 a7L hr (by decide) rfl (a9 d7) (a7 (d5 h9 (a5 3 (pv 3)) (a5 3 (pv 3))) c7)) c7)) (d5 h9 (a5 5 (pv 5)) b4) (by first|rfl|exact nomark _))))) (a7P (a7Q a0w)) a7O)) (a18 (λΦ hS=>(b0U hS (j0 (V4 hu) (f9 A0 hr (by decide) rfl (a9 d7) (a7 (c3o a2n hr (by decide) rfl (a9 d7) (a7 (f9 Zam hr (by decide) rfl (a9 d7) (a7 (a5 4 (pv 4)) c7)) c7)) c7)) (a5 3 (pv 3)) (by first|rfl|exact nomark _)) (a7P (a7Q a0w)) a7O)) (c2c (c2N Za4 hr (by decide) rfl (pv 4) (c8 (i5 (i:=6) S.nd (f9 a7L hr (by decide) rfl (a9 d7) (a7 (a5 3 (pv 3)) c7))) (d0 (a1G 6 (r6 (PW.pt (Q3 (L1 (E6 (f9 K8 hr (by decide) rfl (a9 d7) (a7 (a5 6 (pv 6)) c7)))) (Q3 (j0 (V4 hu) (f9 A0 hr (by decide) rfl (a9 d7) (a7 (a5 6 (pv 6)) c7)) (a5 3 (pv 3)) (by first|rfl|exact nomark _)) (O7 (j0 (V4 hu) (f9 Q2 hr (by decide) rfl (a9 d7) (a7 (a5 6 (pv 6)) c7)) (a5 5 (pv 5)) (by first|rfl|exact nomark _)))))) (d0 (i9 a0w)) m8))))))))))))))
  exact i5 (i:=3) S.nd (f9 A0 hr (by decide) rfl (a9 d7) (a7 (a5 2 (pv 2)) c7))
 exact d0 (i9 a0w)
end
theorem c5e{l:PySem.W.OpenLaw}{w:AH}{K:AE}{h:Heap}{mg:Str->Υ AA}{fa:AB}(X:K.In h)(G:h.Ns mainGlobals mg)(hfa:mg "law"=ξ (.ref fa))
 {a5B:AB} {b9U b83:Υ AB} {c0c:Array (Υ AA)} {b9T b9z b9g b91 b2E b9c:AA}
 {a3Q:AB} {b7b b6w:Υ AB} {b7v:Array (Υ AA)} {b7a b6Y b6F b7n b0M b6E:AA}
 {U6:AB} {a98 a90:Υ AB} {b0i:Array (Υ AA)} {a97 a95 a92 b0h a48 a91:AA}
 {M8:AB} {a7i a6X:Υ AB} {a7v:Array (Υ AA)} {a7h a7d a63 a7m a2h a6Z:AA}
 {Zaj:AB}
 {Zan:AB}
 {Zbu:AA}
 {Za9:AA}
 {Zbb:AA}
 (t8:Df0 K "_law_number" a4V)
 (u3:Df0 K "_law_unfolded" a0O)
 (a2m:Df0 K "_law_fold" a4U)
 (N5:Df0 K "_law_cell_at" a3v)
 (a2W:Df0 K "_law_drawn" a5Y)
 (a8Y:Df0 K "_law_run" a9k)
 (a5u:Df0 K "_law_lines" a50)
 (A0:Df0 K "_law_unwoven" a1t)
 (X8:Df0 K "_law_weaving" a1u)
 (a5v:Df0 K "_law_woven" a51)
 (a62:Df0 K "is_alike" a7r)
 (a5s:Df0 K "is_repeat" a5X)
 (a8X:Df0 K "choices" a9j)
 (U4:Df0 K "best_choices" a2F)
 (b4I:PySem.W.nsIn K mainGlobals "run_of"=ξ (ξ (.ref a5B))) (b5k:K.lookup a5B=ξ ⟨b9T,b9U,.func (PySem.W.fnOf "run_of" "run_of" (O3 a38) (C3 a38) (d6 a38) .none b9z b9g b91 b83 b2E b9c),c0c⟩) (c0y:PySem.W.codeIn K b2E "run_of"=true) (c1A:PySem.W.keepIn K (.ref a5B)=true) (b9p:b1u K "run_of" a5B=true)
 (J5:Df0 K "parts_between" Z0)
 (a60:Df0 K "cheapest" a7q)
 (a2k:Df0 K "folded" b1F)
 (b2r:PySem.W.nsIn K mainGlobals "rows_of"=ξ (ξ (.ref a3Q))) (b2V:K.lookup a3Q=ξ ⟨b7a,b7b,.func (PySem.W.fnOf "rows_of" "rows_of" (O3 a19) (C3 a19) (d6 a19) .none b6Y b6F b7n b6w b0M b6E),b7v⟩) (b84:PySem.W.codeIn K b0M "rows_of"=true) (b9A:PySem.W.keepIn K (.ref a3Q)=true) (b6Q:b1u K "rows_of" a3Q=true)
 (E4:Df0 K "parts_between" W8)
 (a5r:Df0 K "cheapest" a5W)
 (a61:Df0 K "cost" b4m)
 (a7L:Df0 K "woven" b4n)
 (Z5:Df0 K "_law_cost" a4T)
 (Q2:Df0 K "_law_price" a3c)
 (Za4:Df0 K "_law_emptied" a3w)
 (z9:Df0 K "_law_is_count" a2G)
 (N6:Df0 K "_law_is_fold" a1s)
 (K8:Df0 K "_law_is_weaving" W7)
 (Zag:Df0 K "unfolded" a4X)
 (Zax:Df0 K "unfolded_part" Z2)
 (a3I:Df0 K "unwoven" a6B)
 (a03:Df0 K "_law_least_part" a1f)
 (a5t:Df0 K "_law_least" a5Z)
 (a8Z:Df0 K "run_end" a9m)
 (X7:Df0 K "figures_end" a3u)
 (a5w:Df0 K "number_in" a52)
 (a04:Df0 K "number_between" a1g)
 (C2:Df0 K "times_at" a7s)
 (Zbi:Df0 K "again_at" a4R)
 (a5l:PySem.W.nsIn K mainGlobals "fold_part_at"=ξ (ξ (.ref U6))) (a5H:K.lookup U6=ξ ⟨a97,a98,.func (PySem.W.fnOf "fold_part_at" "fold_part_at" (O3 L7) (C3 L7) (d6 L7) .none a95 a92 b0h a90 a48 a91),b0i⟩) (b0L:PySem.W.codeIn K a48 "fold_part_at"=true) (b06:PySem.W.keepIn K (.ref U6)=true) (a93:b1u K "fold_part_at" U6=true)
 (Za0:Df0 K "parts_at" a4W)
 (a2l:Df0 K "knots_in" a4S)
 (a5x:Df0 K "read_fold" a53)
 (a3G:Df0 K "rows_at" a9l)
 (Zbe:Df0 K "again_at" a3b)
 (Zay:Df0 K "parts_at" a3d)
 (a2U:PySem.W.nsIn K mainGlobals "weaving_part_at"=ξ (ξ (.ref M8))) (a25:K.lookup M8=ξ ⟨a7h,a7i,.func (PySem.W.fnOf "weaving_part_at" "weaving_part_at" (O3 D0) (C3 D0) (d6 D0) .none a7d a63 a7m a6X a2h a6Z),a7v⟩) (a7I:PySem.W.codeIn K a2h "weaving_part_at"=true) (a7Z:PySem.W.keepIn K (.ref M8)=true) (a65:b1u K "weaving_part_at" M8=true)
 (a3H:Df0 K "rows_in" a6A)
 (a0v:Df0 K "lengths_in" a12)
 (a2n:Df0 K "read_weaving" a2H)
 (A9:Df0 K "written_times" a1I)
 (Zak:Df0 K "shown_fold" a13)
 (Zaq:c0i K "shown_part_folds" "shown_part" Q9)
 (Zal:c0i K "shown_part_weavings" "shown_part" M1)
 (Zam:Df0 K "shown_weaving" Z1)
 (c6V:Df0 K "law" c2r)
 (nk:a8a K=true)
 (nl:b9R K=true)
 (Zb3:PySem.W.nsIn K mainGlobals "NoFold"=ξ (ξ (.ref Zaj))) (Zb4:(b3W K Zaj "NoFold" && b43 K Zaj)=true)
 (Zbz:PySem.W.nsIn K mainGlobals "NoWeaving"=ξ (ξ (.ref Zan))) (Zb0:(b3W K Zan "NoWeaving" && b43 K Zan)=true)
 (Zbg:PySem.W.excIn K Zaj b1k "ValueError.__new__"=true)
 (Za5:PySem.W.excIn K Zan b1k "ValueError.__new__"=true)
 (Zav:b5f K Zaj Zaj=true)
 (Zb7:PySem.W.nsIn K mainGlobals "all"=ξ ζ)
 (Zb1:PySem.W.nsIn K mainGlobals "bool"=ξ ζ)
 (Zb2:PySem.W.nsIn K mainGlobals "dict"=ξ ζ)
 (Zb6:PySem.W.nsIn K mainGlobals "int"=ξ ζ)
 (Zaf:PySem.W.nsIn K mainGlobals "isinstance"=ξ ζ)
 (Zah:PySem.W.nsIn K mainGlobals "len"=ξ ζ)
 (Zbt:PySem.W.nsIn K mainGlobals "list"=ξ ζ)
 (Zbv:PySem.W.nsIn K mainGlobals "min"=ξ ζ)
 (Zai:PySem.W.nsIn K mainGlobals "range"=ξ ζ)
 (Zb8:PySem.W.nsIn K mainGlobals "set"=ξ ζ)
 (Zby:PySem.W.nsIn K mainGlobals "str"=ξ ζ)
 (Zbl:PySem.W.nsIn K mainGlobals "tuple"=ξ ζ)
 (Zb5:PySem.W.nsIn K mainGlobals "LONGEST"=ξ (ξ Zbu)) (Zbm:a4n K 40 Zbu=ξ S8)
 (Zbr:PySem.W.nsIn K mainGlobals "MOST_FIGURES"=ξ (ξ Za9)) (Zbs:a4n K 40 Za9=ξ a0T)
 (Zbw:PySem.W.nsIn K mainGlobals "MOST_WITHIN"=ξ (ξ Zbb)) (Zbh:a4n K 40 Zbb=ξ O0)
 :∃fd:FuncData,(∀(s:AC) (v:AA),BindsTo s fd ⟨[v],[]⟩ [("_law_script",v)])/\∀base:Heap,K.In base->base.Ns mainGlobals mg->a1v l.prog w K mg base CX0 93 fa fd ["_law_script"] (b57 K):=by
 have v8:FnV K mg "fold_part_at" U6:=b3G (PySem.W.mg_of X G a5l) a5H rfl a93
 have Zat:Df0 K "fold_part_at" L7:=b4V a5l a5H b0L b06
 have U7:FnV K mg "rows_of" a3Q:=b3G (PySem.W.mg_of X G b2r) b2V rfl b6Q
 have a05:Df0 K "rows_of" a19:=b4V b2r b2V b84 b9A
 have a0i:FnV K mg "run_of" a5B:=b3G (PySem.W.mg_of X G b4I) b5k rfl b9p
 have U5:Df0 K "run_of" a38:=b4V b4I b5k c0y c1A
 have t0:FnV K mg "weaving_part_at" M8:=b3G (PySem.W.mg_of X G a2U) a25 rfl a65
 have Zap:Df0 K "weaving_part_at" D0:=b4V a2U a25 a7I a7Z
 have Zaw:XC K mg "NoFold" Zaj:=c46 X G Zb3 Zb4
 have Zbd:XC K mg "NoWeaving" Zan:=c46 X G Zbz Zb0
 have M:MoB K mg:=⟨PySem.W.mg_none_of X G Zb7,PySem.W.mg_none_of X G Zb1,PySem.W.mg_none_of X G Zb2,PySem.W.mg_none_of X G Zb6,PySem.W.mg_none_of X G Zaf,PySem.W.mg_none_of X G Zah,PySem.W.mg_none_of X G Zbt,PySem.W.mg_none_of X G Zbv,PySem.W.mg_none_of X G Zai,PySem.W.mg_none_of X G Zb8,PySem.W.mg_none_of X G Zby,PySem.W.mg_none_of X G Zbl,nk,nl⟩
 have Zbk:=PySem.W.mg_of X G Zb5
 have Zbn:=PySem.W.mg_of X G Zbr
 have Zbc:=PySem.W.mg_of X G Zbw
 refine c3Q (c6V.to X G) hfa (λ_ _ _ _ _ _ _=>rfl) main λbase f fd kb F=> ?_
 have a0r:=b2g l.prog w base (t8.to X G)
 obtain O5:=a9a l.prog w base (u3.to X G) M 26
 obtain a4h:=b30 l.prog w base (a2m.to X G) M a0r O5 5
 have a3i:=b1p l.prog w base (N5.to X G) M
 have b4z:=b35 l.prog w base (a2W.to X G) a4h a0r a3i
 have b8U:=b7d l.prog w base (a8Y.to X G)
 have b4B:=b37 l.prog w base (a5u.to X G) M b4z O5 a0r b8U a3i
 obtain X6:=b0a l.prog w base (A0.to X G) M O5 26
 obtain a1l:=b0b l.prog w base (X8.to X G) M a0r X6 6
 have b4C:=b39 l.prog w base (a5v.to X G) b4B a1l a0r a3i
 have b6n:=b5M l.prog w base (a62.to X G) M
 have b4y:=b34 l.prog w base (a5s.to X G) M
 have b8T:=b7c l.prog w base (a8X.to X G) M b6n b4y
 have a5h:=b0c l.prog w base (U4.to X G) M b8T
 have a7y:=b9X l.prog w base (U5.to X G)
 obtain Y3:=a8c l.prog w base (J5.to X G) a0i a7y 26
 have b6m:=b5L l.prog w base (a60.to X G) M a5h Y3 a7y
 have b0A:=b9W l.prog w base (a2k.to X G) M a0i b6m a7y
 have a8L:=b7g l.prog w base (a05.to X G) b0A
 obtain V8:=a7k l.prog w base (E4.to X G) U7 a8L 26
 have b4x:=b33 l.prog w base (a5r.to X G) M a5h V8 a8L
 obtain b0z:=c1U l.prog w base (a61.to X G) 26
 have c24:=c1V l.prog w base (a7L.to X G) U7 b4x a8L b0z b0A
 obtain a4g:=b3Z l.prog w base (Z5.to X G) M 26
 obtain a2R:=b2f l.prog w base (Q2.to X G) M a4g 26
 have Zbx:=b1q l.prog w base (Za4.to X G) M 26
 have a5i:=b0e l.prog w base (z9.to X G) M
 obtain a1k:=a99 l.prog w base (N6.to X G) M a5i 26
 obtain V7:=a7j l.prog w base (K8.to X G) M a5i a1k 26
 obtain⟨a2d,Zaz⟩:=b31 l.prog w base (Zag.to X G) (Zax.to X G) 30
 obtain a6e:=b5J l.prog w base (a3I.to X G) a2d 6
 have a8J:=a8e l.prog w base (a03.to X G) M
 have b4A:=b36 l.prog w base (a5t.to X G) M b0z b0A a8J
 have b8W:=b7h l.prog w base (a8Z.to X G) M
 have a6N:=b1o l.prog w base (X7.to X G) b8W
 have b4D:=b4a l.prog w base (a5w.to X G) M Zbn Zbs a6N
 have a8K:=a8f l.prog w base (a04.to X G) b4D
 have a6V:=b5R l.prog w base (C2.to X G) Zbk Zbm a6N a8K
 obtain⟨Zbj,a0q,a4i⟩:=b3X l.prog w base (Zbi.to X G) (Zat.to X G) (Za0.to X G) v8 a6V a7y 42
 obtain a4f:=b3Y l.prog w base (a2l.to X G) 16
 have b4E:=b4c l.prog w base (a5x.to X G) M kb Zaw v8 Zbg Zbk Zbm Zbc Zbh a4i a0q a4f
 have b8V:=b7e l.prog w base (a3G.to X G) Zaw Zav a6V b4E
 obtain⟨Zbf,a2S,T5⟩:=b2e l.prog w base (Zbe.to X G) (Zay.to X G) (Zap.to X G) t0 a6V b8V 42
 obtain a6d:=b5I l.prog w base (a3H.to X G) 16
 obtain a1O:=b1m l.prog w base (a0v.to X G) M a2d 16
 have b0B:=b0g l.prog w base (a2n.to X G) M kb Zbd t0 Za5 Zbk Zbm Zbc Zbh a2S T5 a6d a1O
 have a45:=a9e l.prog w base (A9.to X G) M
 obtain⟨a1P,Zas⟩:=b1n l.prog w base (Zak.to X G) (Zaq.to X G) M a45 30
 obtain⟨Zao,Y4⟩:=a33 l.prog w base (Zal.to X G) (Zam.to X G) M a45 a1P 30
 exact c5V l.prog w base F M b4C X6 c24 a2R Zbx V7 a6e b4A b0B Y4
end LW
namespace PySem.W.Fast
def tw16815700419168395717:=()
def tw18210479420354794522:=()
def tw1362689236765512846:=()
def tw843520997868370623:=()
def tw11056696727008032773:=()
def tw16765196581034353534:=()
def tw7607601783971370492:=()
def tw3024722512749869243:=()
def tw6791242839175991984:=()
def tw5094529158497300309:=()
def tw10162101959858585967:=()
def tw16449629958037861280:=()
def tw14825605665426939120:=()
def tw18214041624608058139:=()
def tw10813678497137583518:=()
def tw6528771351187487259:=()
def tw6499319085228577656:=()
def tw17639263946691408730:=()
def tw3530578250276353309:=()
def tw16984460065167942238:=()
def tw17261209880679851807:=()
def tw14518050278520006851:=()
def tw17820523089856185639:=()
def tw10587448899812332410:=()
def tw8681593213339393216:=()
def tw11595977331763092801:=()
def tw12876427745009876438:=()
def tw6401016435679233319:=()
def tw13227296667892441468:=()
def tw14560566587930057274:=()
def tw16709822827302555304:=()
def tw7216464826402288485:=()
def tw15462348064903434665:=()
def tw12908695862498394161:=()
def tw9375371400257680995:=()
def tw8458393634312253717:=()
def tw9662101377548059977:=()
def tw15122500436036841346:=()
def tw15037728277570653357:=()
def tw14380825215845423428:=()
def tw3292608703095194459:=()
def tw5951454286989315013:=()
def tw13952679370606158746:=()
def tw12728667579494346441:=()
def tw3915375670333625615:=()
def tw4979101017218518438:=()
def tw8912091780209424767:=()
def tw10050065879762676130:=()
def tw14183723727338749763:=()
def tw5987730508378058636:=()
def tw17489350662440518398:=()
def tw15307155583216409711:=()
def tw3085305530082648936:=()
def tw6932537057283254970:=()
def tw2367127701268375050:=()
def tw16207804154555040242:=()
def tw7278135074019367603:=()
def tw14363141365270179317:=()
def tw13272164528063472681:=()
def tw14885349918417707959:=()
def tw15587302601013947273:=()
def tw14142349264436783052:=()
def tw10412934843130846030:=()
def tw15156025742987300383:=()
def tw11128561671047986313:=()
def tw11125211675074619951:=()
def tw6372247798647060900:=()
def tw11129050557201580220:=()
def tw4445689176168343589:=()
def tw13121912057084927095:=()
def tw16242828946196504186:=()
def tw15002693256337299336:=()
def tw18357266609605388493:=()
def tw17675183850771415581:=()
def tw6370937457271793775:=()
def tw15702575342779669027:=()
def tw16704487697019072417:=()
def tw17271588842934947076:=()
def tw9958805042530493566:=()
def tw18372545002657569609:=()
def tw712717901518244425:=()
def tw7187187612608702312:=()
def tw16528411992282262081:=()
def tw6960277657646254599:=()
def tw8595082842812539690:=()
def tw4282000563029763598:=()
def tw10278317310229777464:=()
def tw10929381650157824736:=()
def tw4260305785365048492:=()
def tw10526511850722924244:=()
def tw10332458980973951944:=()
def tw185381179536063134:=()
def tw18069133546078760508:=()
def tw17128003863153744414:=()
def tw10574062447850034841:=()
def tw8211448336324107886:=()
def tw1392275289721254873:=()
def tw14295939297694332175:=()
def tw8491116733494467141:=()
def tw4428934711330198764:=()
def tw11683621145185175790:=()
def tw4523145405509150093:=()
def tw6125317602180947371:=()
def tw654356233660599183:=()
def tw10791031340745292114:=()
def tw12308577490289960614:=()
def tw18436005774518264585:=()
def tw11048125296535912625:=()
def tw11257849612234775292:=()
def tw17625564473892271554:=()
def tw18415211832466115209:=()
def tw2195634984964046758:=()
def tw5723292092392051627:=()
def tw2267872595727928280:=()
def tw8593012785418852213:=()
def tw1995705229308138671:=()
def tw14052798082938984106:=()
def tw6352262269467433335:=()
def tw14922360999361819642:=()
end PySem.W.Fast
open PySem PySem.W PyProof.Rows
set_option maxRecDepth 100000 in
set_option maxHeartbeats 0 in
theorem PySem.Challenge.cw_carpetkin_k35_whole_least_weavings_holds : PySem.Challenge.rw_carpetkin_k35_whole_least_weavings.Holds := by
 w_on;o_law;k_head;(case hw=>w_witness2)
 k_fill
 refine PU.c7I (k:=93) (x:="_law_script") (l:=PySem.Challenge.rw_carpetkin_k35_whole_least_weavings) (by decide) rfl rfl (fun w h Y=>PySem.W.kIn_of Y) ?F
 case F=>
  intro w mg fa h KX G hmg;refine' LW.c5e KX G hmg ?_ ?_ ?_ ?_ ?_ ?_ ?_ ?_ ?_ ?_ ?_ ?_ ?_ ?_ ?_ ?_ ?_ ?_ ?_ ?_ ?_ ?_ ?_ ?_ ?_ ?_ ?_ ?_ ?_ ?_ ?_ ?_ ?_ ?_ ?_ ?_ ?_ ?_ ?_ ?_ ?_ ?_ ?_ ?_ ?_ ?_ ?_ ?_ ?_ ?_ ?_ ?_ ?_ ?_ ?_ ?_ ?_ ?_ ?_ ?_ ?_ ?_ ?_ ?_ ?_ ?_ ?_ ?_ ?_ ?_ ?_ ?_ ?_ ?_ ?_ ?_ ?_ ?_ ?_ ?_ ?_ ?_ ?_ ?_ ?_ ?_ ?_ ?_ ?_ ?_ ?_ ?_ ?_ ?_ ?_ ?_ ?_ ?_ ?_ ?_
  all_goals first|(apply PU.b4V<;>k_is)|(apply PU.c5n<;>k_is)|(apply PU.dm_mk<;>first|k_is|kernel_rfl)|k_is|kernel_rfl|skip
