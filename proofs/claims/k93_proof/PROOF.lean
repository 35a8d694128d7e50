import PyProof.Rows.All
import Wide.All
import OpenK.AllK
import Wide.FinOn
import Lean
import PyProof.EqAt
import PyProof.EqKinds
import PyProof.TupleCall
import PyProof.Rows.SortPure
import PyProof.Rows.SortWalk
import PyProof.AttrMissHeap
import KE.KDictOf
import KE.KIntText
import PyProof.StrBlockH
import PyProof.CallStr
import PyProof.StrLawsIn
import PyProof.StrLawsOcc
import PyProof.StationsW
import PyProof.ExcClass2
import PyProof.ExcBaseAll.ValueError
import PyProof.ExcInit
import PyProof.InstStore
import OpenK.KOwn
import OpenK.KMake
import PyProof.InstStoreFacts
import PyProof.ExcAttrAll.ValueError
import OpenK.KCls
import PyProof.RulesTry
import PyProof.Rows.CatchBare
import PyProof.Rows.CatchOwn
import PyProof.NsDelKeeps
import PyProof.Rows.RuleDivmod
import PyProof.Rows.SumAny
import PySem.Challenge.RW_carpetkin_k93_mended_towards
set_option hygiene false
local macro_rules
|`(tactic|simp! [$a,*])=>`(tactic|simp (disch:=omega) only [$a,*])
|`(tactic|simp! [$a,*] at $l:ident)=>`(tactic|simp (disch:=omega) only [$a,*] at $l:ident)
local macro_rules
|`(tactic|ext a)=>`(tactic|(refine d7 ?_ ?_))
|`(tactic|ext b)=>`(tactic|(intro pins s σ H xs us Q I rv h;obtain⟨F,x,rx,rz,rfl,s0,h1,h2,k⟩:=h))
|`(tactic|ext c)=>`(tactic|(intro X hP hw hK hc i pins s σ H E I hf st hg;subst hP hw hK))
|`(tactic|ext d)=>`(tactic|(obtain⟨o,e,c,d⟩:=st;exact⟨o,e,λv z=>by rw [d] at z;cases z⟩))
|`(tactic|ext e)=>`(tactic|(intro pins s σ H x y v u Q I rx ry h;obtain⟨F,ra,rb,rz,s0,h1,h2,h3,k⟩:=h))
|`(tactic|ext f)=>`(tactic|(obtain⟨rx,e1,hm⟩:=bind_some hm;obtain⟨ry,e2,hm⟩:=bind_some hm;refine⟨F,ρ,rx,he,e1,λv F1 H1 o1=>⟨?_,⟨F1,ρ,ry,he.ext o1.x,e2,λu F2 H2 o2=>⟨F2,u,rx,ry,r,rfl,o2.x.fh,o1.rep.ext o2.x,o2.rep,hm,λz F3 H3 o3=>k z F3 H3 (w8.trans (o1.x.trans o2.x) o3)⟩⟩⟩⟩))
|`(tactic|ext g)=>`(tactic|(intro X hP hw hK hc i pins s σ H I fi st hg;subst hP hw hK))
|`(tactic|ext h)=>`(tactic|(obtain⟨f0,f1,f2,f3,f4,f5⟩:=hf it (by simp)))
|`(tactic|ext i)=>`(tactic|(intro pins s σ H Q I h))
|`(tactic|ext j)=>`(tactic|(obtain⟨rfl,hi⟩:=Z7 hp;have hi':(0:Int)+(i:Int)=(i:Int):=by lia))
|`(tactic|ext k)=>`(tactic|(obtain⟨its,r',pl,hz⟩:=I.list hq;obtain⟨o,ho,hc,n,hd⟩:=pl.isList;exact fin its "list" o n (.inl rfl) ho hc hd r'))
|`(tactic|ext l)=>`(tactic|(obtain⟨q,e1,e⟩:=bind_some e;obtain⟨r,e2,e3⟩:=bind_some e1;obtain⟨k,e4,e⟩:=bind_some e;obtain⟨rk,e4,e5⟩:=bind_some e4;refine⟨F,ρ,r,so.e,e2,λv F1 H1 o=> ?_⟩;obtain⟨F2,o2⟩:=o.toVal e3;have so2:=so.ext o2.x))
|`(tactic|ext m)=>`(tactic|(cases hc;cases rp;cases rq;obtain⟨tx,rfl⟩:=rx;obtain⟨ty,rfl⟩:=ry))
|`(tactic|ext n)=>`(tactic|(intro C fp pins s H))
|`(tactic|ext o)=>`(tactic|(rename_i c;cases h2;obtain⟨a,xs,rfl,hq,r⟩:=G5 s0 h1 e;obtain⟨u,rfl,ru⟩:=a0R rv;cases ru))
|`(tactic|ext p)=>`(tactic|(refine C8 PassesOwn.never ?_ ?_ M.Zae ?_ ?_ (n6 5) ?_))
|`(tactic|ext q)=>`(tactic|(obtain⟨its,r',⟨o,ho,hc,n,hd⟩,hz⟩:=I.tuple hq;exact fin its "tuple" o n (.inr rfl) ho hc hd r'))
|`(tactic|ext r)=>`(tactic|(obtain⟨rfl,hj⟩:=Z7 hp;have hj':(0:Int)+(j:Int)=(j:Int):=by lia))
|`(tactic|ext s)=>`(tactic|(have hlen:xs.length=kvs.length:=by have:=rl.length;rwa [AN] at this))
|`(tactic|ext t)=>`(tactic|(refine f7 ?_;refine m6 ?_))
|`(tactic|ext u)=>`(tactic|(obtain⟨b,ys,rfl,hs',r'⟩:=rq;cases ry;obtain⟨its2,rv',pl',hz'⟩:=I.tuple hs'.sq))
|`(tactic|ext v)=>`(tactic|(rw [x8];show(u4 [ξ (.v (.int n)),q1,ξ (.ow (.dct D)),q3,q4,q5,ξ (.own (W.map pl)),ξ (.v (.int (i:Int))),ξ (.v (T3 x.1 (x.2.1:Nat) (x.2.2:Nat))),q9]).bind _=_))
|`(tactic|ext w)=>`(tactic|(have he:=a5i (A:=A.in1) (s:=s) r r' rv rv' λp q x y u w hp' hq' rp' rq' rx' ry'=>ih A.in1 p q x y u w hu1 (x6 okp hp') (x6 okq hq') rp' rq' rx' ry';simp only [PyData.eqv]))
|`(tactic|ext x)=>`(tactic|(refine(List.pairwise_map.mp ps).imp λ {a b} h=> ?_;unfold leS at h;rw [a1V,a1V] at h;apply Classical.byContradiction;intro hno;exact h (List.Lex.rel (by lia))))
|`(tactic|ext y)=>`(tactic|(rw [x8];show(u3 [ξ (.v (.int n)),q1,q2,ξ (.ow (.dct D)),ξ (.own (W.map pl)),ξ (.v (.int (i:Int))),ξ (.v (T3 x.1 (x.2.1:Nat) (x.2.2:Nat))),q7]).bind _=_))
local macro_rules
|`(tactic|ext z)=>`(tactic|(simp! [h9,j7,AF,Ah,Aa,Af,Ad,AV,AW];rw [G6 (ι:=λk:Nat=>PyData.int (k:Int)) (f:=λc:Nat=>row [g r c]) (AK n) (T5 (n:=n) rfl (by lia)) (by rw [Av];lia)]))
|`(tactic|ext aa)=>`(tactic|(simp! [h9,j7,d4,t8,e9,d6,d0,c9,i7,i6,o9,g7,i8,l0,V7,k6,n4,AF,AV,AW,↓reduceIte,Bool.not_false,ix,hl,O8,J4,a2A,a2B,hin,E5];rw [P6 rfl (by lia),AF,i8]))
|`(tactic|ext ab)=>`(tactic|(obtain⟨_,e⟩:=q.ref;cases e))
|`(tactic|ext ac)=>`(tactic|(simp! [a5y,a4J,h9,o8,d4,t8,e9,k6,n4,AF,AN]))
|`(tactic|ext ad)=>`(tactic|(rename_i hl;cases e;obtain⟨w,hw1,a,xs,rfl,fa,ha',rl⟩:=so2.e.at_ i _ eo))
|`(tactic|ext ae)=>`(tactic|(have xx:=x3.trans (R5.lay (o:= .tup vs) x3.fh hb);exact⟨a,y,rfl,by rw [<-hy];exact a2d.t ha4 (by rw [g8,ev]),k _ _ _ (w8.val xx (A3.mono xx.f _ ry))⟩))
|`(tactic|ext af)=>`(tactic|(cases ru;obtain⟨_,_,_,_,o,_,_,e1,e2,_⟩:=I.hok a _ hq;exact PySem.W.kia_one PySem.W.kitx_dict I.kIn ⟨o,e1,e2.1⟩ kk (λz=>nomatch z) fin))
|`(tactic|ext ag)=>`(tactic|(obtain⟨j,h1,h2,h3,h4,h5⟩:=b0q he;obtain⟨w,ew,rw'⟩:=r.get h2;have hl:=r.length;have hn:=a70;have fin:EP X pins σ Q w s:=⟨z,H,I,rw',q⟩))
|`(tactic|ext ah)=>`(tactic|(unfold L2.atI L2.ixN;rw [if_pos (by decide),if_pos h]))
local macro_rules
|`(tactic|exists z0,$k,$s,$e)=>`(tactic|(refine p8 (k:=$k) D $s (λ_ _ _ _ _ _=>$e) λf cdv A outer s H E hr=> ?_;have S:=$s;have hu:=hr.units))
|`(tactic|exists z1,$k,$s,$e)=>`(tactic|(refine b4n (k:=$k) D $s (λ_ _ _ _ _ _=>$e) λf cdv A outer s H E hr hx=> ?_;have S:=$s;have hu:=hr.units))
|`(tactic|exists y0,$y,$n,$i,$d)=>`(tactic|refine N4 (ys:=$y) (N0:=$n) (λ_ _ h=>h) ?_ ⟨by kernel_rfl,rfl,of_decide_eq_true rfl,of_decide_eq_true rfl,of_decide_eq_true rfl⟩ ?_ (λC fp pins s H=>j3 (i:=$i) $d rfl (Or.inl rfl)) (λn h=>u6 (i:=$i) (Nat.le_of_eq h)) (λC fp pins s H=>X4) ?_)
|`(tactic|exists y1,$y,$n,$i,$d)=>`(tactic|refine N4 (ys:=$y) (N0:=$n) (λ_ _ h=>h) ?_ ⟨by kernel_rfl,rfl,of_decide_eq_true rfl,of_decide_eq_true rfl,of_decide_eq_true rfl⟩ ?_ (λC fp pins s H=>j3 (i:=$i) $d rfl (Or.inr rfl)) (λn h=>u6 (i:=$i) (Nat.le_of_eq h)) (λC fp pins s H=>X4) ?_)
set_option Elab.async false
set_option linter.all false
set_option maxRecDepth 100000
noncomputable section
open PySem renaming Value->AA,Addr->AB,wpAny_bind->AC,Shared->AE,wpAny->AG,wpAny_pure->AH,starEach->AJ,World->AL,Expr->AO,sizeLine->AQ,Program->AS,Around->AU
open PySem.W renaming Frag->AD
open Option renaming bind_some->AF,map_some->BB
open List renaming map_cons->AI,range->AK,length_map->AN,length_cons->AT,set_cons_zero->AV,set_cons_succ->AW,mem_cons->AX,mem_cons_self->AZ,replicate_zero->Aa,map_nil->Ab,nil_append->Ad,mem_map->Ae,cons_append->Af,mem_cons_of_mem->Ag,replicate_succ->Ah,length_nil->Ai,getElem?_map->Ak,getElem?_eq_some_iff->Al,append_nil->An,replicate->Aq,length_append->Ar,mem_append->At,map_map->Au,length_range->Av,getElem?_eq_getElem->Ax,mem_append_left->Ay,size_toArray->Az,getElem?_append_left->BC,mem_append_right->BD,mem_of_getElem?->BE,map_append->BF,getElem?_set_self->BI
open Nat renaming le_refl->AM,ne_of_lt->Aj,reduceLeDiff->Am,lt_of_lt_of_le->BA,le_of_lt->BG
open PySem.Str renaming ofString->AR
open PySem.Heap renaming get?_push_of_some->AY,lt_size->Ac,get?_push_size->Ao
open Bool renaming false_ne_true->As,false_eq_true->Aw
open Int renaming toNat_natCast->BH
open Option renaming some→ξ,none→ζ
theorem ω{α:Sort _}{a:α}:a=a:=Eq.trans rfl rfl
abbrev Δ(x:PySem.Str):Prop:=(x==("__debug__":PySem.Str))=false
abbrev Υ:=Option
open PySem.PyData renaming eqv->η
open PySem.PyData renaming eqvAll->θ
open Bool renaming and_eq_true->χ
abbrev ϡa:PySem.Str:="_law_carpet_here"
abbrev ϡb:PySem.Str:="_law_letters_here"
abbrev ϡc:PySem.Str:="_law_found"
abbrev ϡd:PySem.Str:="_law_wish"
abbrev ϡe:PySem.Str:="_law_goal_here"
abbrev ϡf:PySem.Str:="_law_movement_here"
abbrev ϡg:PySem.Str:="_law_due_here"
abbrev ϡh:PySem.Str:="_law_knots"
abbrev ϡi:PySem.Str:="_law_cell"
abbrev ϡj:PySem.Str:="_law_n"
open PySem PySem.Spec PyProof.Rows
namespace L2
abbrev Ψ(e:PySem.Expr)(es:List PySem.Expr)(v:PySem.Env):Prop:=AJ (e::es) v=(false,eval e v)::AJ es v
abbrev Φ₁(p:PySem.Pos)(es:List PySem.Expr)(v:PySem.Env):Prop:=(backTo p (AJ es v)).any (·.1)=false
theorem δ{p:Prop}[Decidable p](h:decide p=true):p:=of_decide_eq_true h
theorem u0{α β γ:Type _}{p q r:α->β->γ->Prop}{C:Prop}(h:∃a b c,p a b c/\q a b c/\r a b c)(k:∀a b c,p a b c->q a b c->r a b c->C):C:=
 h.elim λa h=>h.elim λb h=>h.elim λc h=>k a b c h.1 h.2.1 h.2.2
theorem o0{α β:Type _}{p q r:α->β->Prop}{C:Prop}(h:∃a b,p a b/\q a b/\r a b)(k:∀a b,p a b->q a b->r a b->C):C:=
 h.elim λa h=>h.elim λb h=>k a b h.1 h.2.1 h.2.2
theorem a3g{α β:Type _}{p q r s:α->β->Prop}{C:Prop}(h:∃a b,p a b/\q a b/\r a b/\s a b)(k:∀a b,p a b->q a b->r a b->s a b->C):C:=
 h.elim λa h=>h.elim λb h=>k a b h.1 h.2.1 h.2.2.1 h.2.2.2
abbrev k4:=Sum Int Str
def a4O:k4->AA->Bool
 | .inl k,v=>Value.isInt k v
 | .inr x,v=>Value.isStrOf x v
def b5O(w:AL):k4->Int
 | .inl k=>hashInt k
 | .inr x=>hashStr w x
theorem w6:∀{k:k4} {v:AA},a4O k v=true->(∃i t,k=Sum.inl i/\v=Value.int i t)\/(∃x t,k=Sum.inr x/\v=Value.str x t)
 | .inl i,v,h=>by
   obtain⟨t,e⟩:=Value.isInt_shape (k:=i) (v:=v) h;exact .inl ⟨i,t,rfl,e⟩
 | .inr x,v,h=>by
   obtain⟨t,e⟩:=Value.isStrOf_shape (x:=x) (v:=v) h;exact .inr ⟨x,t,rfl,e⟩
theorem b5P(i:Int)(t:Tok):a4O (.inl i) (.int i t)=true:=by simp [a4O,Value.isInt]
theorem b5Q(x:Str)(t:Tok):a4O (.inr x) (.str x t)=true:=by simp [a4O,Value.isStrOf]
theorem b7R(a b:Int):decide ((Sum.inl a:k4)=Sum.inl b)=(a==b):=by
 by_cases e:a=b
 ·subst e;simp
 ·have h:¬(Sum.inl a:k4)=Sum.inl b:=λq=>e (Sum.inl.inj q);rw [decide_eq_false h];exact(beq_eq_false_iff_ne.mpr e).symm
theorem b7S(a b:Str):decide ((Sum.inr a:k4)=Sum.inr b)=decide (a=b):=by
 by_cases e:a=b
 ·subst e;simp
 ·have h:¬(Sum.inr a:k4)=Sum.inr b:=λq=>e (Sum.inr.inj q);rw [decide_eq_false h,decide_eq_false e]
theorem c2p(a:Int)(b:Str):decide ((Sum.inl a:k4)=Sum.inr b)=false:=decide_eq_false (λq=>nomatch q)
theorem c2q(a:Str)(b:Int):decide ((Sum.inr a:k4)=Sum.inl b)=false:=decide_eq_false (λq=>nomatch q)
def m5(prog:AS)(w:AL):PySem.KeyKind prog w k4 where
 is:=a4O
 hash:=b5O w
 inj:=λv a b ha hb=>by
  rcases w6 ha with⟨i,t,rfl,rfl⟩|⟨x,t,rfl,rfl⟩
  ·rcases w6 hb with⟨j,u,rfl,e⟩|⟨y,u,rfl,e⟩
   ·injection e with e1 _;rw [e1]
   ·exact nomatch e
  ·rcases w6 hb with⟨j,u,rfl,e⟩|⟨y,u,rfl,e⟩
   ·exact nomatch e
   ·injection e with e1 _;rw [e1]
 byValue:=λk v h=>by
   rcases w6 h with⟨i,t,rfl,rfl⟩|⟨x,t,rfl,rfl⟩<;>rfl
 pyHash:=λhv h=>by
  rcases w6 hv with⟨i,t,rfl,rfl⟩|⟨x,t,rfl,rfl⟩
  ·exact wpAny_pyHash_int h
  ·exact wpAny_pyHash_str h
 eqBool:=λhu hv h=>by
  rcases w6 hu with⟨i,t,rfl,rfl⟩|⟨x,t,rfl,rfl⟩
  ·rcases w6 hv with⟨j,u,rfl,rfl⟩|⟨y,u,rfl,rfl⟩
   ·rw [b7R] at h;exact wpAny_eqBool_int h
   ·rw [c2p] at h;exact SeqAt.EqAt.int_str i t y u _ _ _ _ h
  ·rcases w6 hv with⟨j,u,rfl,rfl⟩|⟨y,u,rfl,rfl⟩
   ·rw [c2q] at h;exact SeqAt.EqAt.str_int x t j u _ _ _ _ h
   ·rw [b7S] at h;exact wpAny_eqBool_str h
 «strs»:=λk x t v h=>by
  rcases w6 h with⟨i,u,rfl,e⟩|⟨y,u,rfl,e⟩
  ·exact nomatch e
  ·injection e with e1 _
   subst e1;cases v<;>rfl
theorem a6q(prog:AS)(w:AL)(i:Int)(t:Tok):(m5 prog w).is (.inl i) (.int i t)=true:=b5P i t
theorem W3(prog:AS)(w:AL)(x:Str)(t:Tok):(m5 prog w).is (.inr x) (.str x t)=true:=b5Q x t
inductive V where
 |non|bl (b:Bool)|int (i:Int)|str (x:Str)|byt (b:Array UInt8)|flt (b:UInt64)|ref (a:AB)|ty (n:String)
 deriving DecidableEq
def m8:V->AA->Prop
 | .non,u=>u=Value.none
 | .bl b,u=>u=Value.bool b
 | .int i,u=>∃t,u=Value.int i t
 | .str x,u=>∃t,u=Value.str x t
 | .byt b,u=>∃t,u=Value.bytes b t
 | .flt b,u=>∃t,u=Value.float b t
 | .ref a,u=>u=Value.ref a
 | .ty n,u=>u=Value.type n
abbrev t0:List V->List AA->Prop:=Paired m8
theorem t0.length{xs:List V}{us:List AA}(r:t0 xs us):xs.length=us.length:=Paired.length r
theorem t0.get:∀{xs:List V} {us:List AA} {i:Nat} {x:V},t0 xs us->xs[i]?=ξ x->∃u,us[i]?=ξ u/\m8 x u
 |_,_,_,_,.nil,e=>by simp at e
 |_,_,0,_,.cons r _,e=>by simp at e;subst e;exact⟨_,rfl,r⟩
 |_,_,i+1,x,.cons _ t,e=>by
  obtain⟨u,h1,h2⟩:=t0.get (i:=i) (x:=x) t (by simpa using e)
  exact⟨u,by simpa using h1,h2⟩
theorem t0.append:∀{xs ys:List V} {us ws:List AA},t0 xs us->t0 ys ws->t0 (xs++ys) (us++ws)
 |_,_,_,_,.nil,s=>s
 |_,_,_,_,.cons r t,s=> .cons r (t0.append t s)
theorem t0.take:∀{xs:List V} {us:List AA} (n:Nat),t0 xs us->t0 (xs.take n) (us.take n)
 |_,_,0,_=> .nil
 |_,_,_+1,.nil=> .nil
 |_,_,n+1,.cons r t=> .cons r (t0.take n t)
theorem t0.drop:∀{xs:List V} {us:List AA} (n:Nat),t0 xs us->t0 (xs.drop n) (us.drop n)
 |_,_,0,r=>r
 |_,_,_+1,.nil=> .nil
 |_,_,n+1,.cons _ t=>t0.drop n t
def a3S:Υ V->Υ AA->Prop
 |some v,ξ u=>m8 v u
 |none,ζ=>True
 |_,_=>False
def KV:List (κ×V)->List (κ×AA)->Prop:=Paired λ(p:κ×V) (q:κ×AA)=>p.1=q.1/\m8 p.2 q.2
def kV:k4->V
 | .inl i=> .int i
 | .inr x=> .str x
inductive HO where
 |lst (xs:List V)
 |tup (xs:List V)
 |dK (kvs:List (k4×V))|dT (kvs:List (List k4×V))
 |set (S:Int->Bool) (n:Nat)
 |ins (C dx:AB) (fs:List (Str×V))
 |own (x:AB)
 |xd (fs:List (Str×V))
 |met (f x:AB)
 |rng (lo hi:Int)
 |frz (o:Obj) (u:HO)
 |tbl (ps:Array AA)
 |ext (φ:Heap->Prop)
abbrev Hp:=AB->Υ HO
def n5(H:Hp)(a:AB)(o:HO):Hp:=λb=>if b=a then ξ o else H b
theorem g8{H:Hp}{a:AB}{o:HO}:n5 H a o a=ξ o:=by unfold n5;rw [if_pos rfl]
theorem f9{H:Hp}{a b:AB}{o:HO}(h:b≠a):n5 H a o b=H b:=by unfold n5;rw [if_neg h]
theorem b45:n5 (n5 H a o) a u=n5 H a u:=by
 funext b;unfold n5;split<;>rfl
theorem Q7{H:Hp}{a b:AB}{o u:HO}(h:H a=ξ o)(h':H b=ξ u)(d:o≠u):a≠b:=by
 intro e;subst e;rw [h] at h';exact d (Option.some.inj h')
theorem j8{H:Hp}{a b:AB}{o:HO}(h:H a=ξ o)(h':H b=ζ):a≠b:=by
 intro e;subst e;rw [h] at h';cases h'
section
variable (P:AS)(w:AL)
def z8(H:Hp)(h:Heap)(a:AB):HO->Prop
 | .lst xs=>xs.length<=AQ/\∃(its:List AA) (n:Nat),t0 xs its/\h.get? a=ξ {cls:= .type "list",data:= .seq its.toArray n}
 | .tup xs=>xs.length<=AQ/\∃its:List AA,t0 xs its/\IsTup h a its.toArray
 | .dK kvs=>kvs.length<=AQ/\(a==sysModules)=false/\∃vs,KV kvs vs/\h.DictOf (m5 P w) a vs
 | .dT kvs=>kvs.length<=AQ/\(a==sysModules)=false/\∃xs:List (List k4×AB×AA),
  Paired (λ(p:List k4×V) (q:List k4×AB×AA)=>p.1=q.1/\H q.2.1=ξ (.tup (p.1.map kV))/\m8 p.2 q.2.2) kvs xs/\
  ∃o es ep,h.get? a=ξ o/\o.ExactDict/\o.data= .dict es ep/\es.toList=xs.map (entryOfKey (tupleKind (m5 P w)))/\(xs.map (·.1)).Nodup
 | .set S n=>h.SetOf (intKind P w) a S n
 | .ins C dx fs=>H dx=ξ (.own a)/\fs.length<=1000/\dx≠a/\h.get? a=ξ (PySem.W.instObj C dx)/\
  ∃mA,h.Ns1 dx mA/\(∀f,a3S (fs.lookup f) (mA f))/\PySem.Within mA (fs.map (·.1))
 | .own _=>∃o,h.get? a=ξ o
 | .xd fs=>∃mA,h.Ns1 a mA/\∀f,a3S (fs.lookup f) (mA f)
 | .rng lo hi=>∃t u v,h.get? a=ξ {cls:= .type "range",data:= .fields #[.int lo t,.int hi u,.int 1 v]}
 | .frz o u=>h.get? a=ξ o/\z8 H h a u
 | .tbl ps=>h.get? a=ξ {cls:= .none,data:= .fields ps}
 | .met f x=>h.get? a=ξ (PySem.W.methodObj (.ref f) (.ref x))
 | .ext φ=>φ h/\(∃o,h.get? a=ξ o)/\∀h1 h2:Heap,φ h1->(∀o,h1.get? a=ξ o->h2.get? a=ξ o)->φ h2
def HOk(H:Hp)(h:Heap):Prop:=∀a o,H a=ξ o->z8 P w H h a o
end
section
theorem z8.lt(x:z8 P w H h a o):a<h.objs.size:=by
 cases o with
 |lst xs=>obtain⟨_,_,_,_,e⟩:=x;exact Ac e
 |tup xs=>obtain⟨_,_,_,p⟩:=x;exact p.lt
 |dK kvs=>obtain⟨_,_,_,_,o,_,_,e,_⟩:=x;exact Ac e
 |dT kvs=>obtain⟨_,_,_,_,o,_,_,e,_⟩:=x;exact Ac e
 |set S n=>obtain⟨o,_,_,_,e,_⟩:=x;exact Ac e
 |ins C dx fs=>obtain⟨_,_,_,e,_⟩:=x;exact Ac e
 |own y=>obtain⟨_,e⟩:=x;exact Ac e
 |xd fs=>obtain⟨_,⟨_,_,_,e,_⟩,_⟩:=x;exact Ac e
 |rng lo hi=>obtain⟨_,_,_,e⟩:=x;exact Ac e
 |frz ob u=>obtain⟨e,_⟩:=x;exact Ac e
 |tbl ps=>exact Ac (show h.get? a=ξ _ from x)
 |met f y=>exact Ac (show h.get? a=ξ _ from x)
 |ext φ=>obtain⟨_,⟨_,e⟩,_⟩:=x;exact Ac e
theorem Paired.mapP:∀{l₁:List α} {l₂:List β},Paired F l₁ l₂->(∀a b,F a b->G a b)->Paired G l₁ l₂
 |_,_,.nil,_=> .nil
 |_,_,.cons r t,f=> .cons (f _ _ r) (Paired.mapP t f)
theorem z8.stay(x:z8 P w H h a o)(k:∀b u,(b=a\/H b=ξ (.own a))->h.get? b=ξ u->h'.get? b=ξ u)
 (ho:∀b,H b=ξ (.own a)->H' b=ξ (.own a)) (ht:∀b xs,H b=ξ (.tup xs)->H' b=ξ (.tup xs)):z8 P w H' h' a o:=by
 induction o with
 |lst xs=>obtain⟨z,its,n,r,e⟩:=x;exact⟨z,its,n,r,k _ _ (.inl rfl) e⟩
 |tup xs=>obtain⟨z,its,r,ob,e,c⟩:=x;exact⟨z,its,r,ob,k _ _ (.inl rfl) e,c⟩
 |dK kvs=>obtain⟨z,y,vs,r,ob,es,ep,e,c⟩:=x;exact⟨z,y,vs,r,ob,es,ep,k _ _ (.inl rfl) e,c⟩
 |dT kvs=>
  obtain⟨z,y,xs,r,ob,es,ep,e,c⟩:=x
  exact⟨z,y,xs,Paired.mapP r λp q z=>⟨z.1,ht _ _ z.2.1,z.2.2⟩,ob,es,ep,k _ _ (.inl rfl) e,c⟩
 |set S n=>obtain⟨ob,es,ep,t,e,c⟩:=x;exact⟨ob,es,ep,t,k _ _ (.inl rfl) e,c⟩
 |ins C dx fs=>
  obtain⟨d,z,ne,e,mA,⟨od,es,ep,e2,c⟩,r⟩:=x
  exact⟨ho _ d,z,ne,k _ _ (.inl rfl) e,mA,⟨od,es,ep,k _ _ (.inr d) e2,c⟩,r⟩
 |own y=>obtain⟨ob,e⟩:=x;exact⟨ob,k _ _ (.inl rfl) e⟩
 |xd fs=>obtain⟨mA,⟨od,es,ep,e,c⟩,r⟩:=x;exact⟨mA,⟨od,es,ep,k _ _ (.inl rfl) e,c⟩,r⟩
 |rng lo hi=>obtain⟨t,u,v,e⟩:=x;exact⟨t,u,v,k _ _ (.inl rfl) e⟩
 |frz ob u ih=>obtain⟨e,q⟩:=x;exact⟨k _ _ (.inl rfl) e,ih q⟩
 |tbl ps=>
  have e:h.get? a=ξ {cls:= .none,data:= .fields ps}:=x
  show h'.get? a=ξ {cls:= .none,data:= .fields ps}
  exact k a _ (.inl rfl) e
 |met f y=>
  have e:h.get? a=ξ (PySem.W.methodObj (.ref f) (.ref y)):=x
  show h'.get? a=ξ (PySem.W.methodObj (.ref f) (.ref y))
  exact k a _ (.inl rfl) e
 |ext φ=>obtain⟨p,⟨o,e⟩,st⟩:=x;exact⟨st _ _ p λo q=>k _ _ (.inl rfl) q,⟨o,k _ _ (.inl rfl) e⟩,st⟩
theorem HOk.lt(x:HOk P w H h)(e:H a=ξ o):a<h.objs.size:=(x a o e).lt
theorem HOk.fresh(x:HOk P w H h)(e:h.objs.size<=a):H a=ζ:=by
 cases q:H a with
 |none=>rfl
 |some u=>exact absurd (BA (x.lt q) e) (Nat.lt_irrefl _)
theorem HOk.kept(x:HOk P w H h)(k:∀b u,h.get? b=ξ u->h'.get? b=ξ u):HOk P w H h':=λa o e=>
 (x a o e).stay (λb u _ q=>k b u q) (λ_ q=>q) λ_ _ q=>q
theorem HOk.laid(x:HOk P w H h)(k:∀b u,h.get? b=ξ u->h'.get? b=ξ u)(hp:h.objs.size<=a)(new:z8 P w (n5 H a o) h' a o):HOk P w (n5 H a o) h':=λb u e=>by
 have hn:=x.fresh hp
 by_cases hb:b=a
 ·subst hb;rw [g8] at e;cases e;exact new
 ·rw [f9 hb] at e;exact(x b u e).stay (λc v _ q=>k c v q) (λc q=>by rw [f9 (j8 q hn)];exact q) λc xs q=>by rw [f9 (j8 q hn)];exact q
end
def Rd(H:Hp)(a:AB)(u:HO):Prop:=H a=ξ u\/∃o,H a=ξ (.frz o u)
theorem Rd.ok{P:AS}{w:AL}{H:Hp}{h:Heap}{a:AB}{u:HO}(r:Rd H a u)(x:HOk P w H h):z8 P w H h a u:=by
 rcases r with r|⟨o,r⟩
 ·exact x a u r
 ·obtain⟨_,q⟩:=x a _ r;exact q
def Mut:Υ HO->Prop
 |some (.lst _)=>True
 |some (.dK _)=>True
 |some (.dT _)=>True
 |some (.set _ _)=>True
 |some (.ins _ _ _)=>True
 |some (.ext _)=>True
 |_=>False
section
theorem HOk.write(ok:HOk P w H h)(mu:Mut (H x))(he:e=x\/H e=ξ (.own x))(k:∀b u,b≠e->h.get? b=ξ u->h'.get? b=ξ u)(heo:∃u,h'.get? e=ξ u)
 (new:z8 P w (n5 H x o') h' x o'):HOk P w (n5 H x o') h':=λb u q=>by
 have nown:∀c y,H c=ξ (.own y)->c≠x:=λc y r z=>by subst z;rw [r] at mu;exact mu
 have ntup:∀c xs,H c=ξ (.tup xs)->c≠x:=λc xs r z=>by subst z;rw [r] at mu;exact mu
 by_cases hb:b=x
 ·subst hb;rw [g8] at q;cases q;exact new
 ·rw [f9 hb] at q
  by_cases hbe:b=e
  ·have q':H b=ξ (.own x):=by
    rcases he with z|z
    ·exact absurd (hbe.trans z) hb
    ·rw [hbe];exact z
   rw [q] at q';cases q';obtain⟨v,hv⟩:=heo;exact⟨v,by rw [hbe];exact hv⟩
  ·refine(ok b u q).stay (λc v hc r=>k c v ?_ r) (λc r=>by rw [f9 (nown c b r)];exact r) λc xs r=>by rw [f9 (ntup c xs r)];exact r
   rcases hc with rfl|hc
   ·exact hbe
   ·rintro rfl
    rcases he with z|z
    ·exact nown c b hc z
    ·rw [hc] at z;cases z;exact hb rfl
end
structure Un(fs ex:List AB)(H H':Hp)(h h':Heap):Prop where
 keep:∀b o,h.get? b=ξ o->H b=ζ->b∉fs->b∉ex->h'.get? b=ξ o
 slot:∀b o,h.get? b=ξ o->H b=ζ->b∈fs->b∉ex->∃sl,h'.get? b=ξ {o with slots:=sl}
 free:∀b o,h.get? b=ξ o->H b=ζ->b∉ex->H' b=ζ
 there:∀b o,h.get? b=ξ o->b∉ex->∃o',h'.get? b=ξ o'
 tups:∀b xs,H b=ξ (.tup xs)->H' b=ξ (.tup xs)
 frzs:∀b o u,H b=ξ (.frz o u)->H' b=ξ (.frz o u)
 tbls:∀b ps,H b=ξ (.tbl ps)->∃more,H' b=ξ (.tbl (ps++more))
section
theorem Un.any(u:Un fs ex H H1 h h1){b:AB}{ob:Obj}(q:h.get? b=ξ ob)(n:H b=ζ)(hx:b∉ex):∃sl,h1.get? b=ξ {ob with slots:=sl}:=by
 by_cases hb:b∈fs
 ·exact u.slot b ob q n hb hx
 ·exact⟨ob.slots,u.keep b ob q n hb hx⟩
theorem Un.kept(k:∀b u,h.get? b=ξ u->h'.get? b=ξ u):Un fs ex H H h h':=
 ⟨λb ob q _ _ _=>k b ob q,λb ob q _ _ _=>⟨ob.slots,k b ob q⟩,λ_ _ _ n _=>n,λb ob q _=>⟨ob,k b ob q⟩,λ_ _ q=>q,λ_ _ _ q=>q,λ_ ps q=>⟨#[],by rw [q];simp⟩⟩
theorem Un.refl:Un fs ex H H h h:=Un.kept λ_ _ q=>q
theorem Un.laid(k:∀b u,h.get? b=ξ u->h'.get? b=ξ u)(hp:h.objs.size<=a)(hn:H a=ζ):Un fs ex H (n5 H a o) h h' where
 keep:=λb u q _ _ _=>k b u q
 slot:=λb u q _ _ _=>⟨u.slots,k b u q⟩
 free:=λb u q n _=>by rw [f9 (Aj (BA (Ac q) hp))];exact n
 there:=λb u q _=>⟨u,k b u q⟩
 tups:=λb xs q=>by rw [f9 (j8 q hn)];exact q
 frzs:=λb u xs q=>by rw [f9 (j8 q hn)];exact q
 tbls:=λb ps q=>⟨#[],by rw [f9 (j8 q hn),q];simp⟩
theorem Un.write(mu:Mut (H x))(he:e=x\/H e=ξ (.own x))(k:∀b u,b≠e->h.get? b=ξ u->h'.get? b=ξ u)(heo:∃u,h'.get? e=ξ u):Un fs ex H (n5 H x o) h h':=by
 have hx:∀b,H b=ζ->b≠x:=λb n z=>by subst z;rw [n] at mu;exact mu
 have hb:∀b,H b=ζ->b≠e:=λb n z=>by
  subst z;rcases he with r|r
  ·exact hx b n r
  ·rw [n] at r;cases r
 have hm:∀b u,H b=ξ u->¬Mut (ξ u)->b≠x:=λb u q nm z=>by subst z;rw [q] at mu;exact nm mu
 refine⟨λb u q n _ _=>k b u (hb b n) q,λb u q n _ _=>⟨u.slots,k b u (hb b n) q⟩,λb u q n _=>by rw [f9 (hx b n)];exact n,λb u q _=> ?_,
  λb xs q=>by rw [f9 (hm b _ q λz=>z)];exact q,λb u xs q=>by rw [f9 (hm b _ q λz=>z)];exact q,λb ps q=>⟨#[],by rw [f9 (hm b _ q λz=>z),q];simp⟩⟩
 by_cases hbe:b=e
 ·subst hbe;exact heo
 ·exact⟨u,k b u hbe q⟩
end
def trk(h:Heap)(H:Hp):List AB:=(AK h.objs.size).filter λa=>(H a).isSome
def b0O(h:Heap)(H:Hp):Heap:=PySem.W.hideAll h (trk h H)
theorem b5G(h:Heap)(H:Hp):(b0O h H).objs.size=h.objs.size:=PySem.W.hideAll_size _ _
theorem b7H(e:h.get? b=ξ o)(n:H b=ζ):(b0O h H).get? b=ξ o:=
 PySem.W.hideAll_get _ e λhm=>by
  have q:(H b).isSome=true:=(List.mem_filter.mp hm).2;rw [n] at q;simp at q
theorem c0x(e:(b0O h H).get? b=ξ o):h.get? b=ξ o/\H b=ζ:=by
 have e':h.get? b=ξ o:=PySem.W.of_hideAll (trk h H) e;refine⟨e', ?_⟩;cases q:H b with
 |none=>rfl
 |some x=>
  have hm:b∈trk h H:=List.mem_filter.mpr ⟨List.mem_range.mpr (Ac e'),by simp [q]⟩
  have z:(b0O h H).get? b=ζ:=PySem.W.hideAll_none (trk h H) hm;rw [z] at e;cases e
structure Mod(K:AD)(mg:Str->Υ AA)(base:Heap):Prop where
 kin:K.In base
 glob:base.Ns mainGlobals mg
 blt:∃mb,base.Ns builtinsNs mb/\∀x:Str,x≠"__name__"->mb x=bootBuiltins x
 nolimit:base.NoLimit
structure Cx where
 prog:AS
 w:AL
 K:AD
 mg:Str->Υ AA
 base:Heap
 A:AU
 N:List Str
 s₀:AE
 H₀:Hp
 env:Env
 outer:List Env
 stack:List Env
 ex:List AB
 fn:Str->Bool
 calm:Bool
 pn:List (AB×Obj)
 xe:AA->AE->Prop
def frs(l:List Env):List AB:=l.filterMap (·.frame)
abbrev Cx.fs(X:Cx):List AB:=frs X.outer
def Vis(sc:Scope)(x:Str):Prop:=sc.names.lookup x=ξ .local\/sc.names.lookup x=ξ .cell\/sc.names.lookup x=ξ .free
def Loc(sc:Scope)(x:Str):Prop:=sc.names.lookup x=ξ .local\/sc.names.lookup x=ξ .cell
def c4E(env:Env)(h:Heap)(m:Str->Υ AA)(x:Str)(u:AA):Prop:=
 (env.kindOf x=ξ .local/\m x=ξ u)\/((env.kindOf x=ξ .cell\/env.kindOf x=ξ .free)/\∃c,env.cells.lookup x=ξ c/\h.IsCell c (ξ u))
structure Cx.Ok(X:Cx):Prop where
 mod:Mod X.K X.mg X.base
 kind:X.env.scope.kind= .function
 glob:X.env.globals=mainGlobals
 blt:X.env.builtins=builtinsNs
 above:X.s₀.heap.objs.size<=X.env.locals
 inj:∀x y c,X.env.cells.lookup x=ξ c->X.env.cells.lookup y=ξ c->x=y
 has:∀x,(X.env.kindOf x=ξ .cell\/X.env.kindOf x=ξ .free)->∃c,X.env.cells.lookup x=ξ c
 cab:∀x c,X.fn x=true->X.env.cells.lookup x=ξ c->X.s₀.heap.objs.size<=c
 hd:X.calm=true->X.A.handled=ζ
 frames:X.A.frames=ξ X.stack
 stk:X.stack=X.outer\/(X.stack=X.env::X.outer/\X.env.frame=ξ X.env.locals)
 exf:∀b∈X.ex,b≠X.env.locals/\∀x c,X.env.cells.lookup x=ξ c->c≠b
 bs:∀b o,X.base.get? b=ξ o->X.s₀.heap.get? b=ξ o/\X.H₀ b=ζ
 bsz:X.base.objs.size<=X.s₀.heap.objs.size
 noex:∀b o,X.base.get? b=ξ o->b∉X.ex
 exfs:∀b∈X.ex,b∉X.fs
 funs:X.s₀.heap.FunFrames X.base X.outer
 frf:∀b∈X.fs,X.H₀ b=ζ
structure j4(X:Cx)(pins:List (AB×Obj))(σ:List (Υ V))(H:Hp)(s:AE):Prop where
 ok:X.Ok
 os:s.os=X.s₀.os
 bare:AllBare s.gens
 base:Un X.fs X.ex X.H₀ H X.s₀.heap s.heap
 loc:∃m,s.heap.Ns X.env.locals m/\∀(i:Nat) (x:Str) (v:V),X.N[i]?=ξ x->σ[i]?=ξ (ξ v)->Vis X.env.scope x->∃u,m8 v u/\c4E X.env s.heap m x u
 cell:∀x c,X.env.cells.lookup x=ξ c->∃v,s.heap.IsCell c v
 free:H X.env.locals=ζ
 freeC:∀x c,X.env.cells.lookup x=ξ c->H c=ζ
 pin:∀p∈X.pn++pins,s.heap.get? p.1=ξ p.2/\H p.1=ζ/\p.1≠X.env.locals/\p.1∉X.fs/\∀v,p.2.data≠.cell v
 hok:HOk X.prog X.w H s.heap
 len:σ.length=X.N.length
section
variable {X:Cx}{pins:List (AB×Obj)}{σ:List (Υ V)}{H H':Hp}{s:AE}{h':Heap}
theorem Cx.Ok.nofr(ok:X.Ok)(e:X.base.get? b=ξ o):b∉X.fs:=λhb=>by
 have:=(ok.funs.mem hb).1;rw [e] at this;cases this
theorem j4.bs(I:j4 X pins σ H s):∀b o,X.base.get? b=ξ o->s.heap.get? b=ξ o/\H b=ζ:=λb o e=>
 ⟨I.base.keep b o (I.ok.bs b o e).1 (I.ok.bs b o e).2 (I.ok.nofr e) (I.ok.noex b o e),I.base.free b o (I.ok.bs b o e).1 (I.ok.bs b o e).2 (I.ok.noex b o e)⟩
theorem j4.bk(I:j4 X pins σ H s):∀b o,X.base.get? b=ξ o->s.heap.get? b=ξ o:=λb o e=>(I.bs b o e).1
theorem j4.mod(I:j4 X pins σ H s):Mod X.K X.mg X.base:=I.ok.mod
theorem j4.kIn(I:j4 X pins σ H s):X.K.In s.heap:=I.ok.mod.kin.keeps I.bk
theorem j4.lt(I:j4 X pins σ H s):X.env.locals<s.heap.objs.size:=let ⟨_,hn,_⟩:=I.loc;hn.lt
theorem j4.sz(I:j4 X pins σ H s):X.s₀.heap.objs.size<=s.heap.objs.size:=Nat.le_trans I.ok.above (BG I.lt)
theorem j4.nofs(I:j4 X pins σ H s)(h:s.heap.objs.size<=a):a∉X.fs:=λhb=>by
 obtain⟨_,o,ho,_⟩:=I.ok.funs.mem hb;exact absurd (BA (Ac ho) (Nat.le_trans I.sz h)) (Nat.lt_irrefl _)
theorem j4.cne(I:j4 X pins σ H s):∀x c,X.env.cells.lookup x=ξ c->c≠X.env.locals:=λx c e z=>by
 obtain⟨v,o,ho,hd⟩:=I.cell x c e;obtain⟨m,⟨o',es,ep,ho',hd',_⟩,_⟩:=I.loc;rw [z,ho'] at ho;cases ho;rw [hd'] at hd;cases hd
theorem j4.funs(I:j4 X pins σ H s):s.heap.FunFrames X.base X.outer:=by
 have all:∀(l:List Env),(∀b∈frs l,b∈X.fs)->X.s₀.heap.FunFrames X.base l->s.heap.FunFrames X.base l:=by
  intro l
  induction l with
  |nil=>intro _ _;trivial
  |cons env r ih=>
   intro hs hl;obtain⟨hk,⟨L,o,hf,hn,ho,hd⟩,hr⟩:=hl;have hL:L∈X.fs:=hs L (by unfold frs;rw [List.filterMap_cons,hf];exact AZ)
   obtain⟨sl,e⟩:=I.base.slot L o ho (I.ok.frf L hL) hL λz=>I.ok.exfs L z hL;exact⟨hk,⟨L,_,hf,hn,e,hd⟩,ih (λb hb=>hs b (by unfold frs;rw [List.filterMap_cons,hf];exact Ag _ hb)) hr⟩
 exact all X.outer (λ_ hb=>hb) I.ok.funs
theorem j4.stack(I:j4 X pins σ H s):s.heap.FunFrames X.base X.stack:=by
 rcases I.ok.stk with e|⟨e,hf⟩
 ·rw [e];exact I.funs
 ·rw [e];obtain⟨m,hn,_⟩:=I.loc;refine .cons (by rw [I.ok.kind];decide) hf hn ?_ I.funs
  exact Heap.get?_none_of_le (Nat.le_trans I.ok.bsz I.ok.above)
theorem j4.stkSub(I:j4 X pins σ H s):∀b∈frs X.stack,b∈X.env.locals::X.fs:=λb hb=>by
 rcases I.ok.stk with e|⟨e,hf⟩
 ·rw [e] at hb;exact Ag _ hb
 ·rw [e] at hb;unfold frs at hb;rw [List.filterMap_cons,hf] at hb;exact hb
theorem j4.stkFree(I:j4 X pins σ H s):∀b∈frs X.stack,H b=ζ:=λb hb=>by
 rcases AX.mp (I.stkSub b hb) with e|hb
 ·rw [e];exact I.free
 ·obtain⟨_,o,ho,_⟩:=I.ok.funs.mem hb;exact I.base.free b o ho (I.ok.frf b hb) λz=>I.ok.exfs b z hb
theorem j4.step{g':Array GenState}{t':Nat}{d':Drawn}{ch:List AB}(I:j4 X pins σ H s)
 (hch:∀b∈ch,(b∈X.ex\/X.s₀.heap.objs.size<=b)/\b≠X.env.locals/\(∀x c,X.env.cells.lookup x=ξ c->c≠b)/\∀p∈X.pn++pins,p.1≠b)
 (keep:∀b o,b≠X.env.locals->b∉X.fs->b∉ch->s.heap.get? b=ξ o->H b=ζ->h'.get? b=ξ o)
 (slot:∀b o,b≠X.env.locals->b∈X.fs->b∉ch->s.heap.get? b=ξ o->H b=ζ->∃sl,h'.get? b=ξ {o with slots:=sl}) (free:∀b o,b∉ch->s.heap.get? b=ξ o->H b=ζ->H' b=ζ)
 (there:∀b o,b∉ch->s.heap.get? b=ξ o->∃o',h'.get? b=ξ o')
 (tups:∀b xs,H b=ξ (.tup xs)->H' b=ξ (.tup xs)) (frzs:∀b o u,H b=ξ (.frz o u)->H' b=ξ (.frz o u)) (tbls:∀b ps,H b=ξ (.tbl ps)->∃more,H' b=ξ (.tbl (ps++more)))
 (ns:∀m,s.heap.Ns X.env.locals m->h'.Ns X.env.locals m) (hok:HOk X.prog X.w H' h') (hg:AllBare g'):
 j4 X pins σ H' {s with heap:=h',gens:=g',drawn:=d',toks:=t'}:=by
 have neL:∀b o,X.s₀.heap.get? b=ξ o->b≠X.env.locals:=λb o e=>Aj (BA (Ac e) I.ok.above)
 have neC:∀b o,X.s₀.heap.get? b=ξ o->b∉X.ex->b∉ch:=λb o e hx hb=>by
  rcases(hch b hb).1 with z|z
  ·exact hx z
  ·exact absurd (BA (Ac e) z) (Nat.lt_irrefl _)
 have cellK:∀x c,X.env.cells.lookup x=ξ c->∀v,s.heap.IsCell c v->h'.IsCell c v:=λx c e v ⟨o,ho,hd⟩=>by
  have nch:c∉ch:=λz=>(hch c z).2.2.1 x c e rfl
  by_cases hc:c∈X.fs
  ·obtain⟨sl,q⟩:=slot c o (I.cne x c e) hc nch ho (I.freeC x c e);exact⟨_,q,hd⟩
  ·exact⟨o,keep c o (I.cne x c e) hc nch ho (I.freeC x c e),hd⟩
 refine⟨I.ok,I.os,hg,⟨λb o e n hb hx=> ?_,λb o e n hb hx=> ?_,λb o e n hx=> ?_,λb o e hx=> ?_,λb xs e=>tups b xs (I.base.tups b xs e),λb o xs e=>frzs b o xs (I.base.frzs b o xs e),λb ps e=> ?_⟩, ?_,λx c e=> ?_, ?_,λx c e=> ?_,λp hp=> ?_,hok,I.len⟩
 ·exact keep b o (neL b o e) hb (neC b o e hx) (I.base.keep b o e n hb hx) (I.base.free b o e n hx)
 ·obtain⟨sl,e1⟩:=I.base.slot b o e n hb hx
  obtain⟨sl',e2⟩:=slot b _ (neL b o e) hb (neC b o e hx) e1 (I.base.free b o e n hx)
  exact⟨sl',e2⟩
 ·obtain⟨o',e1⟩:=I.base.there b o e hx
  exact free b o' (neC b o e hx) e1 (I.base.free b o e n hx)
 ·obtain⟨o',e1⟩:=I.base.there b o e hx
  exact there b o' (neC b o e hx) e1
 ·obtain⟨m1,e1⟩:=I.base.tbls b ps e
  obtain⟨m2,e2⟩:=tbls b _ e1
  exact⟨m1++m2,by rw [e2,Array.append_assoc]⟩
 ·obtain⟨m,hn,hl⟩:=I.loc
  refine⟨m,ns m hn,λi x v e1 e2 e3=> ?_⟩
  obtain⟨u,r,l⟩:=hl i x v e1 e2 e3
  refine⟨u,r, ?_⟩
  rcases l with l|⟨k,c,e,z⟩
  ·exact .inl l
  ·exact .inr ⟨k,c,e,cellK x c e _ z⟩
 ·obtain⟨v,z⟩:=I.cell x c e
  exact⟨v,cellK x c e v z⟩
 ·obtain⟨m,⟨o,_,_,ho,_⟩,_⟩:=I.loc
  exact free _ o (λz=>(hch _ z).2.1 rfl) ho I.free
 ·obtain⟨v,o,ho,hd⟩:=I.cell x c e
  exact free c o (λz=>(hch c z).2.2.1 x c e rfl) ho (I.freeC x c e)
 ·obtain⟨e,n,ne,nf,d⟩:=I.pin p hp
  have nch:p.1∉ch:=λz=>(hch p.1 z).2.2.2 p hp rfl
  exact⟨keep p.1 p.2 ne nf nch e n,free p.1 p.2 nch e n,ne,nf,d⟩
theorem j4.un{t':Nat}(I:j4 X pins σ H s)(u:Un X.fs [] H H' s.heap h')(hok:HOk X.prog X.w H' h'):j4 X pins σ H' {s with heap:=h',toks:=t'}:=by
 obtain⟨m,⟨o,es,ep,ho,r⟩,_⟩:=id I.loc;obtain⟨sl,hL⟩:=u.any ho I.free (by simp)
 exact I.step (g':=s.gens) (d':=s.drawn) (ch:=[]) (λ_ z=>nomatch z) (λb o _ hb _ e n=>u.keep b o e n hb (by simp)) (λb o _ hb _ e n=>u.slot b o e n hb (by simp)) (λb o _ e n=>u.free b o e n (by simp)) (λb o _ e=>u.there b o e (by simp)) u.tups u.frzs u.tbls (λm' hm=>by
  obtain⟨o',es',ep',ho',r'⟩:=hm;rw [ho] at ho';cases ho';exact⟨_,es',ep',hL,r'⟩) hok I.bare
theorem j4.call{g':Array GenState}{t':Nat}{d':Drawn}{ch:List AB}(I:j4 X pins σ H s)(u:Un (frs X.stack) ch H H' s.heap h')(hok:HOk X.prog X.w H' h')(hg:AllBare g')
 (hch:∀b∈ch,(b∈X.ex\/X.s₀.heap.objs.size<=b)/\b≠X.env.locals/\(∀x c,X.env.cells.lookup x=ξ c->c≠b)/\∀p∈X.pn++pins,p.1≠b):
 j4 X pins σ H' {s with heap:=h',gens:=g',drawn:=d',toks:=t'}:=by
 obtain⟨m,⟨o,es,ep,ho,r⟩,_⟩:=id I.loc
 obtain⟨sl,hL⟩:=u.any ho I.free λz=>(hch _ z).2.1 rfl
 exact I.step (ch:=ch) hch (λb o hL hb hc e n=>u.keep b o e n (λz=>(AX.mp (I.stkSub b z)).elim hL hb) hc) (λb o _ _ hc e n=>u.any e n hc) (λb o hc e n=>u.free b o e n hc) (λb o hc e=>u.there b o e hc) u.tups u.frzs u.tbls (λm' hm=>by
  obtain⟨o',es',ep',ho',r'⟩:=hm;rw [ho] at ho';cases ho';exact⟨_,es',ep',hL,r'⟩) hok hg
theorem j4.turned{t':Nat}{it:AB}(I:j4 X pins σ H s)(k:∀b o,b≠it->s.heap.get? b=ξ o->h'.get? b=ξ o)(hn:H it=ζ)(hL:it≠X.env.locals)
 (h1:it∈X.ex\/X.s₀.heap.objs.size<=it) (h2:∀x c,X.env.cells.lookup x=ξ c->c≠it) (h3:∀p∈X.pn++pins,p.1≠it):j4 X pins σ H {s with heap:=h',toks:=t'}:=by
 have nit:∀b u,H b=ξ u->b≠it:=λb u e z=>by rw [z,hn] at e;cases e
 refine I.step (g':=s.gens) (d':=s.drawn) (ch:=[it]) (λb hb=> ?_) (λb o _ _ hc e _=>k b o (λz=>hc (by simp [z])) e) (λb o _ _ hc e _=>⟨o.slots,k b o (λz=>hc (by simp [z])) e⟩) (λ_ _ _ _ n=>n)
  (λb o hc e=>⟨o,k b o (λz=>hc (by simp [z])) e⟩) (λ_ _ e=>e) (λ_ _ _ e=>e) (λb ps e=>⟨#[],by rw [e];simp⟩) (λm hm=> ?_) (λb u e=> ?_) I.bare
 ·have e:b=it:=by simpa using hb
  subst e
  exact⟨h1,hL,h2,h3⟩
 ·obtain⟨o,es,ep,ho,r⟩:=hm
  exact⟨o,es,ep,k _ o (Ne.symm hL) ho,r⟩
 ·refine(I.hok b u e).stay (λc v hc q=>k c v ?_ q) (λ_ q=>q) λ_ _ q=>q
  rcases hc with z|z
  ·rw [z];exact nit b u e
  ·exact nit c _ z
theorem j4.tok(I:j4 X pins σ H s)(t:Nat):j4 X pins σ H {s with toks:=t}:=I.un (h':=s.heap) (t':=t) Un.refl I.hok
theorem j4.kept(I:j4 X pins σ H s)(k:∀b u,s.heap.get? b=ξ u->h'.get? b=ξ u):j4 X pins σ H {s with heap:=h',toks:=t'}:=I.un (Un.kept k) (I.hok.kept k)
theorem j4.laid{a:AB}{o:HO}{t':Nat}(I:j4 X pins σ H s)(k:∀b u,s.heap.get? b=ξ u->h'.get? b=ξ u)(hp:s.heap.objs.size<=a)(new:z8 X.prog X.w (n5 H a o) h' a o):
 j4 X pins σ (n5 H a o) {s with heap:=h',toks:=t'}:=I.un (Un.laid k hp (I.hok.fresh hp)) (I.hok.laid k hp new)
theorem j4.write(I:j4 X pins σ H s)(mu:Mut (H x))(he:e=x\/H e=ξ (.own x))(k:∀b u,b≠e->s.heap.get? b=ξ u->h'.get? b=ξ u)(heo:∃u,h'.get? e=ξ u)
 (new:z8 X.prog X.w (n5 H x o) h' x o):j4 X pins σ (n5 H x o) {s with heap:=h',toks:=t'}:=I.un (Un.write mu he k heo) (I.hok.write mu he k heo new)
theorem j4.weak(I:j4 X pins σ H s)(hl:σ'.length=σ.length)(w:∀(i:Nat) v,σ'[i]?=ξ (ξ v)->σ[i]?=ξ (ξ v)):j4 X pins σ' H s:=
 ⟨I.ok,I.os,I.bare,I.base,let ⟨m,hn,hl'⟩:=I.loc;⟨m,hn,λi x v e1 e2 e3=>hl' i x v e1 (w i v e2) e3⟩,I.cell,I.free,I.freeC,I.pin,I.hok,hl.trans I.len⟩
theorem j4.pins_of(I:j4 X pins σ H s)(h:∀p∈pins',s.heap.get? p.1=ξ p.2/\H p.1=ζ/\p.1≠X.env.locals/\p.1∉X.fs/\∀v,p.2.data≠.cell v):j4 X pins' σ H s:=
 ⟨I.ok,I.os,I.bare,I.base,I.loc,I.cell,I.free,I.freeC,λp hp=>(At.mp hp).elim (λz=>I.pin p (Ay _ z)) (h p),I.hok,I.len⟩
theorem a8a{N:List Str}(hN:N.Nodup){i j:Nat}{x:Str}(a:N[i]?=ξ x)(b:N[j]?=ξ x):i=j:=by
 obtain⟨h1,e1⟩:=Al.mp a;obtain⟨h2,e2⟩:=Al.mp b;exact(List.getElem_inj hN).mp (e1.trans e2.symm)
theorem b0e{M:Model}{A:AU}{E:AA->AE->Prop}{i:Nat}{x:Str}{v:V}{u:AA}{Q:Unit->AE->Prop}(I:j4 X pins σ H s)(hN:X.N.Nodup)(hi:X.N[i]?=ξ x)(hx:Loc X.env.scope x)(r:m8 v u)
 (h:∀s',j4 X pins (σ.set i (ξ v)) H s'->(∃a,Heap.SameBut a s.heap s'.heap/\(a=X.env.locals\/X.env.cells.lookup x=ξ a))->Q () s') (hf:X.fn x=true\/X.env.scope.names.lookup x=ξ .local:=by first|exact .inl rfl|exact .inr rfl|assumption):AG M A (storeName X.env x u) Q E s:=by
 obtain⟨m,hn,hl⟩:=id I.loc
 have hcls:(X.env.scope.kind== .class||(X.env.scope.kind== .module && X.env.locals !=X.env.globals))=false:=by rw [I.ok.kind];rfl
 have hiσ:i<σ.length:=by rw [I.len];exact(Al.mp hi).1
 have cne:=I.cne
 have tracked:∀{a:AB} {h':Heap},(∃o,s.heap.get? a=ξ o/\H a=ζ)->Heap.SameBut a s.heap h'->HOk X.prog X.w H h':=λ {a h'} ha hs b ob e=>by
  obtain⟨_,_,hfree⟩:=ha;refine(I.hok b ob e).stay (λc w' hc q=>(hs.2 c ?_).trans q) (λ_ q=>q) λ_ _ q=>q;rintro rfl;rcases hc with rfl|hc
  ·rw [hfree] at e;cases e
  ·rw [hfree] at hc;cases hc
 rcases hx with hk|hk
 ·refine wpAny_storeName_local hk hn (λh' hn' hs=> ?_) hcls
  obtain⟨oL,_,_,hoL,_⟩:=id hn
  refine h _ ⟨I.ok,I.os,I.bare,⟨λb o e n hb hx=> ?_,λb o e n hb hx=> ?_,I.base.free,λb o e hx=> ?_,I.base.tups,I.base.frzs,I.base.tbls⟩,⟨_,hn',λj y v' e1 e2 e3=> ?_⟩,λy c e=> ?_,I.free,I.freeC,λp hp=> ?_,tracked ⟨oL,hoL,I.free⟩ hs,by simpa using I.len⟩ ⟨_,hs,.inl rfl⟩
  ·exact(hs.2 b (Aj (BA (Ac e) I.ok.above))).trans (I.base.keep b o e n hb hx)
  ·obtain⟨sl,e1⟩:=I.base.slot b o e n hb hx
   exact⟨sl,(hs.2 b (Aj (BA (Ac e) I.ok.above))).trans e1⟩
  ·obtain⟨o',e1⟩:=I.base.there b o e hx
   exact⟨o',(hs.2 b (Aj (BA (Ac e) I.ok.above))).trans e1⟩
  ·by_cases hj:j=i
   ·subst hj
    rw [hi] at e1;cases e1
    rw [BI hiσ] at e2
    cases e2
    exact⟨u,r,.inl ⟨hk,by simp⟩⟩
   ·rw [List.getElem?_set_ne (Ne.symm hj)] at e2
    obtain⟨u',r',q⟩:=hl j y v' e1 e2 e3
    refine⟨u',r', ?_⟩
    rcases q with⟨k,e⟩|⟨k,c,e,z⟩
    ·refine .inl ⟨k, ?_⟩
     have:y≠x:=λe=>hj (a8a hN e1 (e▸hi))
     simp [this,e]
    ·exact .inr ⟨k,c,e,z.sameBut hs (cne y c e)⟩
  ·obtain⟨w',z⟩:=I.cell y c e
   exact⟨w',z.sameBut hs (cne y c e)⟩
  ·obtain⟨e,n,ne,nf,d⟩:=I.pin p hp
   exact⟨(hs.2 p.1 ne).trans e,n,ne,nf,d⟩
 ·have hfn:X.fn x=true:=by
   rcases hf with z|z
   ·exact z
   ·rw [z] at hk;cases hk
  obtain⟨c,hc⟩:=I.ok.has x (.inl hk);obtain⟨w',z⟩:=I.cell x c hc;refine wpAny_storeName_cell I.ok.kind hk hc z (λh' hc' hs=> ?_);obtain⟨oc,hoc,hocd⟩:=id z;refine h {s with heap:=h'} ⟨I.ok,I.os,I.bare,⟨λb o e n hb hx=> ?_,λb o e n hb hx=> ?_,I.base.free,λb o e hx=> ?_,I.base.tups,I.base.frzs,I.base.tbls⟩,⟨m,hn.sameBut hs (Ne.symm (cne x c hc)),λj y v' e1 e2 e3=> ?_⟩,λy c' e=> ?_,I.free,I.freeC,λp hp=> ?_,tracked ⟨oc,hoc,I.freeC x c hc⟩ hs,by simpa using I.len⟩ ⟨c,hs,.inr hc⟩
  ·exact(hs.2 b (Aj (BA (Ac e) (I.ok.cab x c hfn hc)))).trans (I.base.keep b o e n hb hx)
  ·obtain⟨sl,e1⟩:=I.base.slot b o e n hb hx;exact⟨sl,(hs.2 b (Aj (BA (Ac e) (I.ok.cab x c hfn hc)))).trans e1⟩
  ·obtain⟨o',e1⟩:=I.base.there b o e hx;exact⟨o',(hs.2 b (Aj (BA (Ac e) (I.ok.cab x c hfn hc)))).trans e1⟩
  ·by_cases hj:j=i
   ·subst hj;rw [hi] at e1;cases e1;rw [BI hiσ] at e2;cases e2;exact⟨u,r,.inr ⟨.inl hk,c,hc,hc'⟩⟩
   ·rw [List.getElem?_set_ne (Ne.symm hj)] at e2;obtain⟨u',r',q⟩:=hl j y v' e1 e2 e3;refine⟨u',r', ?_⟩;rcases q with q|⟨k,c',e,z'⟩
    ·exact .inl q
    ·refine .inr ⟨k,c',e,z'.sameBut hs ?_⟩;rintro rfl;exact hj (a8a hN e1 (I.ok.inj _ _ _ e hc▸hi))
  ·by_cases hcc:c'=c
   ·subst hcc;exact⟨_,hc'⟩
   ·obtain⟨w2,z2⟩:=I.cell y c' e;exact⟨w2,z2.sameBut hs hcc⟩
  ·obtain⟨e,n,ne,nf,d⟩:=I.pin p hp;refine⟨(hs.2 p.1 ?_).trans e,n,ne,nf,d⟩;intro q;rw [q,hoc] at e;have q':oc=p.2:=Option.some.inj e;exact d w' (by rw [<-q'];exact hocd)
theorem a1o(I:j4 X pins σ H s)(hN:X.N.Nodup)(hi:X.N[i]?=ξ x)(hx:Loc X.env.scope x)(r:m8 v u)
 (h:∀s',j4 X pins (σ.set i (ξ v)) H s'->Q () s') (hf:X.fn x=true\/X.env.scope.names.lookup x=ξ .local:=by first|exact .inl rfl|exact .inr rfl|assumption):AG M A (storeName X.env x u) Q E s:=
 b0e I hN hi hx r (λs' I' _=>h s' I') hf
theorem j4.call'(I:j4 X pins σ H s)(ho:s'.os=s.os)(u:Un (frs X.stack) ch H H' s.heap s'.heap)(hok:HOk X.prog X.w H' s'.heap)(hg:AllBare s'.gens)
 (hch:∀b∈ch,(b∈X.ex\/X.s₀.heap.objs.size<=b)/\b≠X.env.locals/\(∀x c,X.env.cells.lookup x=ξ c->c≠b)/\∀p∈X.pn++pins,p.1≠b):j4 X pins σ H' s':=by
 obtain⟨h',g',d',t',o'⟩:=s'
 have e:o'=s.os:=ho
 subst e
 exact I.call (g':=g') (t':=t') (d':=d') u hok hg hch
end
abbrev XK:=AA->Υ AB->Hp->Prop
abbrev St:=List (Υ V)
abbrev VK:=V->Hp->Prop
abbrev TE:=St->Hp->VK->Prop
abbrev TT:=St->Hp->(Bool->Hp->Prop)->Prop
abbrev TA:=St->Hp->(List V->Hp->Prop)->Prop
structure R8 where
 nx:St->Hp->Prop
 rt:VK
 bk:St->Hp->Prop:=λ_ _=>False
 ct:St->Hp->Prop:=λ_ _=>False
abbrev TS:=R8->St->Hp->Prop
def EP(X:Cx)(pins:List (AB×Obj))(σ:St)(Q:VK)(u:AA)(s':AE):Prop:=∃v H',j4 X pins σ H' s'/\m8 v u/\Q v H'
def TP(X:Cx)(pins:List (AB×Obj))(σ:St)(Q:Bool->Hp->Prop)(b:Bool)(s':AE):Prop:=∃H',j4 X pins σ H' s'/\Q b H'
def AP(X:Cx)(pins:List (AB×Obj))(σ:St)(Q:List V->Hp->Prop)(us:List AA)(s':AE):Prop:=∃vs H',j4 X pins σ H' s'/\t0 vs us/\Q vs H'
def SP(X:Cx)(pins:List (AB×Obj))(D:R8)(f:Flow)(s':AE):Prop:=
 match f with
 | .next=>∃σ' H',j4 X pins σ' H' s'/\D.nx σ' H'
 | .brk=>∃σ' H',j4 X pins σ' H' s'/\D.bk σ' H'
 | .cont=>∃σ' H',j4 X pins σ' H' s'/\D.ct σ' H'
 | .ret u=>∃v σ' H',j4 X pins σ' H' s'/\m8 v u/\D.rt v H'
def PE(X:Cx)(e:AO)(t:TE):Prop:=
 ∀pins s σ (H:Hp) (Q:VK),j4 X pins σ H s->t σ H Q->AG (model X.prog X.w) X.A (eval e X.env) (EP X pins σ Q) X.xe s
def PT(X:Cx)(e:AO)(t:TT):Prop:=
 ∀pins s σ (H:Hp) (Q:Bool->Hp->Prop),j4 X pins σ H s->t σ H Q->AG (model X.prog X.w) X.A (isTrue e X.env (eval e X.env)) (TP X pins σ Q) X.xe s
def PW(X:Cx)(e:AO)(t:TT):Prop:=
 ∀(whole:Sem AA) (pins:List (AB×Obj)) (s:AE) (σ:St) (H:Hp) (Q:Bool->Hp->Prop),j4 X pins σ H s->t σ H Q->AG (model X.prog X.w) X.A (isTrue e X.env whole) (TP X pins σ Q) X.xe s
theorem PW.pt(h:PW X e t):PT X e t:=h _
def PA(X:Cx)(es:List AO)(t:TA):Prop:=
 ∀(pos:Pos) (pins:List (AB×Obj)) (s:AE) (σ:St) (H:Hp) (Q:List V->Hp->Prop),j4 X pins σ H s->t σ H Q->AG (model X.prog X.w) X.A (spliced (backTo pos (AJ es X.env))) (AP X pins σ Q) X.xe s
def PS(X:Cx)(st:Stmt)(t:TS):Prop:=
 ∀pins s σ (H:Hp) (D:R8),j4 X pins σ H s->t D σ H->AG (model X.prog X.w) X.A (exec st X.env) (SP X pins D) X.xe s
def PSs(X:Cx)(st:List Stmt)(t:TS):Prop:=
 ∀pins s σ (H:Hp) (D:R8),j4 X pins σ H s->t D σ H->AG (model X.prog X.w) X.A (execs st X.env) (SP X pins D) X.xe s
theorem E2(h:AG M A t Q E s)(hQ:∀a s,Q a s->Q' a s):AG M A t Q' E s:=wpAny_mono h hQ λ_ _ x=>x
section
def G9(i:Nat):TE:=λσ H Q=>∃v,σ[i]?=ξ (ξ v)/\Q v H
def tC(v:V):TE:=λ_ H Q=>Q v H
theorem c2Y(hN:X.N[i]?=ξ x)(hv:Vis X.env.scope x)(hd:Δ x:=by decide)(hcd:(x==("__classdict__":Str))=false:=by decide):PE X (.Name x pos) (G9 i):=by
 ext i
 obtain⟨v,e,h⟩:=h;obtain⟨m,hn,hl⟩:=I.loc;obtain⟨u,r,l⟩:=hl i x v hN e hv;have fin:EP X pins σ Q u s:=⟨v,H,I,r,h⟩;rcases l with⟨hk,hm⟩|⟨hk,c,hc,hcell⟩
 ·exact wpAny_Name (wpAny_loadName_local I.ok.kind hk hn hm fin) hd
 ·rcases hk with hk|hk
  ·exact wpAny_Name (wpAny_loadName_cell I.ok.kind hk hc hcell fin) hd
  ·exact wpAny_Name (wpAny_loadName_free I.ok.kind hk hc hcell fin hcd) hd
theorem c2S{i j pos}:PE X (.Constant (.int i) j pos) (tC (.int i)):=λ_ _ _ H _ I h=>wpAny_Constant_int ⟨.int i,H,I.tok _,⟨_,rfl⟩,h⟩
theorem c4a{b j pos}:PE X (.Constant (.bool b) j pos) (tC (.bl b)):=λ_ _ _ H _ I h=>Constant_bool ⟨.bl b,H,I,rfl,h⟩
theorem c2U{j pos}:PE X (.Constant .none j pos) (tC .non):=λ_ _ _ H _ I h=>Constant_none ⟨.non,H,I,rfl,h⟩
theorem c2X{x j pos}:PE X (.Constant (.str x) j pos) (tC (.str x)):=λ_ _ _ H _ I h=>Calls.Constant_str ⟨.str x,H,I.tok _,⟨_,rfl⟩,h⟩
def Gl(X:Cx)(x:Str):Prop:=X.env.kindOf x=ξ .globalImplicit
theorem a0L(I:j4 X pins σ H s)(hg:Gl X x)(hm:X.mg x=ξ u)(h:Q u s)
 (hd:Δ x:=by decide):AG (model X.prog X.w) X.A (eval (.Name x pos) X.env) Q E s:=
 Calls.Name_function_global I.ok.kind hg (Calls.loadGlobal_global (by rw [I.ok.glob];exact I.mod.glob.keeps I.bk) hm h) hd
theorem a7X(I:j4 X pins σ H s)(hg:Gl X x)(hm:X.mg x=ζ)(hv:bootBuiltins x=ξ u)(h:Q u s)
 (hn:x≠"__name__":=by decide) (hd:Δ x:=by decide):AG (model X.prog X.w) X.A (eval (.Name x pos) X.env) Q E s:=by
 obtain⟨mb,h1,h2⟩:=I.mod.blt
 exact Calls.Name_function_global I.ok.kind hg (Calls.loadGlobal_builtin (by rw [I.ok.glob];exact I.mod.glob.keeps I.bk) hm (by rw [I.ok.blt];exact h1.keeps I.bk) ((h2 x hn).trans hv) h) hd
theorem a65(hg:Gl X x)(hm:X.mg x=ξ u)(r:m8 v u)(hd:Δ x:=by decide):PE X (.Name x pos) (tC v):=
 λ_ _ _ H _ I h=>a0L I hg hm ⟨v,H,I,r,h⟩ hd
theorem Q8(hg:Gl X x)(hm:X.mg x=ζ)(hv:bootBuiltins x=ξ u)(r:m8 v u)(hn:x≠"__name__":=by decide)(hd:Δ x:=by decide):PE X (.Name x pos) (tC v):=
 λ_ _ _ H _ I h=>a7X I hg hm hv ⟨v,H,I,r,h⟩ hn hd
def PC(X:Cx)(op:CmpOp)(a b:AO)(t:TE):Prop:=
 ∀pins s σ (H:Hp) (Q:VK),j4 X pins σ H s->t σ H Q->
  AG (model X.prog X.w) X.A (eval a X.env) (λv s₁=>AG (model X.prog X.w) X.A (eval b X.env) (λu s₂=>AG (model X.prog X.w) X.A (compareOp op v u) (EP X pins σ Q) X.xe s₂) X.xe s₁) X.xe s
def tB(t:TE):TT:=λσ H Q=>t σ H λx H1=>∃c,x= .bl c/\Q c H1
theorem c25(h:PC X op a b t)(h1:behindInMarks op b=false:=by first|exact nobehind _ (by decide) (by decide)|rfl):PT X (.Compare a [op] [b] pos) (tB t):=by
 intro pins s σ H Q I hw;refine wpAny_isTrue_Compare1 (E2 (h pins s σ H _ I hw) λv s1 h1=>E2 h1 λu s2 h2=>E2 h2 λc s3 h0=>o0 h0 λx H1 I1 r1 q1=> ?_) h1;obtain⟨d,rfl,q⟩:=q1;cases r1;exact wpAny_truthy_bool ⟨H1,I1,q⟩
def tOr(t u:TT):TT:=λσ H Q=>t σ H λc H1=>if c=true then Q true H1 else u σ H1 Q
def c44(t:TT):TT:=λσ H Q=>t σ H λc H1=>Q (!c) H1
theorem c29(ha:PT X a tA):PW X (.BoolOp .Or [a] pos) tA:=by
 intro wh pins s σ H Q I h;refine isTrue_or (E2 (ha pins s σ H Q I h) λc s1 e=> ?_);cases c with
 |false=>exact isTrue_or_nil e
 |true=>exact e
theorem c4f(ha:PT X a tA)(hb:PW X (.BoolOp .Or (b::rest) pos) tB'):PW X (.BoolOp .Or (a::b::rest) pos) (tOr tA tB'):=by
 intro wh pins s σ H Q I h;refine isTrue_or (E2 (ha pins s σ H _ I h) λc s1 ⟨H1,I1,q1⟩=> ?_);cases c with
 |true=>exact⟨H1,I1,q1⟩
 |false=>exact hb wh pins s1 σ H1 Q I1 q1
theorem c26(ha:PT X a tA):PT X (.UnaryOp .Not a pos) (c44 tA):=by
 ext i
 exact isTrue_not (ha pins s σ H (λc H1=>Q (!c) H1) I h)
def c4l(ta tb:TE):TE:=λσ H Q=>ta σ H λx H1=>∃c,x= .bl c/\if c=true then tb σ H1 Q else Q (.bl false) H1
def c4r(ta:TE):TE:=λσ H Q=>ta σ H λx H1=>∃c,x= .bl c/\Q (.bl (!c)) H1
theorem c2W{op}(h:PE X a t):PE X (.BoolOp op [a] pos) t:=λpins s σ H Q I hw=>BoolOp_one (h pins s σ H Q I hw)
theorem c2Q(ha:PE X a ta)(hb:PE X (.BoolOp .And (b::rest) pos) tb):PE X (.BoolOp .And (a::b::rest) pos) (c4l ta tb):=by
 ext i
 refine BoolOp_and (E2 (ha pins s σ H _ I h) λv s1 h0=>o0 h0 λx H1 I1 r1 q1=> ?_);obtain⟨c,rfl,q1⟩:=q1;cases r1;refine wpAny_truthy_bool ?_;cases c with
 |true=>exact hb pins s1 σ H1 Q I1 q1
 |false=>exact⟨.bl false,H1,I1,rfl,q1⟩
theorem c2V(ha:PE X a ta):PE X (.UnaryOp .Not a pos) (c4r ta):=by
 ext i
 refine UnaryOp_ (E2 (ha pins s σ H _ I h) λv s1 h0=>o0 h0 λx H1 I1 r1 q1=> ?_);obtain⟨c,rfl,q1⟩:=q1;cases r1;exact not_of (wpAny_truthy_bool ⟨.bl (!c),H1,I1,rfl,q1⟩)
end
def SqL(K:AD)(H:Hp)(a:AB)(xs:List V):Prop:=
 Rd H a (.lst xs)\/
  ∃(o:Obj) (its:Array AA) (n:Nat),K.lookup a=ξ o/\o.cls= .type "list"/\o.dict=ζ/\o.data= .seq its n/\its.size<=AQ/\t0 xs its.toList
def SqT(K:AD)(H:Hp)(a:AB)(xs:List V):Prop:=
 Rd H a (.tup xs)\/
  ∃(o:Obj) (its:Array AA) (n:Nat),K.lookup a=ξ o/\o.cls= .type "tuple"/\o.data= .seq its n/\its.size<=AQ/\t0 xs its.toList
def c4G:AA->Υ V
 | .none=>ξ .non
 | .bool b=>ξ (.bl b)
 | .int i _=>ξ (.int i)
 | .str x _=>ξ (.str x)
 | .bytes b _=>ξ (.byt b)
 | .float b _=>ξ (.flt b)
 | .ref a=>ξ (.ref a)
 | .type n=>ξ (.ty n)
 |_=>ζ
theorem m8.abs(r:m8 x u):c4G u=ξ x:=by
 cases x with
 |non=>cases r;rfl
 |bl _=>cases r;rfl
 |int _=>obtain⟨t,rfl⟩:=r;rfl
 |str _=>obtain⟨t,rfl⟩:=r;rfl
 |byt _=>obtain⟨t,rfl⟩:=r;rfl
 |flt _=>obtain⟨t,rfl⟩:=r;rfl
 |ref _=>cases r;rfl
 |ty _=>cases r;rfl
theorem m8.inj(r:m8 x u)(q:m8 y u):x=y:=Option.some.inj (r.abs.symm.trans q.abs)
theorem t0.inj:∀{xs ys:List V} {us:List AA},t0 xs us->t0 ys us->xs=ys
 |_,_,_,.nil,.nil=>rfl
 |_,_,_,.cons r t,.cons r' t'=>by rw [r.inj r',t0.inj t t']
section
theorem SqL.of{K:AD}(h:H a=ξ (.lst xs)):SqL K H a xs:= .inl (.inl h)
theorem j4.list(I:j4 X pins σ H s)(h:SqL X.K H a xs):∃its:List AA,t0 xs its/\PlainL s.heap a its.toArray/\xs.length<=AQ:=by
 rcases h with h|⟨o,its,n,hk,hc,hd,hs,hz,r⟩
 ·obtain⟨z,its,n,r,e⟩:=h.ok I.hok;exact⟨its,r,⟨_,n,e,rfl,rfl,rfl⟩,z⟩
 ·refine⟨its.toList,r,⟨o,n,I.kIn a o hk,hc,hd,by simpa using hs⟩, ?_⟩
  have e:=r.length;simp only [Array.length_toList] at e
  lia
theorem j4.tuple(I:j4 X pins σ H s)(h:SqT X.K H a xs):∃its:List AA,t0 xs its/\IsTup s.heap a its.toArray/\xs.length<=AQ:=by
 rcases h with h|⟨o,its,n,hk,hc,hs,hz,r⟩
 ·obtain⟨z,its,r,p⟩:=h.ok I.hok;exact⟨its,r,p,z⟩
 ·refine⟨its.toList,r,⟨o,I.kIn a o hk,hc,n,by simpa using hs⟩, ?_⟩
  have e:=r.length;simp only [Array.length_toList] at e
  lia
theorem j4.list_inj(I:j4 X pins σ H s)(h:SqL X.K H a xs)(h':SqL X.K H a ys):xs=ys:=by
 obtain⟨its,r,⟨o,n,e,_,_,d⟩,_⟩:=I.list h;obtain⟨its',r',⟨o',n',e',_,_,d'⟩,_⟩:=I.list h';rw [e] at e';cases e';rw [d] at d';injection d' with d1 _
 have:its=its':=by simpa using congrArg Array.toList d1
 subst this;exact r.inj r'
theorem j4.tuple_inj(I:j4 X pins σ H s)(h:SqT X.K H a xs)(h':SqT X.K H a ys):xs=ys:=by
 obtain⟨its,r,⟨o,e,_,n,d⟩,_⟩:=I.tuple h;obtain⟨its',r',⟨o',e',_,n',d'⟩,_⟩:=I.tuple h';rw [e] at e';cases e';rw [d] at d';injection d' with d1 _
 have:its=its':=by simpa using congrArg Array.toList d1
 subst this;exact r.inj r'
end
abbrev Cx.wish(X:Cx)(E:AA->AE->Prop):Cx:={X with xe:=E}
abbrev Cx.nox(X:Cx):Cx:=X.wish λ_ _=>False
theorem Cx.Ok.wish{X:Cx}(ok:X.Ok)(E:AA->AE->Prop):(X.wish E).Ok:=
 ⟨ok.mod,ok.kind,ok.glob,ok.blt,ok.above,ok.inj,ok.has,ok.cab,ok.hd,ok.frames,ok.stk,ok.exf,ok.bs,ok.bsz,ok.noex,ok.exfs,ok.funs,ok.frf⟩
theorem Cx.Ok.unwish{X:Cx}{E:AA->AE->Prop}(ok:(X.wish E).Ok):X.Ok:=
 ⟨ok.mod,ok.kind,ok.glob,ok.blt,ok.above,ok.inj,ok.has,ok.cab,ok.hd,ok.frames,ok.stk,ok.exf,ok.bs,ok.bsz,ok.noex,ok.exfs,ok.funs,ok.frf⟩
section
theorem j4.wish(I:j4 X pins σ H s)(E:AA->AE->Prop):j4 (X.wish E) pins σ H s:=⟨I.ok.wish E,I.os,I.bare,I.base,I.loc,I.cell,I.free,I.freeC,I.pin,I.hok,I.len⟩
theorem j4.unwish(I:j4 (X.wish E) pins σ H s):j4 X pins σ H s:=⟨I.ok.unwish,I.os,I.bare,I.base,I.loc,I.cell,I.free,I.freeC,I.pin,I.hok,I.len⟩
theorem SP.unwish{D:R8}{f:Flow}{s':AE}(h:SP (X.wish E) pins D f s'):SP X pins D f s':=by
 cases f with
 |next=>obtain⟨σ',H',I,q⟩:=h;exact⟨σ',H',I.unwish,q⟩
 |brk=>obtain⟨σ',H',I,q⟩:=h;exact⟨σ',H',I.unwish,q⟩
 |cont=>obtain⟨σ',H',I,q⟩:=h;exact⟨σ',H',I.unwish,q⟩
 |ret u=>obtain⟨v,σ',H',I,r,q⟩:=h;exact⟨v,σ',H',I.unwish,r,q⟩
theorem PSs.nox{st:List Stmt}{t:TS}(h:PSs X.nox st t):PSs X st t:=λpins s σ H D I hw=>
 wpAny_mono (h pins s σ H D (I.wish _) hw) (λ_ _ q=>q.unwish) λ_ _ z=>False.elim z
end
section
variable {X:Cx}{st:Stmt}{rest:List Stmt}{t u:TS}{e:AO}{te:TE}{pos:Pos}
def c1z:TS:=λD σ H=>D.nx σ H
def b9h(t u:TS):TS:=λD σ H=>t {D with nx:=u D} σ H
theorem b4O:PSs X [] c1z:=λ_ _ σ H _ I h=>wpAny_execs_nil ⟨σ,H,I,h⟩
theorem a45(h1:PS X st t)(h2:PSs X rest u):PSs X (st::rest) (b9h t u):=by
 intro pins s σ H D I h;refine wpAny_execs_cons (E2 (h1 pins s σ H {D with nx:=u D} I h) λf s1 q=> ?_)
 cases f with
 |next=>
  obtain⟨σ',H',I',q⟩:=q;exact h2 pins s1 σ' H' D I' q
 |ret v=>exact q
 |brk=>exact q
 |cont=>exact q
theorem b4P(h1:PS X st t):PSs X [st] t:=by
 intro pins s σ H D I h;refine wpAny_execs_cons (E2 (h1 pins s σ H D I h) λf s1 q=> ?_);cases f with
 |next=>exact wpAny_execs_nil q
 |ret v=>exact q
 |brk=>exact q
 |cont=>exact q
theorem j4.quiet(I:j4 X pins σ H s):interactive X.env=false:=by simp [interactive,I.ok.kind]
def c4q(te:TE):TS:=λD σ H=>te σ H λ_ H1=>D.nx σ H1
theorem b1g(he:PE X e te)(hs:swapsWith e ζ pos.line X.env=pure false:=by rfl):PS X (.Expr e pos) (c4q te):=by
 intro pins s σ H D I h;exact wpAny_Expr_any (E2 (he pins s σ H _ I h) λv s1 h0=>o0 h0 λx H1 I1 r1 q1=>⟨σ,H1,I1,q1⟩) I.quiet hs
def c46(te:TE):TS:=λD σ H=>te σ H D.rt
theorem b8S(he:PE X e te):PS X (.Return (ξ e) pos) (c46 te):=by
 intro pins s σ H D I h;exact wpAny_Return_some (E2 (he pins s σ H _ I h) λv s1 h0=>o0 h0 λx H1 I1 r1 q1=>⟨x,σ,H1,I1,r1,q1⟩)
def c42(c:TT)(t u:TS):TS:=λD σ H=>c σ H λb H1=>if b=true then t D σ H1 else u D σ H1
theorem c1v(hc:PT X c tc)(ha:PSs X a t)(hb:PSs X b u):PS X (.If c a b pos) (c42 tc t u):=by
 intro pins s σ H D I h;refine wpAny_If (E2 (hc pins s σ H _ I h) λd s1 ⟨H1,I1,q1⟩=> ?_);cases d with
 |true=>exact ha pins s1 σ H1 D I1 q1
 |false=>exact hb pins s1 σ H1 D I1 q1
def c3l:TS:=λ_ _ _=>False
theorem b8Q:PS X st c3l:=λ_ _ _ _ _ _ h=>h.elim
end
abbrev TG:=V->St->Hp->(St->Hp->Prop)->Prop
abbrev TGs:=List V->St->Hp->(St->Hp->Prop)->Prop
def PG(X:Cx)(target:AO)(t:TG):Prop:=
 ∀pins s σ (H:Hp) (v:V) (u:AA) (Q:St->Hp->Prop),j4 X pins σ H s->m8 v u->t v σ H Q->
  AG (model X.prog X.w) X.A (assign target X.env u) (λ_ s'=>∃σ' H',j4 X pins σ' H' s'/\Q σ' H') X.xe s
def PGs(X:Cx)(ts:List AO)(t:TGs):Prop:=
 ∀pins s σ (H:Hp) (vs:List V) (us:List AA) (Q:St->Hp->Prop),j4 X pins σ H s->t0 vs us->t vs σ H Q->
  AG (model X.prog X.w) X.A (assignInOrder ((assignEach ts X.env).map (·.2)) us) (λ_ s'=>∃σ' H',j4 X pins σ' H' s'/\Q σ' H') X.xe s
abbrev TIp:=V->V->Hp->VK->Prop
def PIp(X:Cx)(op:Operator)(t:TIp):Prop:=
 ∀pins s σ (H:Hp) (x y:V) (v u:AA) (Q:VK),j4 X pins σ H s->m8 x v->m8 y u->t x y H Q->
  AG (model X.prog X.w) X.A (inplaceOp op v u) (EP X pins σ Q) X.xe s
section
def a4K(i:Nat):TG:=λv σ H Q=>Q (σ.set i (ξ v)) H
theorem j3(hN:X.N.Nodup)(hi:X.N[i]?=ξ x)(hx:Loc X.env.scope x)(hf:X.fn x=true\/X.env.scope.names.lookup x=ξ .local:=by first|exact .inl rfl|exact .inr rfl|assumption):PG X (.Name x pos) (a4K i):=by
 intro pins s σ H v u Q I r h;exact wpAny_assign_Name (a1o I hN hi hx r (λs' I'=>⟨_,H,I',h⟩) hf)
def c3U:TGs:=λvs σ H Q=>vs=[]/\Q σ H
def c1r(t:TG)(u:TGs):TGs:=λvs σ H Q=>∃v r,vs=v::r/\t v σ H λσ' H'=>u r σ' H' Q
theorem a1N:PGs X [] c3U:=by
 intro pins s σ H vs us Q I r h;obtain⟨e,h⟩:=h;subst e;cases r;exact assignInOrder_nil ⟨σ,H,I,h⟩
theorem A0(h1:PG X e t)(h2:PGs X es u)
 (hs:(assignEach (e::es) X.env).map (·.2)=assign e X.env::(assignEach es X.env).map (·.2):=by rfl):PGs X (e::es) (c1r t u):=by
 intro pins s σ H vs us Q I r h
 obtain⟨v,vr,e1,h⟩:=h
 subst e1
 cases r with
 |cons r rr=>
  rw [hs]
  refine assignInOrder_cons (E2 (h1 pins s σ H _ _ _ I r h) λ_ s1 ⟨σ1,H1,I1,q1⟩=> ?_)
  exact h2 pins s1 σ1 H1 _ _ Q I1 rr q1
def c3V(K:AD)(n:Nat)(t:TGs):TG:=λv σ H Q=>∃a xs,v= .ref a/\SqT K H a xs/\xs.length=n/\t xs σ H Q
theorem a5T(hc:X.calm=true)(h:PGs X es t)
 (hn:(assignEach es X.env).length=n:=by rfl) (hst:(assignEach es X.env).findIdx? (·.1)=ζ:=by rfl):PG X (.Tuple es k pos) (c3V X.K n t):=by
 intro pins s σ H v u Q I r hw
 obtain⟨a,xs,e1,hq,hl,hw⟩:=hw
 subst e1
 cases r
 obtain⟨its,rv,ht,hz⟩:=I.tuple hq
 refine assign_Tuple_tuple (I.ok.hd hc) ht (by simp [hn,<-hl,rv.length]) hst λh' hx=> ?_
 have I1:j4 X pins σ H {s with heap:=h'}:=I.kept (t':=s.toks) λb o e=>hx b o (Aj (Ac e)) e
 exact h pins _ σ H xs _ Q I1 (by simpa using rv) hw
def c4m(te:TE)(g:TG):TS:=λD σ H=>te σ H λx H1=>g x σ H1 D.nx
theorem c20(he:PE X e te)(hg:PG X tg g)(hs:swapsWithSole [tg] e pos.line X.env=pure false:=by rfl)(hw:swappedStores [tg] e X.env=pure ζ:=by rfl)
 (h1:(assignEach [tg] X.env).map (·.2)=[assign tg X.env]:=by rfl):PS X (.Assign [tg] e pos) (c4m te g):=by
 intro pins s σ H D I h
 refine wpAny_Assign_stores (E2 (he pins s σ H _ I h) λv s1 h0=>o0 h0 λx H1 I1 r1 q1=> ?_) hs hw
 rw [h1]
 exact E2 (hg pins s1 σ H1 x v _ I1 r1 q1) λ_ s2 q=>q
theorem c23(hN:X.N.Nodup)(hi:X.N[i]?=ξ x)(hx:Loc X.env.scope x)(he:PE X e te)(hs:swapsWith e (ξ (.Name x pos')) pos.line X.env=pure false:=by rfl)(hf:X.fn x=true\/X.env.scope.names.lookup x=ξ .local:=by first|exact .inl rfl|exact .inr rfl|assumption):
 PS X (.Assign [.Name x pos'] e pos) (c4m te (a4K i)):=by
 intro pins s σ H D I h
 refine wpAny_Assign_Name (E2 (he pins s σ H _ I h) λv s1 h0=>o0 h0 λy H1 I1 r1 q1=> ?_) hs
 exact a1o I1 hN hi hx r1 (λs2 I2=>⟨_,H1,I2,q1⟩) hf
def c45(i j:Nat)(ta:TA):TS:=λD σ H=>ta σ H λvs H1=>∃v w,vs=[v,w]/\D.nx ((σ.set i (ξ v)).set j (ξ w)) H1
theorem c22{kt k2 pt2}(hc:X.calm=true)(hN:X.N.Nodup)(hi:X.N[i]?=ξ x)(hj:X.N[j]?=ξ y)(hij:i≠j)
 (hx:X.env.scope.names.lookup x=ξ .local) (hy:X.env.scope.names.lookup y=ξ .local) (ha:PA X [a,b] ta)
 (hw:swappedStores [.Tuple [.Name x px,.Name y py] kt pt] (.Tuple [a,b] k2 pt2) X.env=pure (ξ [x,y]))
 (hs:swapsWithSole [.Tuple [.Name x px,.Name y py] kt pt] (.Tuple [a,b] k2 pt2) pos.line X.env=pure false:=by rfl):
 PS X (.Assign [.Tuple [.Name x px,.Name y py] kt pt] (.Tuple [a,b] k2 pt2) pos) (c45 i j ta):=by
 intro pins s σ H D I h
 rw [exec_Assign_arm]
 refine AC (wpAny_standAt ?_)
 rw [hs]
 refine AC (AH ?_)
 rw [if_neg (by decide)]
 refine AC (Tuple_ (E2 (ha _ pins s σ H _ I h) λus s1 h0=>o0 h0 λvs H1 I1 r1 q1=> ?_))
 obtain⟨v,w,e1,q1⟩:=q1
 subst e1
 obtain⟨u1,u2,rfl,rv,rw'⟩:∃u1 u2,us=[u1,u2]/\m8 v u1/\m8 w u2:=by
  cases r1 with
  |cons p q=>
   cases q with
   |cons p' q'=>
    cases q';exact⟨_,_,rfl,p,p'⟩
 refine wpAny_newObj_type ?_ (by show 2<=AQ;decide)
 have I2:j4 X pins σ H1 {s1 with heap:=s1.heap.push {cls:= .type "tuple",data:= .seq [u1,u2].toArray}}:=I1.kept (t':=s1.toks) λb o e=>AY _ e
 rw [hw]
 refine AC (AH ?_)
 show AG (model X.prog X.w) X.A (do rule "assign.swapped-stores";let items<-unpackItems (.ref s1.heap.objs.size) 2 ζ;assignInOrder [λv=>bindName X.env y v,λv=>bindName X.env x v] items.reverse;pure Flow.next) _ _ _
 refine AC (wpAny_rule (AC (unpackItems_tuple (items:= #[u1,u2]) (I.ok.hd hc) (IsTup.new s1.heap _) λh' hx'=> ?_)))
 have I3:=I2.kept (h':=h') (t':=s1.toks) λb o e=>hx' b o (Aj (Ac e)) e
 show AG _ _ (assignInOrder [λv=>bindName X.env y v,λv=>bindName X.env x v] [u2,u1]>>=λ_=>pure Flow.next) _ _ _
 refine AC (assignInOrder_cons (wpAny_bindName (a1o I3 hN hj (.inl hy) rw' (λs2 I4=> ?_) (.inr hy))))
 refine assignInOrder_cons (wpAny_bindName (a1o I4 hN hi (.inl hx) rv (λs3 I5=>assignInOrder_nil (AH ?_)) (.inr hx)))
 rw [List.set_comm _ _ (Ne.symm hij)] at I5
 exact⟨_,H1,I5,q1⟩
def c4Z(i:Nat)(te:TE)(ti:TIp):TS:=λD σ H=>∃x,σ[i]?=ξ (ξ x)/\te σ H λy H1=>ti x y H1 λz H2=>D.nx (σ.set i (ξ z)) H2
theorem c21(hN:X.N.Nodup)(hi:X.N[i]?=ξ x)(hx:Loc X.env.scope x)(he:PE X e te)(ho:PIp X op ti)(hf:X.fn x=true\/X.env.scope.names.lookup x=ξ .local:=by first|exact .inl rfl|exact .inr rfl|assumption):
 PS X (.AugAssign (.Name x pos') op e pos) (c4Z i te ti):=by
 intro pins s σ H D I h
 obtain⟨v,e1,h⟩:=h
 obtain⟨m,hn,hl⟩:=I.loc
 have vis:Vis X.env.scope x:=by rcases hx with k|k;exact .inl k;exact .inr (.inl k)
 obtain⟨u,r,l⟩:=hl i x v hi e1 vis
 refine wpAny_AugAssign_Name ?_
 have go:AG (model X.prog X.w) X.A (eval e X.env) (λw s₂=>AG (model X.prog X.w) X.A (inplaceOp op u w) (λr s₃=>AG (model X.prog X.w) X.A (storeName X.env x r) (λ_=>SP X pins D .next) X.xe s₃) X.xe s₂) X.xe s:=by
  refine E2 (he pins s σ H _ I h) λw s1 h0=>o0 h0 λy H1 I1 r1 q1=> ?_;refine E2 (ho pins s1 σ H1 v y u w _ I1 r r1 q1) λz s2 h0=>o0 h0 λzv H2 I2 r2 q2=> ?_;exact a1o I2 hN hi hx r2 (λs3 I3=>⟨_,H2,I3,q2⟩) hf
 rcases l with⟨hk,hm⟩|⟨hk,c,hc,hcell⟩
 ·exact wpAny_loadName_local I.ok.kind hk hn hm go
 ·rcases hk with hk|hk
  ·exact wpAny_loadName_cell I.ok.kind hk hc hcell go
  ·rcases hx with k|k
   ·have:X.env.scope.names.lookup x=ξ .free:=hk
    rw [k] at this;cases this
   ·have:X.env.scope.names.lookup x=ξ .free:=hk
    rw [k] at this;cases this
def c3m(c:TT)(tb:TS):TS:=λD σ H=>∃W:Nat->St->Hp->Prop,(∃m,W m σ H)/\∀m σ H,W m σ H->
 c σ H λb H1=>if b=true then ∃N:St->Hp->Prop,(∀σ' H',N σ' H'->∃m',m'<m/\W m' σ' H')/\tb {D with nx:=N,ct:=N,bk:=D.nx} σ H1 else D.nx σ H1
theorem b8T(hp:PassesOwn (model X.prog X.w) X.A X.env X.xe)(hc:PT X c tc)(hb:PSs X body tb):PS X (.While c body [] pos) (c3m tc tb):=by
 intro pins s σ H D I h;obtain⟨W,⟨m0,w0⟩,turn⟩:=h;refine wpAny_While (codeAny_whileLoop (λn s'=>∃σ' H',j4 X pins σ' H' s'/\W n σ' H') ?_ m0 ⟨σ,H,I,w0⟩);rintro n s1 ⟨σ1,H1,I1,w1⟩;refine wpAny_passesOwn hp (E2 (hc pins s1 σ1 H1 _ I1 (turn n σ1 H1 w1)) λb s2 ⟨H2,I2,q2⟩=> ?_);cases b with
 |true=>
  obtain⟨N,hN,q2⟩:=q2;rw [if_pos rfl];refine wpAny_passesOwn hp (E2 (hb pins s2 σ1 H2 _ I2 q2) λf s3 q3=> ?_);cases f with
  |next=>
   obtain⟨σ3,H3,I3,n3⟩:=q3;obtain⟨m',hm,w3⟩:=hN σ3 H3 n3;exact⟨m',hm,σ3,H3,I3,w3⟩
  |cont=>
   obtain⟨σ3,H3,I3,n3⟩:=q3;obtain⟨m',hm,w3⟩:=hN σ3 H3 n3;exact⟨m',hm,σ3,H3,I3,w3⟩
  |brk=>exact q3
  |ret v=>exact q3
 |false=>
  rw [if_neg As];exact wpAny_execs_nil ⟨σ1,H2,I2,q2⟩
end
structure It where
 go:Nat->Hp->Prop
 yld:Nat->Hp->V->Hp->Prop
 stop:Nat->Hp->Prop
def a5l(X:Cx)(pins:List (AB×Obj))(H:Hp)(b:AB):Prop:=
 H b=ζ/\b≠X.env.locals/\b∉X.fs/\(b∈X.ex\/X.s₀.heap.objs.size<=b)/\(∀x c,X.env.cells.lookup x=ξ c->c≠b)/\∀p∈X.pn++pins,p.1≠b
theorem j4.fpOk(I:j4 X pins σ H s)(hb:s.heap.objs.size<=b)(hn:H' b=ζ):a5l X pins H' b:=by
 refine⟨hn,Nat.ne_of_gt (BA I.lt hb),I.nofs hb,.inr (Nat.le_trans I.sz hb),λx c e z=> ?_,λp hp z=> ?_⟩
 ·obtain⟨v,q⟩:=I.cell x c e;exact absurd (BA q.lt (by rw [z];exact hb)) (Nat.lt_irrefl _)
 ·exact absurd (BA (Ac (I.pin p hp).1) (by rw [z];exact hb)) (Nat.lt_irrefl _)
structure b2Y(P:AS)(w:AL)(K:AD)(tg:AO)(J:It)(fp:List AB)(it:AB)(tn:Nat->Heap->Prop):Prop where
 mem:it∈fp
 obj:∀i h,tn i h->∀b∈fp,∃o,h.get? b=ξ o/\∀v,o.data≠.cell v
 keep:∀i h h',tn i h->(∀b∈fp,∀o,h.get? b=ξ o->h'.get? b=ξ o)->tn i h'
 item:∀(X:Cx),X.prog=P->X.w=w->X.K=K->X.calm=true->∀(i:Nat) (pins:List (AB×Obj)) (s:AE) (σ:St) (H:Hp) (E:AA->AE->Prop),j4 X pins σ H s->(∀b∈fp,a5l X pins H b)->tn i s.heap->J.go i H->
  AG (model P w) X.A (pyNext (.ref it)) (λr s1=>∃u,r=ξ u/\
   AG (model P w) X.A (letOwnedTupleGo tg (.ref it) u) (λ_ s2=>∃x H',j4 X pins σ H' s2/\m8 x u/\J.yld i H x H'/\tn (i+1) s2.heap/\∀b∈fp,H' b=ζ) E s1) E s
 done:∀(X:Cx),X.prog=P->X.w=w->X.K=K->X.calm=true->∀(i:Nat) (pins:List (AB×Obj)) (s:AE) (σ:St) (H:Hp) (E:AA->AE->Prop),j4 X pins σ H s->(∀b∈fp,a5l X pins H b)->tn i s.heap->J.stop i H->
   AG (model P w) X.A (pyNext (.ref it)) (λr s1=>r=ζ/\j4 X pins σ H s1) E s
 self:∀(A:AU) (i:Nat) (s:AE) (Q:AA->AE->Prop) (E:AA->AE->Prop),tn i s.heap->Q (.ref it) s->AG (model P w) A (pyIter (.ref it)) Q E s
abbrev TI:=St->Hp->(It->Hp->Prop)->Prop
def PIE(X:Cx)(pins:List (AB×Obj))(σ:St)(tg:AO)(R:It->Hp->Prop)(itv:AA)(s2:AE):Prop:=
 ∃(it:AB) (fp:List AB) (tn:Nat->Heap->Prop) (J:It) (H':Hp),itv= .ref it/\j4 X pins σ H' s2/\b2Y X.prog X.w X.K tg J fp it tn/\tn 0 s2.heap/\(∀b∈fp,a5l X pins H' b)/\R J H'
def PI(X:Cx)(tg iter:AO)(wi:TI):Prop:=
 ∀pins s σ (H:Hp) (R:It->Hp->Prop),j4 X pins σ H s->wi σ H R->
  AG (model X.prog X.w) X.A (eval iter X.env) (λv s1=>AG (model X.prog X.w) X.A (pyIter v) (PIE X pins σ tg R) X.xe s1) X.xe s
theorem b4r(ho:s.heap.get? it=ξ o)(hc:o.cls= .type n)(hd:o.data= .fields vs)
 (hn:["enumerate","zip","dict_itemiterator","dict_reverseitemiterator","odict_iterator","itertools.zip_longest","itertools.pairwise"].contains n=false) (hQ:Q () s):AG M A (letOwnedTupleGo tg (.ref it) u) Q E s:=by
 unfold letOwnedTupleGo
 cases tg<;>first
  |exact AH hQ
  |(cases u<;>first
   |exact AH hQ
   |(refine AC (wpAny_load ho ?_)
     rw [hc,hd]
     show AG M A (if(["enumerate","zip","dict_itemiterator","dict_reverseitemiterator","odict_iterator","itertools.zip_longest","itertools.pairwise"].contains n && vs[0]?==ξ (rawInt _))=true then _ else _) Q E s
     rw [if_neg (by intro h;rw [hn,Bool.false_and] at h;cases h)]
     exact AH hQ))
def Itl(K:AD)(a:AB):It:=
 ⟨λi H=>∃xs x,SqL K H a xs/\xs[i]?=ξ x,λi H x H'=>H'=H/\∀xs,SqL K H a xs->xs[i]?=ξ x,λi H=>∃xs,SqL K H a xs/\xs.length<=i⟩
def Itt(K:AD)(a:AB):It:=
 ⟨λi H=>∃xs x,SqT K H a xs/\xs[i]?=ξ x,λi H x H'=>H'=H/\∀xs,SqT K H a xs->xs[i]?=ξ x,λi H=>∃xs,SqT K H a xs/\xs.length<=i⟩
def Itr(lo:Int)(n:Nat):It:=⟨λi _=>i<n,λi H x H'=>H'=H/\x= .int (lo+i),λi _=>n<=i⟩
theorem b6w{P:AS}{w:AL}{K:AD}{tg:AO}(a it:AB):b2Y P w K tg (Itl K a) [it] it (λi h=>h.IsListIter it a i) where
 mem:=by simp
 obj:=λi h st b hb=>by
  have e:b=it:=by simpa using hb
  subst e
  ext d
 keep:=λi h h' st k=>st.at λo e=>k it (by simp) o e
 item:=by
  ext c
  obtain⟨xs,x,hq,hx⟩:=hg;obtain⟨its,rv,p,hz⟩:=I.list hq;obtain⟨u,hu,ru⟩:=rv.get hx
  ext h
  refine wpAny_pyNext_list_item st p.isList (x:=u) (by simpa using hu) λh' st' sb=> ?_
  have I1:j4 X pins σ H {s with heap:=h'}:=I.turned (t':=s.toks) (λb o hb e=>(sb.2 b hb).trans e) f0 f1 f3 f4 f5
  obtain⟨o,e,c,d⟩:=id st';exact⟨u,rfl,b4r (s:={s with heap:=h'}) e c d (by decide) ⟨x,H,I1,ru,⟨rfl,λys hy=>by rw [I.list_inj hy hq];exact hx⟩,st',λb hb=>(hf b hb).1⟩⟩
 done:=by
   ext c
   obtain⟨xs,hq,hx⟩:=hg;obtain⟨its,rv,p,hz⟩:=I.list hq
   ext h
   have hl:=rv.length;exact wpAny_pyNext_list_end (I.ok.hd hc) st p.isList (by simp;lia) λh' eb=>⟨rfl,I.turned (t':=s.toks) (λb o hb e=>eb b o hb e) f0 f1 f3 f4 f5⟩
 self:=λ_ _ _ _ _ st h=>wpAny_pyIter_listiter st h
theorem b3V{P:AS}{w:AL}{K:AD}{tg:AO}(a it:AB):b2Y P w K tg (Itt K a) [it] it (λi h=>h.IsTupleIter it a i) where
 mem:=by simp
 obj:=λi h st b hb=>by
  have e:b=it:=by simpa using hb
  subst e
  ext d
 keep:=λi h h' st k=>st.at λo e=>k it (by simp) o e
 item:=by
  ext c
  obtain⟨xs,x,hq,hx⟩:=hg;obtain⟨its,rv,p,hz⟩:=I.tuple hq;obtain⟨u,hu,ru⟩:=rv.get hx
  ext h
  refine wpAny_pyNext_tuple_item st (show s.heap.IsTuple a its.toArray from p) (x:=u) (by simpa using hu) λh' st' sb=> ?_
  have I1:j4 X pins σ H {s with heap:=h'}:=I.turned (t':=s.toks) (λb o hb e=>(sb.2 b hb).trans e) f0 f1 f3 f4 f5
  obtain⟨o,e,c,d⟩:=id st';exact⟨u,rfl,b4r (s:={s with heap:=h'}) e c d (by decide) ⟨x,H,I1,ru,⟨rfl,λys hy=>by rw [I.tuple_inj hy hq];exact hx⟩,st',λb hb=>(hf b hb).1⟩⟩
 done:=by
   ext c
   obtain⟨xs,hq,hx⟩:=hg;obtain⟨its,rv,p,hz⟩:=I.tuple hq
   ext h
   have hl:=rv.length;exact wpAny_pyNext_tuple_end (I.ok.hd hc) st (show s.heap.IsTuple a its.toArray from p) (by simp;lia) λh' eb=>⟨rfl,I.turned (t':=s.toks) (λb o hb e=>eb b o hb e) f0 f1 f3 f4 f5⟩
 self:=λ_ _ _ _ _ st h=>wpAny_pyIter_tupleiter st h
theorem b3U{P:AS}{w:AL}{K:AD}{tg:AO}(it:AB)(lo:Int)(n:Nat):b2Y P w K tg (Itr lo n) [it] it (λi h=>IsRangeIter h it (lo+(i:Nat)*1) ((n:Int) - (i:Nat)) 1) where
 mem:=by simp
 obj:=λi h st b hb=>by
  have e:b=it:=by simpa using hb
  subst e;exact⟨_,st,λv z=>by
   have z':Data.fields _=Data.cell v:=z;cases z'⟩
 keep:=λi h h' st k=>k it (by simp) _ st
 item:=by
  ext c
  ext h
  have W:=Walks.range (prog:=X.prog) (w:=X.w) (I.ok.hd hc) it lo 1 n;refine W.item i s _ _ hg st λv h' tk hv st' kk=> ?_;obtain⟨t,rfl⟩:=hv;have I1:j4 X pins σ H {s with heap:=h',toks:=tk}:=I.turned (λb o hb e=>kk b o (by simpa using hb) e) f0 f1 f3 f4 f5
  refine⟨_,rfl,b4r (s:={s with heap:=h',toks:=tk}) (n:="range_iterator") st' rfl rfl (by decide) ⟨.int (lo+i),H,I1,⟨t, ?_⟩,⟨rfl,rfl⟩,st',λb hb=>(hf b hb).1⟩⟩
  rw [Int.mul_one]
 done:=by
   ext c
   ext h
   exact wpAny_pyNext_range_end (I.ok.hd hc) st (by have:n<=i:=hg;lia) λh' eb=>⟨rfl,I.turned (t':=s.toks) (λb o hb e=>eb b o hb e) f0 f1 f3 f4 f5⟩
 self:=λ_ _ _ _ _ st h=>wpAny_pyIter_rangeiter st h
section
theorem b8Y{pins:List (AB×Obj)}{σ:St}{H:Hp}{s:AE}{R:It->Hp->Prop}{E:AA->AE->Prop}{lo hi:Int}{t u v:Tok}{tk:Nat}(I:j4 X pins σ H s)(h1: -(2 ^ 62)<=lo)(h2:lo<2 ^ 62)(h3: -(2 ^ 62)<=hi)(h4:hi<2 ^ 62)
 (q:R (Itr lo (hi - lo).toNat) H):AG (model X.prog X.w) X.A (pyIter (.ref s.heap.objs.size)) (PIE X pins σ tg R) E {s with heap:=s.heap.push {cls:= .type "range",data:= .fields #[.int lo t,.int hi u,.int 1 v]},toks:=tk}:=by
 refine wpAny_pyIter_range (IsRange.new ..) (small_one h1 h2 h3 h4) ?_
 have I1:j4 X pins σ H {s with heap:=s.heap.push {cls:= .type "range",data:= .fields #[.int lo t,.int hi u,.int 1 v]},toks:=tk}:=I.kept λb o e=>AY _ e
 refine⟨(s.heap.push {cls:= .type "range",data:= .fields #[.int lo t,.int hi u,.int 1 v]}).objs.size,[(s.heap.push {cls:= .type "range",data:= .fields #[.int lo t,.int hi u,.int 1 v]}).objs.size],_,_,H,rfl,
  I1.kept (t':=tk) λb o e=>AY _ e,b3U _ lo (hi - lo).toNat, ?_,λb hb=> ?_,q⟩
 ·have e1:lo+((0:Nat):Int)*1=lo:=by simp
  have e2:(((hi - lo).toNat:Nat):Int) - ((0:Nat):Int)=Builtin.Range.rangeSize lo hi 1:=by rw [rangeSize_one];split<;>lia
  show IsRangeIter _ _ (lo+((0:Nat):Int)*1) ((((hi - lo).toNat:Nat):Int) - ((0:Nat):Int)) 1
  rw [e1,e2]
  exact Ao _ rfl
 ·have e:b=(s.heap.push {cls:= .type "range",data:= .fields #[.int lo t,.int hi u,.int 1 v]}).objs.size:=by simpa using hb
  subst e
  exact I1.fpOk (AM _) (I1.hok.fresh (AM _))
def c3Y(ta:TA):TI:=λσ H R=>ta σ H λvs H1=>∃j:Int,vs=[.int j]/\ -(2 ^ 62)<=j/\j<2 ^ 62/\R (Itr 0 j.toNat) H1
theorem a94{a:AO}{ta:TA}{p pos:Pos}(hg:Gl X "range")(hm:X.mg "range"=ζ)(ha:PA X [a] ta)(hs:AJ [a] X.env=[(false,eval a X.env)]:=by rfl):PI X tg (.Call (.Name "range" p) [a] [] pos) (c3Y ta):=by
 intro pins s σ H R I h;refine Call_ (a7X I hg hm boot_range (PyProof.Rows.callWith_type1 (E2 (ha pos pins s σ H _ I h) λus s1 h0=>o0 h0 λvs H1 I1 r1 q1=> ?_) hs rfl));obtain⟨j,e,q1,q2,q⟩:=q1;subst e;cases r1 with
 |cons r rr=>
  cases rr;obtain⟨t,rfl⟩:=r;exact call_range_1 (b8Y I1 (by lia) (by lia) q1 q2 (by simpa using q))
def c41(wi:TI)(g:TG)(tb:TS):TS:=λD σ H=>wi σ H λJ H1=>∃W:Nat->Nat->St->Hp->Prop,(∃m,W 0 m σ H1)/\∀i m σ H,W i m σ H->
 (J.stop i H/\D.nx σ H)\/(J.go i H/\∃N:St->Hp->Prop,(∀σ' H',N σ' H'->∃m',m'<m/\W (i+1) m' σ' H')/\∀x H',J.yld i H x H'->g x σ H' λσ2 H2=>tb {D with nx:=N,ct:=N,bk:=D.nx} σ2 H2)
def a8l(fp:List AB)(h:Heap):List (AB×Obj):=fp.filterMap λb=>(h.get? b).map λo=>(b,o)
theorem a1L(hb:b∈fp)(e:h.get? b=ξ o):(b,o)∈a8l fp h:=List.mem_filterMap.mpr ⟨b,hb,by rw [e];rfl⟩
theorem b6a(hp:p∈a8l fp h):p.1∈fp/\h.get? p.1=ξ p.2:=by
 obtain⟨b,hb,e⟩:=List.mem_filterMap.mp hp;cases q:h.get? b with
 |none=>rw [q] at e;cases e
 |some o=>
  rw [q] at e;have e':(b,o)=p:=Option.some.inj e;subst e';exact⟨hb,q⟩
theorem j4.pinned(I:j4 X pins σ H s)(hf:∀b∈fp,a5l X pins H b)(ho:∀b∈fp,∃o,s.heap.get? b=ξ o/\∀v,o.data≠.cell v):j4 X (pins++a8l fp s.heap) σ H s:=
 I.pins_of λp hp=>(At.mp hp).elim (λz=>I.pin p (BD _ z)) λz=>by
  obtain⟨hb,e⟩:=b6a z;obtain⟨f0,f1,f2,_⟩:=hf p.1 hb;obtain⟨o,e',d⟩:=ho p.1 hb;rw [e] at e';cases e';exact⟨e,f0,f1,f2,d⟩
theorem j4.unpinned(I:j4 X (pins++pl) σ H s):j4 X pins σ H s:=I.pins_of λp hp=>I.pin p (BD _ (Ay _ hp))
theorem b1h(hp:PassesOwn (model X.prog X.w) X.A X.env X.xe)(hc:X.calm=true)(hi:PI X tg iter wi)(hg:PG X tg g)(hb:PSs X body tb)
 (hs:∀x,foldedSetIterable iter X.env x=pure x:=by intro _;rfl):PS X (.For tg iter body [] pos) (c41 wi g tb):=by
 intro pins s σ H D I h
 refine wpAny_For (E2 (hi pins s σ H _ I h) λv s1 h1=>E2 h1 λitv s2 h2=> ?_) hs
 obtain⟨it,fp,tn,J,H2,e,I2,T,st2,f2,W,⟨m0,w0⟩,turn⟩:=h2
 subst e
 have stat:∀{H':Hp},(∀b∈fp,H' b=ζ)->∀b∈fp,a5l X pins H' b:=λhn b hb=>⟨hn b hb,(f2 b hb).2⟩
 refine codeAny_forLoop_any (λn s'=>∃i σ' H',j4 X pins σ' H' s'/\tn i s'.heap/\(∀b∈fp,H' b=ζ)/\W i n σ' H') ?_ m0 ⟨0,σ,H2,I2,st2,λb hb=>(f2 b hb).1,w0⟩
 rintro n s3 ⟨i,σ3,H3,I3,st3,fr3,w3⟩
 rcases turn i n σ3 H3 w3 with⟨stop,qn⟩|⟨go,N,hN,step⟩
 ·refine wpAny_passesOwn hp (E2 (T.done X rfl rfl rfl hc i pins s3 σ3 H3 X.xe I3 (stat fr3) st3 stop) λr s4 ⟨hr,I4⟩=> ?_)
  subst hr
  exact wpAny_execs_nil ⟨σ3,H3,I4,qn⟩
 ·refine wpAny_passesOwn hp (E2 (T.item X rfl rfl rfl hc i pins s3 σ3 H3 X.xe I3 (stat fr3) st3 go) λr s4 ⟨u,hr,h4⟩=> ?_)
  subst hr
  refine wpAny_passesOwn hp (E2 h4 λ_ s5 ⟨x,H5,I5,r5,y5,st5,fr5⟩=> ?_)
  have I5':=I5.pinned (stat fr5) (T.obj _ _ st5)
  refine wpAny_passesOwn hp (E2 (hg _ s5 σ3 H5 x u _ I5' r5 (step x H5 y5)) λ_ s6 ⟨σ6,H6,I6,q6⟩=> ?_)
  refine wpAny_passesOwn hp (E2 (hb _ s6 σ6 H6 _ I6 q6) λf s7 q7=> ?_)
  have again:∀{σ7:St} {H7:Hp},j4 X (pins++a8l fp s5.heap) σ7 H7 s7->N σ7 H7->∃m,m<n/\∃i σ' H',j4 X pins σ' H' s7/\tn i s7.heap/\(∀b∈fp,H' b=ζ)/\W i m σ' H':=λ {σ7 H7} I7 n7=>by
   obtain⟨m',hm,w7⟩:=hN σ7 H7 n7;refine⟨m',hm,i+1,σ7,H7,I7.unpinned,T.keep _ _ _ st5 λb hb o e=>(I7.pin (b,o) (BD _ (BD _ (a1L hb e)))).1,λb hb=> ?_,w7⟩;obtain⟨o,e,d⟩:=T.obj _ _ st5 b hb;exact(I7.pin (b,o) (BD _ (BD _ (a1L hb e)))).2.1
  cases f with
  |next=>obtain⟨σ7,H7,I7,n7⟩:=q7;exact again I7 n7
  |cont=>obtain⟨σ7,H7,I7,n7⟩:=q7;exact again I7 n7
  |brk=>obtain⟨σ7,H7,I7,q7⟩:=q7;exact⟨σ7,H7,I7.unpinned,q7⟩
  |ret v=>obtain⟨x7,σ7,H7,I7,r7,q7⟩:=q7;exact⟨x7,σ7,H7,I7.unpinned,r7,q7⟩
end
theorem b7v{K:AD}{a:AB}{xs:List V}{g:TG}{tb:TS}{D:R8}{σ:St}{H:Hp}(Pv:Nat->St->Hp->Prop)(h0:Pv 0 σ H)(hl:∀i σ H,i<=xs.length->Pv i σ H->SqL K H a xs)
 (hs:∀i x σ H,xs[i]?=ξ x->Pv i σ H->g x σ H λσ2 H2=>tb {D with nx:=Pv (i+1),ct:=Pv (i+1),bk:=D.nx} σ2 H2) (hd:∀σ H,Pv xs.length σ H->D.nx σ H):
 ∃W:Nat->Nat->St->Hp->Prop,(∃m,W 0 m σ H)/\∀i m σ H,W i m σ H->
  ((Itl K a).stop i H/\D.nx σ H)\/((Itl K a).go i H/\∃N:St->Hp->Prop,(∀σ' H',N σ' H'->∃m',m'<m/\W (i+1) m' σ' H')/\∀x H',(Itl K a).yld i H x H'->g x σ H' λσ2 H2=>tb {D with nx:=N,ct:=N,bk:=D.nx} σ2 H2):=by
 refine⟨λi m σ H=>m=xs.length - i/\i<=xs.length/\Pv i σ H,⟨xs.length,by simp,Nat.zero_le _,h0⟩, ?_⟩
 rintro i m σ H ⟨rfl,hi,p⟩
 have q:=hl i σ H hi p
 by_cases hlt:i<xs.length
 ·refine .inr ⟨⟨xs,xs[i],q,by simp [hlt]⟩,Pv (i+1),λσ' H' p'=>⟨xs.length - (i+1),by lia,rfl,hlt,p'⟩,λx H' y=> ?_⟩
  obtain⟨e,y⟩:=y
  subst e
  exact hs i x σ _ (y xs q) p
 ·have e:i=xs.length:=by lia
  subst e
  exact .inl ⟨⟨xs,q,AM _⟩,hd σ H p⟩
theorem b96{K:AD}{a:AB}{xs:List V}{g:TG}{tb:TS}{D:R8}{σ:St}{H:Hp}(Pv:Nat->St->Hp->Prop)(h0:Pv 0 σ H)(hl:∀i σ H,i<=xs.length->Pv i σ H->SqT K H a xs)
 (hs:∀i x σ H,xs[i]?=ξ x->Pv i σ H->g x σ H λσ2 H2=>tb {D with nx:=Pv (i+1),ct:=Pv (i+1),bk:=D.nx} σ2 H2) (hd:∀σ H,Pv xs.length σ H->D.nx σ H):
 ∃W:Nat->Nat->St->Hp->Prop,(∃m,W 0 m σ H)/\∀i m σ H,W i m σ H->
  ((Itt K a).stop i H/\D.nx σ H)\/((Itt K a).go i H/\∃N:St->Hp->Prop,(∀σ' H',N σ' H'->∃m',m'<m/\W (i+1) m' σ' H')/\∀x H',(Itt K a).yld i H x H'->g x σ H' λσ2 H2=>tb {D with nx:=N,ct:=N,bk:=D.nx} σ2 H2):=by
 refine⟨λi m σ H=>m=xs.length - i/\i<=xs.length/\Pv i σ H,⟨xs.length,by simp,Nat.zero_le _,h0⟩, ?_⟩
 rintro i m σ H ⟨rfl,hi,p⟩
 have q:=hl i σ H hi p
 by_cases hlt:i<xs.length
 ·refine .inr ⟨⟨xs,xs[i],q,by simp [hlt]⟩,Pv (i+1),λσ' H' p'=>⟨xs.length - (i+1),by lia,rfl,hlt,p'⟩,λx H' y=> ?_⟩
  obtain⟨e,y⟩:=y
  subst e
  exact hs i x σ _ (y xs q) p
 ·have e:i=xs.length:=by lia
  subst e
  exact .inl ⟨⟨xs,q,AM _⟩,hd σ H p⟩
theorem b5C{lo:Int}{n:Nat}{g:TG}{tb:TS}{D:R8}{σ:St}{H:Hp}(Pv:Nat->St->Hp->Prop)(h0:Pv 0 σ H)
 (hs:∀i σ H,i<n->Pv i σ H->g (.int (lo+i)) σ H λσ2 H2=>tb {D with nx:=Pv (i+1),ct:=Pv (i+1),bk:=D.nx} σ2 H2) (hd:∀σ H,Pv n σ H->D.nx σ H):
 ∃W:Nat->Nat->St->Hp->Prop,(∃m,W 0 m σ H)/\∀i m σ H,W i m σ H->
  ((Itr lo n).stop i H/\D.nx σ H)\/((Itr lo n).go i H/\∃N:St->Hp->Prop,(∀σ' H',N σ' H'->∃m',m'<m/\W (i+1) m' σ' H')/\∀x H',(Itr lo n).yld i H x H'->g x σ H' λσ2 H2=>tb {D with nx:=N,ct:=N,bk:=D.nx} σ2 H2):=by
 refine⟨λi m σ H=>m=n - i/\i<=n/\Pv i σ H,⟨n,by simp,Nat.zero_le _,h0⟩, ?_⟩
 rintro i m σ H ⟨rfl,hi,p⟩
 by_cases hlt:i<n
 ·refine .inr ⟨hlt,Pv (i+1),λσ' H' p'=>⟨n - (i+1),by lia,rfl,hlt,p'⟩,λx H' y=> ?_⟩
  obtain⟨e,y⟩:=y
  subst e y
  exact hs i σ _ hlt p
 ·have e:i=n:=by lia
  subst e
  exact .inl ⟨AM _,hd σ H p⟩
abbrev R2:=V->V->Hp->VK->Prop
def OpR(X:Cx)(f:AA->AA->Sem AA)(r:R2):Prop:=
 ∀pins s σ (H:Hp) (x y:V) (v u:AA) (Q:VK),j4 X pins σ H s->m8 x v->m8 y u->r x y H Q->
  AG (model X.prog X.w) X.A (f v u) (EP X pins σ Q) X.xe s
def UnR(X:Cx)(f:AA->Sem AA)(r:V->Hp->VK->Prop):Prop:=
 ∀pins s σ (H:Hp) (x:V) (v:AA) (Q:VK),j4 X pins σ H s->m8 x v->r x H Q->
  AG (model X.prog X.w) X.A (f v) (EP X pins σ Q) X.xe s
def E4(X:Cx)(f:AA)(r:List V->Hp->VK->Prop):Prop:=
 ∀pins s σ (H:Hp) (xs:List V) (us:List AA) (Q:VK),j4 X pins σ H s->t0 xs us->r xs H Q->
  AG (model X.prog X.w) X.A (call f us) (EP X pins σ Q) X.xe s
def c4F(X:Cx)(r:V->Hp->(Bool->Hp->Prop)->Prop):Prop:=
 ∀pins s σ (H:Hp) (x:V) (v:AA) (Q:Bool->Hp->Prop),j4 X pins σ H s->m8 x v->r x H Q->
  AG (model X.prog X.w) X.A (truthy v) (TP X pins σ Q) X.xe s
def tOp(r:R2)(ta tb:TE):TE:=λσ H Q=>ta σ H λx H1=>tb σ H1 λy H2=>r x y H2 Q
def tUn(r:V->Hp->VK->Prop)(ta:TE):TE:=λσ H Q=>ta σ H λx H1=>r x H1 Q
def rI(C:Int->Int->Prop)(g:Int->Int->V):R2:=λx y H Q=>∃i j,x= .int i/\y= .int j/\C i j/\Q (g i j) H
def rI0(g:Int->Int->V):R2:=λx y H Q=>∃i j,x= .int i/\y= .int j/\Q (g i j) H
def rU(g:Int->V):V->Hp->VK->Prop:=λx H Q=>∃i,x= .int i/\Q (g i) H
section
theorem c1P(ha:PE X a ta)(hb:PE X b tb){pins:List (AB×Obj)}{s:AE}{σ:St}{H:Hp}{R:V->V->Hp->Prop}(I:j4 X pins σ H s)
 (h:ta σ H λx H1=>tb σ H1 λy H2=>R x y H2) {Q:AA->AE->Prop} {f:AA->AA->Sem AA}
 (hf:∀v u s2 x y H2,j4 X pins σ H2 s2->m8 x v->m8 y u->R x y H2->AG (model X.prog X.w) X.A (f v u) Q X.xe s2):
 AG (model X.prog X.w) X.A (eval a X.env) (λv s₁=>AG (model X.prog X.w) X.A (eval b X.env) (λu s₂=>AG (model X.prog X.w) X.A (f v u) Q X.xe s₂) X.xe s₁) X.xe s:=by
 refine E2 (ha pins s σ H _ I h) λv s1 h0=>o0 h0 λx H1 I1 r1 q1=> ?_
 refine E2 (hb pins s1 σ H1 _ I1 q1) λu s2 h0=>o0 h0 λy H2 I2 r2 q2=> ?_
 exact hf v u s2 x y H2 I2 r1 r2 q2
theorem c4c{op:Operator}{r:R2}(ho:OpR X (binaryOp op) r)(ha:PE X a ta)(hb:PE X b tb):PE X (.BinOp a op b pos) (tOp r ta tb):=by
 ext i
 exact wpAny_BinOp (c1P ha hb I h λv u s2 x y H2 I2 rx ry q=>ho pins s2 σ H2 x y v u Q I2 rx ry q)
theorem c4d(ho:UnR X (unaryOp op) r)(ha:PE X a ta):PE X (.UnaryOp op a pos) (tUn r ta):=by
 ext i
 exact UnaryOp_ (E2 (ha pins s σ H _ I h) λv s1 h0=>o0 h0 λx H1 I1 r1 q1=>ho pins s1 σ H1 x v Q I1 r1 q1)
theorem opI{f:AA->AA->Sem AA}{C:Int->Int->Prop}{g:Int->Int->Int}
 (rule:∀(i j:Int) (t u:Tok) (s:AE) (Q:AA->AE->Prop) (E:AA->AE->Prop),C i j->Q (.int (g i j) s.toks) {s with toks:=s.toks+1}->AG (model X.prog X.w) X.A (f (.int i t) (.int j u)) Q E s):
 OpR X f (rI C λi j=> .int (g i j)):=by
 intro pins s σ H x y v u Q I rx ry h
 obtain⟨i,j,rfl,rfl,hc,q⟩:=h
 obtain⟨t,rfl⟩:=rx
 obtain⟨t',rfl⟩:=ry
 exact rule i j t t' s _ _ hc ⟨.int (g i j),H,I.tok _,⟨_,rfl⟩,q⟩
theorem c2G{f:AA->AA->Sem AA}{g:Int->Int->Int}
 (rule:∀(i j:Int) (t u:Tok) (s:AE) (Q:AA->AE->Prop) (E:AA->AE->Prop),Q (.int (g i j) s.toks) {s with toks:=s.toks+1}->AG (model X.prog X.w) X.A (f (.int i t) (.int j u)) Q E s):
 OpR X f (rI0 λi j=> .int (g i j)):=by
 intro pins s σ H x y v u Q I rx ry h
 obtain⟨i,j,rfl,rfl,q⟩:=h
 obtain⟨t,rfl⟩:=rx
 obtain⟨t',rfl⟩:=ry
 exact rule i j t t' s _ _ ⟨.int (g i j),H,I.tok _,⟨_,rfl⟩,q⟩
theorem c4T{f:AA->AA->Sem AA}{g:Int->Int->Bool}
 (rule:∀(i j:Int) (t u:Tok) (s:AE) (Q:AA->AE->Prop) (E:AA->AE->Prop),Q (.bool (g i j)) s->AG (model X.prog X.w) X.A (f (.int i t) (.int j u)) Q E s):
 OpR X f (rI0 λi j=> .bl (g i j)):=by
 intro pins s σ H x y v u Q I rx ry h
 obtain⟨i,j,rfl,rfl,q⟩:=h
 obtain⟨t,rfl⟩:=rx
 obtain⟨t',rfl⟩:=ry
 exact rule i j t t' s _ _ ⟨.bl (g i j),H,I,rfl,q⟩
def Y9(i j:Int):Prop:=0<j/\j<1073741824
def b1t(i j:Int):Prop:=(-(2 ^ 64)<i/\i<2 ^ 64)\/(-(2 ^ 64)<j/\j<2 ^ 64)
theorem b1t.ok{i j:Int}(h:b1t i j):IntMulOk i j:=by
 rcases h with⟨h1,h2⟩|⟨h1,h2⟩
 ·exact .of_left (intBits_le_64 h1 h2)
 ·exact .of_right (intBits_le_64 h1 h2)
theorem c2H:OpR X (binaryOp .Add) (rI0 λi j=> .int (i+j)):=c2G λ_ _ _ _ _ _ _ q=>add_int q
theorem c2M:OpR X (binaryOp .Sub) (rI0 λi j=> .int (i - j)):=c2G λ_ _ _ _ _ _ _ q=>sub_int q
theorem c2L:OpR X (binaryOp .Mult) (rI b1t λi j=> .int (i*j)):=opI λ_ _ _ _ _ _ _ hc q=>mul_int q hc.ok
theorem c0z:OpR X (binaryOp .FloorDiv) (rI Y9 λi j=> .int (i / j)):=opI λi j _ _ _ _ _ hc q=>by
 have h1:(0:Int)<j:=hc.1;have h2:j<1073741824:=hc.2;exact floordiv_int (by lia) (by rw [Int.fdiv_eq_ediv_of_nonneg i (by lia)];exact q) (.inl (PyProof.noPylong_small (by lia)))
theorem c2K:OpR X (binaryOp .Mod) (rI (λ_ j=>0<j) λi j=> .int (i % j)):=opI λi j _ _ _ _ _ hc q=>by
 have h1:(0:Int)<j:=hc;exact mod_int' (by lia) (by rw [Int.fmod_eq_emod_of_nonneg i (by lia)];exact q)
theorem c0e:OpR X (inplaceOp .Add) (rI0 λi j=> .int (i+j)):=c2G λ_ _ _ _ _ _ _ q=>iadd_int q
theorem unI{f:AA->Sem AA}{g:Int->Int}
 (rule:∀(i:Int) (t:Tok) (s:AE) (Q:AA->AE->Prop) (E:AA->AE->Prop),Q (.int (g i) s.toks) {s with toks:=s.toks+1}->AG (model X.prog X.w) X.A (f (.int i t)) Q E s):
 UnR X f (rU λi=> .int (g i)):=by
 intro pins s σ H x v Q I rx h
 obtain⟨i,rfl,q⟩:=h
 obtain⟨t,rfl⟩:=rx
 exact rule i t s _ _ ⟨.int (g i),H,I.tok _,⟨_,rfl⟩,q⟩
theorem c3u:UnR X (unaryOp .USub) (rU λi=> .int (-i)):=unI λ_ _ _ _ _ q=>neg_int q
end
noncomputable def c4Y:V->V->Bool
 | .non,.non=>true| .non,.int _=>true| .int _,.non=>true| .non,.bl _=>true| .bl _,.non=>true| .non,.str _=>true| .str _,.non=>true
 | .int _,.int _=>true| .bl _,.bl _=>true| .str _,.str _=>true| .byt _,.byt _=>true
 | .int _,.str _=>true| .str _,.int _=>true| .bl _,.str _=>true| .str _,.bl _=>true
 |_,_=>false
def rEq:R2:=λx y H Q=>c4Y x y=true/\Q (.bl (decide (x=y))) H
theorem b9V:decide (V.int i=V.int j)=(i==j):=by
 rw [Bool.eq_iff_iff];simp
theorem c1V:decide (V.bl i=V.bl j)=(i==j):=by
 rw [Bool.eq_iff_iff];simp
theorem b9W:decide (V.str i=V.str j)=(i==j):=by
 rw [Bool.eq_iff_iff];simp
theorem b9U:decide (V.byt i=V.byt j)=(i.toList==j.toList):=by
 rw [Bool.eq_iff_iff];cases i;cases j;simp
section
theorem M3(I:j4 X pins σ H s)(q:Q (.bl k) H)(e:k=k'):EP X pins σ Q (.bool k') s:=by
 subst e;exact⟨.bl k,H,I,rfl,q⟩
theorem c37:OpR X (compareOp .Eq) rEq:=by
 intro pins s σ H x y v u Q I rx ry h;obtain⟨hs,q⟩:=h;cases x with
 |non=>
  cases rx;cases y with
  |non=>cases ry;exact PySem.EqNone.eq_none_none (M3 I q (by simp))
  |bl j=>cases ry;exact PySem.EqNone.eq_none_bool (M3 I q (by simp))
  |int j=>obtain⟨t',rfl⟩:=ry;exact PySem.EqNone.eq_none_int (M3 I q (by simp))
  |str j=>obtain⟨t',rfl⟩:=ry;exact PySem.EqNone.eq_none_str (M3 I q (by simp))
  |_=>exact absurd (show false=true from hs) As
 |bl i=>
  cases rx;cases y with
  |non=>cases ry;exact PySem.EqNone.eq_bool_none (M3 I q (by simp))
  |bl j=>cases ry;exact eq_bool (M3 I q c1V)
  |str j=>obtain⟨t',rfl⟩:=ry;exact PySem.EqMixed.eq_bool_str (M3 I q (by simp))
  |_=>exact absurd (show false=true from hs) As
 |int i=>
  obtain⟨t,rfl⟩:=rx;cases y with
  |non=>cases ry;exact PySem.EqNone.eq_int_none (M3 I q (by simp))
  |int j=>obtain⟨t',rfl⟩:=ry;exact eq_int (M3 I q b9V)
  |str j=>obtain⟨t',rfl⟩:=ry;exact PySem.EqMixed.eq_int_str (M3 I q (by simp))
  |_=>exact absurd (show false=true from hs) As
 |str i=>
  obtain⟨t,rfl⟩:=rx;cases y with
  |non=>cases ry;exact PySem.EqNone.eq_str_none (M3 I q (by simp))
  |bl j=>cases ry;exact PySem.EqMixed.eq_str_bool (M3 I q (by simp))
  |int j=>obtain⟨t',rfl⟩:=ry;exact PySem.EqMixed.eq_str_int (M3 I q (by simp))
  |str j=>obtain⟨t',rfl⟩:=ry;exact eq_str (M3 I q b9W)
  |_=>exact absurd (show false=true from hs) As
 |byt i=>
  obtain⟨t,rfl⟩:=rx;cases y with
  |byt j=>obtain⟨t',rfl⟩:=ry;exact PySem.W.eq_bytes (M3 I q b9U)
  |_=>exact absurd (show false=true from hs) As
 |_=>cases y<;>exact absurd (show false=true from hs) As
theorem c38:OpR X (compareOp .Lt) (rI0 λi j=> .bl (decide (i<j))):=c4T λ_ _ _ _ _ _ _ q=>lt_int q
theorem c2J:OpR X (compareOp .Is) (λx y H Q=>y= .non/\Q (.bl (decide (x= .non))) H):=by
 intro pins s σ H x y v u Q I rx ry h;obtain⟨rfl,q⟩:=h;cases ry;refine is_none_gen (M3 I q ?_);cases x<;>first
  |(cases rx;rfl)
  |(obtain⟨t,rfl⟩:=rx;rfl)
theorem a1M(b:AO)(h:op≠.In:=by decide)(h2:op≠.NotIn:=by decide):behindInMarks op b=false:=by
 have e1:(op==CmpOp.In)=false:=by cases op<;>first|rfl|exact absurd rfl h
 have e2:(op==CmpOp.NotIn)=false:=by cases op<;>first|rfl|exact absurd rfl h2
 cases b<;>simp [behindInMarks,e1,e2]
theorem c0E(ho:OpR X (compareOp op) r)(ha:PE X a ta)(hb:PE X b tb)(hm:behindInMarks op b=false):PE X (.Compare a [op] [b] pos) (tOp r ta tb):=by
 ext i
 exact wpAny_Compare1 (c1P ha hb I h λv u s2 x y H2 I2 rx ry q=>ho pins s2 σ H2 x y v u Q I2 rx ry q) hm
def c4t(t:TE):TT:=λσ H Q=>t σ H λx H'=>∃k,x= .bl k/\Q k H'
theorem b4Q(ho:OpR X (compareOp op) r)(ha:PE X a ta)(hb:PE X b tb)(hm:behindInMarks op b=false):PT X (.Compare a [op] [b] pos) (c4t (tOp r ta tb)):=by
 ext i
 refine wpAny_isTrue_Compare1 (E2 (ha pins s σ H _ I h) λv s1 h0=>o0 h0 λx H1 I1 r1 q1=>E2 (hb pins s1 σ H1 _ I1 q1) λu s2 h0=>o0 h0 λy H2 I2 r2 q2=>
  E2 (ho pins s2 σ H2 x y v u _ I2 r1 r2 q2) λc s3 ⟨z,H3,I3,r3,k,e,q3⟩=> ?_) hm
 subst e;cases r3;exact wpAny_truthy_bool ⟨H3,I3,q3⟩
def c1F(K:AD)(x:V)(H:Hp)(k:Bool):Prop:=x= .bl k
theorem a70:(AQ:Nat)<2 ^ 63:=by rw [sizeLine_eq];decide
theorem c3s:c4F X (λx H Q=>∃k,c1F X.K x H k/\Q k H):=by
 intro pins s σ H x v Q I rx h;obtain⟨k,e,q⟩:=h;cases e;cases rx;exact wpAny_truthy_bool ⟨H,I,q⟩
theorem b8W(ha:PE X a ta)(he:∀whole,isTrue a X.env whole=(do let v<-whole;standAt a.pos;holding [v] (truthy v))):
 PT X a (λσ H Q=>ta σ H λx H'=>∃k,c1F X.K x H' k/\Q k H'):=by
 intro pins s σ H Q I h
 exact isTrue_plain (E2 (ha pins s σ H _ I h) λv s1 h0=>o0 h0 λx H1 I1 r1 q1=>c3s pins s1 σ H1 x v Q I1 r1 q1) (he _)
theorem b3J:OpR X (binaryOp .Add) (λx y H Q=>∃i j,x= .str i/\y= .str j/\i.length+j.length<=AQ/\Q (.str (i++j)) H):=by
 intro pins s σ H x y v u Q I rx ry h;obtain⟨i,j,rfl,rfl,hz,q⟩:=h;obtain⟨t,rfl⟩:=rx;obtain⟨t',rfl⟩:=ry;exact add_str (λt' tk=>⟨.str (i++j),H,I.tok _,⟨_,rfl⟩,q⟩) hz
theorem a0R(r:t0 [x] us):∃u,us=[u]/\m8 x u:=by
 cases r with
 |cons r1 r2=>cases r2;exact⟨_,rfl,r1⟩
theorem c4A(r:t0 [x,y] us):∃u w',us=[u,w']/\m8 x u/\m8 y w':=by
 cases r with
 |cons r1 r2=>
  cases r2 with
  |cons r3 r4=>cases r4;exact⟨_,_,rfl,r1,r3⟩
theorem b5g(hc:X.calm=true):E4 X (.builtin "min") (λxs H Q=>∃i j,xs=[.int i,.int j]/\Q (.int (if j<i then j else i)) H):=by
 intro pins s σ H xs us Q I r h;obtain⟨i,j,rfl,q⟩:=h;obtain⟨u,w',rfl,⟨t,rfl⟩,⟨t',rfl⟩⟩:=c4A r;refine min_two_ints (I.ok.hd hc) λh' tk k=>⟨_,H,I.kept k, ?_,q⟩
 by_cases hj:j<i
 ·rw [if_pos hj,if_pos hj];exact⟨_,rfl⟩
 ·rw [if_neg hj,if_neg hj];exact⟨_,rfl⟩
end
theorem b50{h:Heap}{dx:AB}{mA:Str->Υ AA}(n:h.Ns1 dx mA):∃od,h.get? dx=ξ od/\∀name,PySem.W.lookIn name od=ξ (mA name):=by
 obtain⟨o,es,ep,ho,hd,hk,_,hm⟩:=n;refine⟨o,ho,λname=> ?_⟩;have e:=hm name;unfold nsFind findBy at e;rw [<-Array.find?_toList] at e;unfold PySem.W.lookIn;rw [hd];dsimp only;split
 ·rename_i y q;rw [q] at e;exact congrArg ξ e
 ·rename_i q;rw [q] at e;have a:es.toList.any (·.refKey)=false:=by
   rw [List.any_eq_false];intro y hy;obtain⟨z,t,hkey⟩:=hk y (Array.mem_toList_iff.mp hy);simp [DictEntry.refKey,hkey]
  have a':¬es.toList.any (·.refKey)=true:=by rw [a];exact As
  rw [if_neg a'];exact congrArg ξ e
section
end
theorem a3S.some_of(r:a3S (ξ v) o):∃u,o=ξ u/\m8 v u:=by
 cases o with
 |none=>exact(show False from r).elim
 |some u=>exact⟨u,rfl,r⟩
theorem b5F(r:m8 v u):PySem.W.handedIn u=true:=by
 cases v with
 |non=>cases(show u=Value.none from r);rfl
 |bl b=>cases(show u=Value.bool b from r);rfl
 |int i=>obtain⟨t,e⟩:=(show ∃t,u=Value.int i t from r);cases e;rfl
 |str x=>obtain⟨t,e⟩:=(show ∃t,u=Value.str x t from r);cases e;rfl
 |byt b=>obtain⟨t,e⟩:=(show ∃t,u=Value.bytes b t from r);cases e;rfl
 |flt b=>obtain⟨t,e⟩:=(show ∃t,u=Value.float b t from r);cases e;rfl
 |ref a=>cases(show u=Value.ref a from r);rfl
 |ty n=>cases(show u=Value.type n from r);rfl
section
end
def a2f(K:AD)(C:AB)(f:Str):Prop:=PySem.W.findIn K (.ref C) f=ξ ζ
section
theorem b9J(hb:attributeBase e f env (eval e env)=eval e env)
 (h:AG (model prog w) A (eval e env) (λo s₁=>AG (model prog w) A (getAttr o f true) Q E s₁) E s):AG (model prog w) A (eval (.Attribute e f pos) env) Q E s:=
 Attribute_any_ h (by rw [arm_eval_Attribute,hb])
end
structure G8(k:Nat)(A:AU):Prop where
 hd:A.handled=ζ
 dp:A.depth+3*k+5<recursionLimit
 un:A.units+16*k+200<cLine
theorem G8.mono(r:G8 k A)(h:j<=k):G8 j A:=⟨r.hd,by have:=r.dp;lia,by have:=r.un;lia⟩
theorem G8.deeper{k:Nat}{A:AU}(r:G8 (k+1) A)(env:Env):G8 k (A.deeper env):=
 ⟨r.hd,by have:=r.dp;show A.depth+1+3*k+5<_;lia,by have:=r.un;show A.units+3+16*k+200<_;lia⟩
theorem b3z{A:AU}{C:AB}{us:List AA}{kw:List (Str×AA)}:(A.under (.builtin "type.__call__" ⟨.ref C::us,kw⟩)).depth=A.depth+1:=by
 first|rfl|simp [Around.under,Code.weight,Code.isCreation,Code.isGuard,Code.isCaller,Code.frames,Code.isFrame,guardIds]
theorem b3A{A:AU}{C:AB}{us:List AA}{kw:List (Str×AA)}:(A.under (.builtin "type.__call__" ⟨.ref C::us,kw⟩)).units=A.units+1:=by
 first|rfl|simp [Around.under,Code.cUnits,Code.frames,Code.isFrame]
theorem G8.make(r:G8 (k+1) A)(C:AB)(us:List AA)(kw:List (Str×AA)):G8 k (A.under (.builtin "type.__call__" ⟨.ref C::us,kw⟩)):=
 ⟨r.hd,by have:=r.dp;rw [b3z];lia,by have:=r.un;rw [b3A];lia⟩
theorem G8.depth(r:G8 k A):A.depth<recursionLimit:=by have:=r.dp;lia
theorem G8.units(r:G8 k A):A.units+64<cLine:=by have:=r.un;lia
def c0Z:TA:=λ_ H Q=>Q [] H
def b2H(ta:TE)(tr:TA):TA:=λσ H Q=>ta σ H λx H1=>tr σ H1 λxs H2=>Q (x::xs) H2
section
theorem O3:PA X [] c0Z:=λ_ _ _ _ H Q I h=>Calls.spliced_nil ⟨[],H,I,.nil,h⟩
theorem y0(ha:PE X e te)(hr:PA X es t)(hs:Ψ e es X.env:=by rfl):PA X (e::es) (b2H te t):=by
 intro pos pins s σ H Q I h;rw [hs];show AG _ _ (spliced ((false,eval e X.env)::backTo pos (AJ es X.env))) _ _ s;refine Calls.spliced_cons (E2 (ha pins s σ H _ I h) λu s1 h0=>o0 h0 λx H1 I1 r1 q1=> ?_);exact E2 (hr pos pins s1 σ H1 _ I1 q1) λus s2 h0=>o0 h0 λxs H2 I2 r2 q2=>⟨x::xs,H2,I2,.cons r1 r2,q2⟩
def c47(t:TA):TE:=λσ H Q=>t σ H λxs H1=>xs.length<=AQ/\∀p,H1 p=ζ->Q (.ref p) (n5 H1 p (.tup xs))
def c43(t:TA):TE:=λσ H Q=>t σ H λxs H1=>xs.length<=AQ/\∀p,H1 p=ζ->Q (.ref p) (n5 H1 p (.lst xs))
theorem b1e{x1}(h:PA X es t):PE X (.Tuple es x1 pos) (c47 t):=by
 intro pins s σ H Q I hq;refine wpAny_Tuple_spliced (E2 (h pos pins s σ H _ I hq) λus s1 h0=>a3g h0 λxs H1 I1 r z q=>⟨by rw [<-r.length];exact z, ?_⟩)
 have hf:H1 s1.heap.objs.size=ζ:=I1.hok.fresh (AM _);refine⟨.ref s1.heap.objs.size,n5 H1 s1.heap.objs.size (.tup xs),I1.laid (t':=s1.toks) (λb u e=>AY _ e) (AM _) ?_,rfl,q _ hf⟩;exact⟨z,us,r,⟨_,Ao _ rfl,rfl,_,rfl⟩⟩
theorem c2T(h:PA X es t):PE X (.List es pos) (c43 t):=by
 intro pins s σ H Q I hq;refine wpAny_List_spliced (E2 (h pos pins s σ H _ I hq) λus s1 h0=>a3g h0 λxs H1 I1 r z q=>⟨by rw [<-r.length];exact z, ?_⟩)
 have hf:H1 s1.heap.objs.size=ζ:=I1.hok.fresh (AM _);refine⟨.ref s1.heap.objs.size,n5 H1 s1.heap.objs.size (.lst xs),I1.laid (t':=s1.toks) (λb u e=>AY _ e) (AM _) ?_,rfl,q _ hf⟩;exact⟨z,us,0,r,Ao _ rfl⟩
end
abbrev Sp:=List V->Hp->VK->XK->Prop
abbrev CXT:=List Env->Hp->AE->XK->AA->AE->Prop
structure b2U(P:AS)(w:AL)(K:AD)(mg:Str->Υ AA)(base:Heap)(A:AU)(outer:List Env)(s:AE)(H:Hp):Prop where
 frames:A.frames=ξ outer
 mod:Mod K mg base
 bs:∀b o,base.get? b=ξ o->s.heap.get? b=ξ o/\H b=ζ
 bsz:base.objs.size<=s.heap.objs.size
 funs:s.heap.FunFrames base outer
 frf:∀b∈frs outer,H b=ζ
 hok:HOk P w H s.heap
 bare:AllBare s.gens
def CE(outer:List Env)(P:AS)(w:AL)(H:Hp)(s:AE)(Q:VK)(u:AA)(s':AE):Prop:=
 ∃v H',s'.os=s.os/\AllBare s'.gens/\Un (frs outer) [] H H' s.heap s'.heap/\HOk P w H' s'.heap/\m8 v u/\Q v H'
def CR(CX:CXT)(outer:List Env)(P:AS)(w:AL)(H:Hp)(s:AE)(Q:VK)(E:XK)(r:Result)(s':AE):Prop:=
 match r with
 | .ok (.ret u)=>CE outer P w H s Q u s'
 | .ok _=>False
 | .error e=>CX outer H s E e s'
structure R3(P:AS)(w:AL)(K:AD)(mg:Str->Υ AA)(base:Heap)(CX:CXT)(k:Nat)(f:AB)(fd:FuncData)(ps:List Str)(sp:Sp):Prop where
 len:∀vs H Q E,sp vs H Q E->vs.length=ps.length
 run:∀(A:AU) (outer:List Env) (s:AE) (H:Hp) (args:Args) (us:List AA) (vs:List V) (Q:VK) (E:XK),G8 k A->b2U P w K mg base A outer s H->BindsTo s fd args (ps.zip us)->t0 vs us->sp vs H Q E->
  codeAny (model P w) A (.call (.ref f) args) (CR CX outer P w H s Q E) s
theorem R3.mono{P:AS}{w:AL}{K:AD}{mg:Str->Υ AA}{base:Heap}{CX:CXT}{j k:Nat}{f:AB}{fd:FuncData}{ps:List Str}{sp:Sp}(F:R3 P w K mg base CX j f fd ps sp)(h:j<=k):
 R3 P w K mg base CX k f fd ps sp:=⟨F.len,λA outer s H args us vs Q E hr=>F.run A outer s H args us vs Q E (hr.mono h)⟩
theorem R3.imp{P:AS}{w:AL}{K:AD}{mg:Str->Υ AA}{base:Heap}{CX:CXT}{k:Nat}{f:AB}{fd:FuncData}{ps:List Str}{sp sp':Sp}(F:R3 P w K mg base CX k f fd ps sp)
 (h:∀vs H Q E,sp' vs H Q E->sp vs H Q E):R3 P w K mg base CX k f fd ps sp':=
 ⟨λvs H Q E q=>F.len vs H Q E (h _ _ _ _ q),λA outer s H args us vs Q E hr he hb hv hs=>F.run A outer s H args us vs Q E hr he hb hv (h _ _ _ _ hs)⟩
theorem b2U.make{P:AS}{w:AL}{K:AD}{mg:Str->Υ AA}{base:Heap}{A:AU}{outer:List Env}{s:AE}{H:Hp}(e:b2U P w K mg base A outer s H)(C:AB)(us:List AA)(kw:List (Str×AA)):
 b2U P w K mg base (A.under (.builtin "type.__call__" ⟨.ref C::us,kw⟩)) outer s H:=⟨by first|exact e.frames|(simpa [Around.under,Code.envs,Code.isFrame,pushEnvs] using e.frames),e.mod,e.bs,e.bsz,e.funs,e.frf,e.hok,e.bare⟩
section
theorem j4.env0(I:j4 X pins σ H s):b2U X.prog X.w X.K X.mg X.base X.A X.stack s H:=
 ⟨I.ok.frames,I.ok.mod,I.bs,Nat.le_trans I.ok.bsz I.sz,I.stack,I.stkFree,I.hok,I.bare⟩
theorem j4.after(I:j4 X pins σ H s)(h:CE X.stack X.prog X.w H s Q u s'):EP X pins σ Q u s':=by
 obtain⟨v,H',os,bare,un,hok,r,q⟩:=h;obtain⟨hh,g,d,t,os'⟩:=s';obtain rfl:os'=s.os:=os;exact⟨v,H',I.call (h':=hh) (g':=g) (d':=d) (t':=t) (ch:=[]) un hok bare (λb z=>absurd z (by simp)),r,q⟩
end
def c4o(sp:Sp)(dvs:List V)(E:XK)(t:TA):TE:=λσ H Q=>t σ H λvs H1=>sp (vs++dvs) H1 Q E
def a07(K:AD)(fd:FuncData)(ps:List Str)(ds:List AA):Prop:=
 ∀(s:AE) (us:List AA),K.In s.heap->(us++ds).length=ps.length->BindsTo s fd ⟨us,[]⟩ (ps.zip (us++ds))
theorem a07.all{K:AD}{fd:FuncData}{ps:List Str}(h:∀us:List AA,us.length=ps.length->bindArgs fd ⟨us,[]⟩=pure (ps.zip us)):a07 K fd ps []:=λs us _ hl=>by
 rw [An] at hl ⊢;exact .of_eq (h us hl)
def a7g(CX:CXT)(X:Cx)(E:XK):Prop:=∀(pins:List (AB×Obj)) (σ:St) (H:Hp) (s:AE) (e:AA) (s':AE),j4 X pins σ H s->CX X.stack H s E e s'->X.xe e s'
section
theorem b87(F:R3 X.prog X.w X.K X.mg X.base CX k f fd ps sp)(hr:G8 k X.A)(hb:a07 X.K fd ps ds)(hd:t0 dvs ds)(hx:a7g CX X E)
 (I:j4 X pins σ H s) (r:t0 vs us) (h:sp (vs++dvs) H Q E):AG (model X.prog X.w) X.A (call (.ref f) us) (EP X pins σ Q) X.xe s:=by
 have r2:t0 (vs++dvs) (us++ds):=r.append hd
 have hl:(us++ds).length=ps.length:=by rw [<-r2.length];exact F.len _ _ _ _ h
 refine wpAny_call (codeAny_mono (F.run X.A X.stack s H ⟨us,[]⟩ (us++ds) (vs++dvs) Q E hr I.env0 (hb s us I.kIn hl) r2 h) λr s' hq=> ?_)
 cases r with
 |error e=>exact hx pins σ H s e s' I hq
 |ok fl=>
  cases fl with
  |ret u=>exact I.after hq
  |next=>exact False.elim hq
  |brk=>exact False.elim hq
  |cont=>exact False.elim hq
theorem a64(F:R3 X.prog X.w X.K X.mg X.base CX k f fd ps sp)(hr:G8 k X.A)(hg:Gl X x)(hm:X.mg x=ξ (.ref f))(hk:PySem.W.keepIn X.K (.ref f)=true)(hb:a07 X.K fd ps ds)(hd:t0 dvs ds)(hx:a7g CX X E)
 (ha:PA X (e::es) t) (hdb:Δ x:=by decide) (he:Ψ e es X.env:=by rfl) (hpl:Φ₁ pos es X.env:=by rfl):
 PE X (.Call (.Name x p) (e::es) [] pos) (c4o sp dvs E t):=by
 intro pins s σ H Q I h
 refine wpAny_Call_Name_kw (a0L I hg hm ?_ hdb)
 refine PySem.W.callWith_K (h₀:=X.base) I.ok.mod.kin hk (E2 (ha pos pins s σ H _ I h) λus s1 h0=>o0 h0 λvs H1 I1 r q=>⟨I1.kIn, ?_⟩) he hpl
 exact b87 F hr hb hd hx I1 r q
end
structure j6(N P:List Str)(sc:Scope):Prop where
 kind:sc.kind= .function
 co:sc.isCoroutine=false
 gen:sc.isGenerator=false
 nd:N.Nodup
 pre:N.take P.length=P
 par:∀x∈P,sc.names.lookup x=ξ .local\/sc.names.lookup x=ξ .cell
 nofree:∀y∈sc.names,y.2≠.free
theorem a9v{kindOf:Str->Υ NameKind}{x:Str}:∀{binds:List (Str×AA)} {m:Str->Υ AA},(∀v,(x,v)∉binds)->bindL kindOf binds m x=m x
 |[],_,_=>rfl
 |(n,v)::r,m,h=>by
  unfold bindL;rw [a9v λw hw=>h w (Ag _ hw)];split
  ·have:x≠n:=by rintro rfl;exact h v AZ
   simp [this]
  ·rfl
theorem a9t{kindOf:Str->Υ NameKind}{x:Str}:∀{binds:List (Str×AA)} {m:Str->Υ AA},(∀v,(x,v)∉binds)->bindC kindOf binds m x=m x
 |[],_,_=>rfl
 |(n,v)::r,m,h=>by
  unfold bindC;rw [a9t λw hw=>h w (Ag _ hw)];split
  ·rfl
  ·have:x≠n:=by rintro rfl;exact h v AZ
   simp [this]
theorem a9u{kindOf:Str->Υ NameKind}{x:Str}{v:AA}:∀{P:List Str} {vs:List AA} {i:Nat} {m:Str->Υ AA},P.Nodup->P[i]?=ξ x->vs[i]?=ξ v->kindOf x=ξ .local->
 bindL kindOf (P.zip vs) m x=ξ v
 |[],_,_,_,_,h,_,_=>by simp at h
 |_::_,[],_,_,_,_,h,_=>by simp at h
 |p::P,w::vs,0,m,nd,h1,h2,hk=>by
  simp at h1 h2;subst h1;subst h2;show bindL kindOf ((p,w)::P.zip vs) m p=_;unfold bindL;rw [a9v λv hv=>(List.nodup_cons.mp nd).1 (List.of_mem_zip hv).1,if_pos hk];simp
 |p::P,w::vs,i+1,m,nd,h1,h2,hk=>by
  show bindL kindOf ((p,w)::P.zip vs) m x=_;unfold bindL;exact a9u (i:=i) (List.nodup_cons.mp nd).2 (by simpa using h1) (by simpa using h2) hk
theorem a9s{kindOf:Str->Υ NameKind}{x:Str}{v:AA}:∀{P:List Str} {vs:List AA} {i:Nat} {m:Str->Υ AA},P.Nodup->P[i]?=ξ x->vs[i]?=ξ v->kindOf x≠ξ .local->
 bindC kindOf (P.zip vs) m x=ξ v
 |[],_,_,_,_,h,_,_=>by simp at h
 |_::_,[],_,_,_,_,h,_=>by simp at h
 |p::P,w::vs,0,m,nd,h1,h2,hk=>by
  simp at h1 h2;subst h1;subst h2;show bindC kindOf ((p,w)::P.zip vs) m p=_;unfold bindC;rw [a9t λv hv=>(List.nodup_cons.mp nd).1 (List.of_mem_zip hv).1,if_neg hk];simp
 |p::P,w::vs,i+1,m,nd,h1,h2,hk=>by
  show bindC kindOf ((p,w)::P.zip vs) m x=_;unfold bindC;exact a9s (i:=i) (List.nodup_cons.mp nd).2 (by simpa using h1) (by simpa using h2) hk
def a2a(N:List Str)(vs:List V):St:=vs.map ξ++Aq (N.length - vs.length) ζ
def a2w(CX:CXT)(P:AS)(w:AL)(K:AD)(mg:Str->Υ AA)(base:Heap)(N:List Str)(qual:Str)(scope:Scope)(f:AB)(cd:AA)(A:AU)(outer:List Env)(s:AE)(H:Hp)(E:XK):Cx where
 prog:=P
 w:=w
 K:=K
 mg:=mg
 base:=base
 A:=A.deeper (envOfC qual scope s.heap.objs.size f cd)
 N:=N
 s₀:=s
 H₀:=H
 env:=envOfC qual scope s.heap.objs.size f cd
 outer:=outer
 stack:=envOfC qual scope s.heap.objs.size f cd::outer
 ex:=[]
 calm:=true
 fn:=λ_=>true
 pn:=[]
 xe:=λe s'=>AG (model P w) (A.deeper (envOfC qual scope s.heap.objs.size f cd)) (leaving (envOfC qual scope s.heap.objs.size f cd) e) (λ_ s''=>CX outer H s E e s'') (λe' s''=>CX outer H s E e' s'') s'
theorem b1M{sc:Scope}{n:Nat}{x:Str}(h:sc.names.lookup x=ξ .cell):∃c,(cellsFrom n sc.names []).lookup x=ξ c:=by
 have q:=PySem.W.cellsFrom_some sc.names n [] (.inl h);exact Option.isSome_iff_exists.mp q
theorem b5J{CX:CXT}{P:AS}{w:AL}{K:AD}{mg:Str->Υ AA}{base:Heap}{N ps:List Str}{qual:Str}{scope:Scope}{f:AB}{cd:AA}{A:AU}{outer:List Env}{s s1:AE}{H:Hp}{E:XK}{us:List AA}{vs:List V}
 (S:j6 N ps scope) (hd:A.handled=ζ) (e0:b2U P w K mg base A outer s H) (hl:vs.length=ps.length) (r:t0 vs us)
 (x:InCallC s s.heap.objs.size (bindL (envOfC qual scope s.heap.objs.size f cd).kindOf (ps.zip us) λ_=>ζ) (cellsFrom (s.heap.objs.size+1) scope.names []) (bindC (envOfC qual scope s.heap.objs.size f cd).kindOf (ps.zip us) λ_=>ζ) s1):
 j4 (a2w CX P w K mg base N qual scope f cd A outer s H E) [] (a2a N vs) H s1:=by
 have hpl:ps.length<=N.length:=by have:=congrArg List.length S.pre;rw [List.length_take] at this;lia
 obtain⟨h1,tk,rfl,hk⟩:=x.done
 have noA:∀b:AB,b∉(a2w CX P w K mg base N qual scope f cd A outer s H E).ex:=λb z=>absurd (show b∈([]:List AB) from z) (by simp)
 refine⟨⟨e0.mod,S.kind,rfl,rfl,AM _,λy z c h1 h2=> ?_,λy hy=> ?_,λy c _ h=> ?_,λ_=>hd,Around.frames_deeper e0.frames,.inr ⟨rfl,rfl⟩,λb z=>absurd z (noA b),e0.bs,e0.bsz,λb _ _=>noA b,λb z=>absurd z (noA b),e0.funs,e0.frf⟩,
  rfl,e0.bare,Un.kept hk,⟨_,x.toInCall.ns,λi y v h1 h2 h3=> ?_⟩,λy c h=>⟨_,x.cell y c h⟩,e0.hok.fresh (AM _),λy c h=> ?_,λp hp=>absurd (show p∈([]:List (AB×Obj)) from hp) (by simp),e0.hok.kept hk, ?_⟩
 ·exact name_of_addr x.apart (PySem.mem_of_lookup h1) (PySem.mem_of_lookup h2)
 ·have hy:scope.names.lookup y=ξ .cell\/scope.names.lookup y=ξ .free:=hy
  rcases hy with hy|hy
  ·exact b1M hy
  ·exact absurd rfl (S.nofree _ (PySem.mem_of_lookup hy))
 ·exact BG (x.above y c (PySem.mem_of_lookup h))
 ·have hi:i<vs.length:=by
   unfold a2a at h2
   by_cases hi:i<vs.length
   ·exact hi
   ·rw [List.getElem?_append_right (by simpa using hi)] at h2
    rw [List.getElem?_replicate] at h2;split at h2<;>cases h2
  have ha:vs[i]?=ξ v:=by
   unfold a2a at h2;rw [BC (by simpa using hi),Ak] at h2
   cases e:vs[i]? with
   |none=>rw [e] at h2;cases h2
   |some a=>rw [e] at h2;cases h2;rfl
  obtain⟨u,hu,rv⟩:=r.get ha;have hp:ps[i]?=ξ y:=by
   rw [<-S.pre,List.getElem?_take_of_lt (by lia)];exact h1
  have ndP:ps.Nodup:=by rw [<-S.pre];exact S.nd.sublist (List.take_sublist _ _)
  refine⟨u,rv, ?_⟩;rcases S.par y (BE hp) with k|k
  ·exact .inl ⟨k,a9u ndP hp hu k⟩
  ·obtain⟨c,e⟩:=b1M (n:=s.heap.objs.size+1) k;refine .inr ⟨.inl k,c,e, ?_⟩;have q:=x.cell y c e;rw [a9s ndP hp hu (by show scope.names.lookup y≠_;rw [k];decide)] at q
   exact q
 ·exact e0.hok.fresh (BG (x.above y c (PySem.mem_of_lookup h)))
 ·unfold a2a
  show _=N.length
  rw [Ar,AN,List.length_replicate]
  lia
theorem c1p{CX:CXT}{P:AS}{w:AL}{K:AD}{mg:Str->Υ AA}{base:Heap}{k:Nat}{f:AB}{name qual:Str}{params:Arguments}{body:List Stmt}{scope:Scope}{dV kV doc pm cdv ct oc:AA}{an od:Υ AB}
 {osl:Array (Υ AA)} {N ps:List Str} {sp:Sp} (lk:K.lookup f=ξ ⟨oc,od,.func (PySem.W.fnOf name qual params body scope dV kV doc pm an cdv ct),osl⟩) (hcd:PySem.W.codeIn K cdv qual=true) (S:j6 N ps scope)
 (len:∀vs H Q E,sp vs H Q E->vs.length=ps.length)
 (hbody:∀(A:AU) (outer:List Env) (s:AE) (H:Hp) (vs:List V) (Q:VK) (E:XK),G8 k (A.deeper (envOfC qual scope s.heap.objs.size f cdv))->sp vs H Q E->
  ∃t,PSs (a2w CX P w K mg base N qual scope f cdv A outer s H E) body t/\t {nx:=λ_ H'=>Q .non H',rt:=Q} (a2a N vs) H):
 R3 P w K mg base CX (k+1) f (PySem.W.fnOf name qual params body scope dV kV doc pm an cdv ct) ps sp:=by
 refine⟨len,λA outer s H args us vs Q E hr e0 hb r hsp=> ?_⟩
 have hl:=len _ _ _ _ hsp
 have KX:K.In s.heap:=e0.mod.kin.keeps λb o e=>(e0.bs b o e).1
 have lim:s.heap.NoLimit:=e0.mod.nolimit.keeps λb o e=>(e0.bs b o e).1
 have hkind:∀y∈ps.zip us,scope.names.lookup y.1=ξ .local\/(scope.names.lookup y.1=ξ .cell/\((cellsFrom (s.heap.objs.size+1) scope.names []).lookup y.1).isSome=true):=λ⟨n,v⟩ hy=>by
  rcases S.par n (List.of_mem_zip hy).1 with q|q
  ·exact .inl q
  ·exact .inr ⟨q,PySem.W.cellsFrom_some _ _ _ (.inl q)⟩
 refine codeAny_call_function hr.depth (KX _ _ lk) rfl S.co S.gen rfl (PySem.W.codeRec_of KX hcd) (hb _ _ _ _ ?_)
 refine wpAny_newFunctionEnv_cells S.kind hkind λenv he s1 x=> ?_
 subst he
 refine⟨lim.keeps x.toInCall.keep,codeAny_func ?_⟩
 obtain⟨t,ht,hq⟩:=hbody A outer s H vs Q E (hr.deeper _) hsp
 have I:j4 (a2w CX P w K mg base N qual scope f cdv A outer s H E) [] (a2a N vs) H s1:=b5J S hr.hd e0 hl r x
 refine wpAny_mono (ht [] s1 (a2a N vs) H _ I hq) (λfl s' hs=> ?_) λe s' hs=>hs
 have fin:∀{σ':St} {H':Hp} {v:V} {u:AA},j4 (a2w CX P w K mg base N qual scope f cdv A outer s H E) [] σ' H' s'->m8 v u->Q v H'->CE outer P w H s Q u s':=
  λ {σ' H' v u} J rv q=>⟨v,H',J.os,J.bare,J.base,J.hok,rv,q⟩
 cases fl with
 |ret u=>
  obtain⟨v,σ',H',J,rv,q⟩:=hs
  exact fin J rv q
 |next=>
  obtain⟨σ',H',J,q⟩:=hs
  exact fin (v:=V.non) (u:=Value.none) J rfl q
 |brk=>
  obtain⟨_,_,_,q⟩:=hs
  exact False.elim q
 |cont=>
  obtain⟨_,_,_,q⟩:=hs
  exact False.elim q
section
variable {X:Cx}{x:Str}{p pos:Pos}{e:AO}{es:List AO}{t:TA}{id T:String}{r:List V->Hp->VK->Prop}
def tCB(r:List V->Hp->VK->Prop)(t:TA):TE:=λσ H Q=>t σ H λvs H1=>r vs H1 Q
theorem a2V(hc:E4 X (.builtin id) r)(hg:Gl X x)(hm:X.mg x=ζ)(hv:bootBuiltins x=ξ (.builtin id))(ha:PA X (e::es) t)(hn:x≠"__name__":=by decide)(hdb:Δ x:=by decide)
 (he:Ψ e es X.env:=by rfl) (hpl:Φ₁ pos es X.env:=by rfl):PE X (.Call (.Name x p) (e::es) [] pos) (tCB r t):=by
 intro pins s σ H Q I h
 refine wpAny_Call_Name_kw (a7X I hg hm hv ?_ hn hdb)
 exact PyProof.Rows.callWith_builtin1 (E2 (ha pos pins s σ H _ I h) λus s1 h0=>o0 h0 λvs H1 I1 r1 q1=>hc pins s1 σ H1 vs us Q I1 r1 q1) he hpl
theorem a5S(hc:E4 X (.type T) r)(hg:Gl X x)(hm:X.mg x=ζ)(hv:bootBuiltins x=ξ (.type T))(ha:PA X (e::es) t)(hn:x≠"__name__":=by decide)(hdb:Δ x:=by decide)
 (he:Ψ e es X.env:=by rfl) (hpl:Φ₁ pos es X.env:=by rfl):PE X (.Call (.Name x p) (e::es) [] pos) (tCB r t):=by
 intro pins s σ H Q I h
 refine wpAny_Call_Name_kw (a7X I hg hm hv ?_ hn hdb)
 exact PyProof.Rows.callWith_type1 (E2 (ha pos pins s σ H _ I h) λus s1 h0=>o0 h0 λvs H1 I1 r1 q1=>hc pins s1 σ H1 vs us Q I1 r1 q1) he hpl
end
end L2
namespace HT
open PySem PyProof.Rows
section
open PySem.SeqAt
open PySem.AutoSeq1 (wpAny_loadPart')
open PySem.MeetsSeq PySem.MeetsSeq2 PySem.MeetsSeq3
end
section
noncomputable def sIx(n d:Nat):Υ Int->Nat
 |none=>d
 |some v=>if v<0 then(v+(n:Int)).toNat else min v.toNat n
theorem sIx_none(n d:Nat):sIx n d ζ=d:=rfl
theorem sIx_nat(n d k:Nat):sIx n d (ξ (k:Int))=min k n:=by
 show(if(k:Int)<0 then((k:Int)+(n:Int)).toNat else min (k:Int).toNat n)=min k n
 rw [if_neg (by lia),BH]
end
end HT
namespace L2
abbrev TO:=St->Hp->(Υ Int->Hp->Prop)->Prop
def PO(X:Cx)(e:Υ AO)(t:TO):Prop:=
 ∀pins s σ (H:Hp) (Q:Υ Int->Hp->Prop),j4 X pins σ H s->t σ H Q->
  AG (model X.prog X.w) X.A (evalPart e X.env) (λu s'=>∃o H',j4 X pins σ H' s'/\IsPart u o/\Q o H') X.xe s
def c00:TO:=λ_ H Q=>Q ζ H
def c4s(t:TE):TO:=λσ H Q=>t σ H λx H1=>∃i,x= .int i/\Q (ξ i) H1
section
variable {X:Cx}{e:AO}{te:TE}{lo hi:Υ AO}{tl th:TO}{pos p2:Pos}
theorem c0G:PO X ζ c00:=by
 ext i
 rw [evalPart_none];exact AH ⟨ζ,H,I,.none,h⟩
theorem c0H(h:PE X e te):PO X (ξ e) (c4s te):=by
 intro pins s σ H Q I hw;rw [evalPart_some];refine E2 (h pins s σ H _ I hw) λu s1 h0=>o0 h0 λx H1 I1 r1 q1=> ?_;obtain⟨i,rfl,q⟩:=q1;obtain⟨t,rfl⟩:=r1;exact⟨ξ i,H1,I1,.int i t,q⟩
def SlR(X:Cx)(r:V->Υ Int->Υ Int->Hp->VK->Prop):Prop:=
 ∀pins s σ (H:Hp) (x:V) (v vl vu:AA) (lo hi:Υ Int) (sl:AB) (Q:VK),j4 X pins σ H s->m8 x v->s.heap.IsSliceOf sl vl vu .none->IsPart vl lo->IsPart vu hi->r x lo hi H Q->
  ∃T id,typeLookup (.type T) "__getitem__"=pure (ξ (.builtin id))/\s.TypeIs v T/\AG (model X.prog X.w) X.A (getItem v (.ref sl)) (EP X pins σ Q) X.xe s
def tSl(r:V->Υ Int->Υ Int->Hp->VK->Prop)(te:TE)(tl th:TO):TE:=λσ H Q=>te σ H λx H1=>tl σ H1 λl H2=>th σ H2 λu H3=>r x l u H3 Q
theorem b8M(hr:SlR X r)(he:PE X e te)(hl:PO X lo tl)(hu:PO X hi th):PE X (.Subscript e (.Slice lo hi ζ p2) pos) (tSl r te tl th):=by
 ext i
 refine Subscript_ (E2 (he pins s σ H _ I h) λv s1 h0=>o0 h0 λx H1 I1 r1 q1=> ?_);refine wpAny_Slice (E2 (hl pins s1 σ H1 _ I1 q1) λvl s2 h0=>o0 h0 λl H2 I2 pl q2=>E2 (hu pins s2 σ H2 _ I2 q2) λvu s3 h0=>o0 h0 λu H3 I3 pu q3=> ?_);rw [evalPart_none];refine AH ?_;have I4:j4 X pins σ H3 {s3 with heap:=s3.heap.push {cls:= .type "slice",data:= .fields #[vl,vu,.none]}}:=I3.kept (t':=s3.toks) λb ob q=>AY _ q
 obtain⟨T,id,hT,ht,hg⟩:=hr pins {s3 with heap:=s3.heap.push {cls:= .type "slice",data:= .fields #[vl,vu,.none]}} σ H3 x v vl vu l u s3.heap.objs.size Q I4 r1 (Heap.IsSliceOf.new ..) pl pu q3
 show AG (model X.prog X.w) X.A (subscriptTail e (.Slice lo hi ζ p2) v (.ref s3.heap.objs.size)) (EP X pins σ Q) X.xe {s3 with heap:=s3.heap.push {cls:= .type "slice",data:= .fields #[vl,vu,.none]}}
 exact tail_any (ops:=[.ref s3.heap.objs.size,v]) ht hT hg (by with_unfolding_all rfl)
end
def ixN(n:Nat)(i:Int):Υ Nat:=if 0<=i then(if i<n then ξ i.toNat else ζ) else if -(n:Int)<=i then ξ (i+n).toNat else ζ
def atI(xs:List α)(i:Int):Υ α:=(ixN xs.length i).bind λj=>xs[j]?
theorem c0f(h:ixN n i=ξ j):seqIndex? i n=ξ j/\j<n/\ -(n:Int)<=i/\i<n:=by
 unfold ixN at h
 by_cases h0:0<=i
 ·rw [if_pos h0] at h
  by_cases h1:i<n
  ·rw [if_pos h1] at h;have e:i.toNat=j:=Option.some.inj h;exact⟨by rw [seqIndex_of h0 h1,e],by lia,by lia,h1⟩
  ·rw [if_neg h1] at h;cases h
 ·rw [if_neg h0] at h
  by_cases h1: -(n:Int)<=i
  ·rw [if_pos h1] at h;have e:(i+n).toNat=j:=Option.some.inj h;exact⟨by rw [seqIndex_neg (by lia) h1,e],by lia,h1,by lia⟩
  ·rw [if_neg h1] at h;cases h
theorem b0q(h:atI xs i=ξ v):∃j,seqIndex? i xs.length=ξ j/\xs[j]?=ξ v/\j<xs.length/\ -(xs.length:Int)<=i/\i<xs.length:=by
 unfold atI at h;cases e:ixN xs.length i with
 |none=>rw [e] at h;cases h
 |some j=>
  rw [e] at h;obtain⟨h1,h2,h3,h4⟩:=c0f e;exact⟨j,h1,h,h2,h3,h4⟩
def b32(b:AO):Prop:=∀o i,subscripted b false o i=operate [o,i] (getItem o i)
def IxR(X:Cx)(r:R2):Prop:=
 ∀(value slice:AO) (pins:List (AB×Obj)) (s:AE) (σ:St) (H:Hp) (x y:V) (v u:AA) (Q:VK),j4 X pins σ H s->m8 x v->m8 y u->r x y H Q->
  subscripted slice false v u=operate [v,u] (getItem v u)->AG (model X.prog X.w) X.A (subscriptTail value slice v u) (EP X pins σ Q) X.xe s
def MtR(X:Cx)(id:String)(r:V->List V->Hp->VK->Prop):Prop:=
 ∀pins s σ (H:Hp) (x:V) (xs:List V) (v:AA) (us:List AA) (Q:VK),j4 X pins σ H s->m8 x v->t0 xs us->r x xs H Q->
  AG (model X.prog X.w) X.A (call (.builtin id) (v::us)) (EP X pins σ Q) X.xe s
section
variable {X:Cx}{a b:AO}{ta tb:TE}{pos:Pos}
theorem c4b(hr:IxR X r)(ha:PE X a ta)(hb:PE X b tb)(hs:b32 b):PE X (.Subscript a b pos) (tOp r ta tb):=by
 ext i
 exact Subscript_ (c1P ha hb I h λv u s2 x y H2 I2 rx ry q=>hr a b pins s2 σ H2 x y v u Q I2 rx ry q (hs _ _))
def c4V(K:AD):R2:=λx y H Q=>∃p xs i v,x= .ref p/\y= .int i/\SqL K H p xs/\atI xs i=ξ v/\Q v H
def c4X(K:AD):R2:=λx y H Q=>∃p xs i v,x= .ref p/\y= .int i/\SqT K H p xs/\atI xs i=ξ v/\Q v H
def c4W:R2:=λx y H Q=>∃z i c,x= .str z/\y= .int i/\z.length<=AQ/\atI z.cps.toList i=ξ c/\Q (.str ⟨#[c]⟩) H
theorem c0g:IxR X (c4V X.K):=by
 intro value slice pins s σ H x y v u Q I rx ry h hs;obtain⟨p,xs,i,z,rfl,rfl,hq,he,q⟩:=h;cases rx;obtain⟨t,rfl⟩:=ry;obtain⟨its,r,pl,hz⟩:=I.list hq
 ext ag
 by_cases h0:0<=i
 ·have hj:i.toNat=j:=by
   rw [seqIndex_of h0 h5] at h1;exact Option.some.inj h1
  exact item_listR pl.isList h0 (by lia) (by rw [hj];simpa using ew) fin hs
 ·have hj:(i+(its.toArray.size:Int)).toNat=j:=by
   rw [seqIndex_neg (by lia) h4] at h1
   rw [Az,<-hl];exact Option.some.inj h1
  exact subscriptTail_builtinR (x:=w) pl.isList.typeIs slot_list_getitem.lookup
   (wpAny_getItem_list_neg (Q:=λr s'=>r=w/\EP X pins σ Q r s') pl.isList (by lia) (by rw [Az]<;>lia) (by lia) (by rw [hj];simpa using ew) ⟨rfl,fin⟩) hs
theorem c2l:IxR X (c4X X.K):=by
 intro value slice pins s σ H x y v u Q I rx ry h hs;obtain⟨p,xs,i,z,rfl,rfl,hq,he,q⟩:=h;cases rx;obtain⟨t,rfl⟩:=ry;obtain⟨its,r,pl,hz⟩:=I.tuple hq
 ext ag
 exact subscriptTail_builtinR (x:=w) pl.typeIs slot_tuple_getitem.lookup
  (getItem_tuple (j:=j) (Q:=λr s'=>r=w/\EP X pins σ Q r s') pl (by lia) (by lia) (by rw [Az,<-hl];exact h1) (by simpa using ew) ⟨rfl,fin⟩) hs
theorem c2k:IxR X c4W:=by
 intro value slice pins s σ H x y v u Q I rx ry h hs;obtain⟨z,i,c,rfl,rfl,hz,he,q⟩:=h;obtain⟨t,rfl⟩:=rx;obtain⟨t',rfl⟩:=ry;obtain⟨j,h1,h2,h3,h4,h5⟩:=b0q he;have hl:z.cps.toList.length=z.length:=by simp [Str.length]
 rw [hl] at h1 h4 h5;have hn:=a70;exact tail_any (typeIs_str s z t) slot_str_getitem.lookup (getItem_str (c:=c) (by
  have e1:decide (i< -(2 ^ 63:Int))=false:=decide_eq_false (by lia)
  have e2:decide (i>=2 ^ 63)=false:=decide_eq_false (by lia)
  rw [e1,e2,Bool.or_false]) (by rw [h1];simpa using h2) ⟨.str ⟨#[c]⟩,H,I.tok _,⟨_,rfl⟩,q⟩) hs
theorem b0s:E4 X (.builtin "len") (λxs H Q=>∃p ys,xs=[.ref p]/\(SqL X.K H p ys\/SqT X.K H p ys)/\Q (.int ys.length) H):=by
 intro pins s σ H xs us Q I r h;obtain⟨p,ys,rfl,hq,q⟩:=h;obtain⟨u,rfl,rx⟩:=a0R r;cases rx;have hn:=a70;rcases hq with hq|hq
 ·obtain⟨its,r',pl,hz⟩:=I.list hq;have hlen:=r'.length;exact Calls.call_len_list pl.isList (by simp only [Az]<;>lia) ⟨.int ys.length,H,I.tok _,⟨s.toks+1,by rw [Az,hlen]⟩,q⟩
 ·obtain⟨its,r',pl,hz⟩:=I.tuple hq;have hlen:=r'.length;exact len_tuple pl (by simp only [Az]<;>lia) ⟨.int ys.length,H,I.tok _,⟨s.toks+1,by rw [Az,hlen]⟩,q⟩
theorem b0t:E4 X (.builtin "len") (λxs H Q=>∃z,xs=[.str z]/\z.length<=AQ/\Q (.int z.length) H):=by
 intro pins s σ H xs us Q I r h;obtain⟨z,rfl,hz,q⟩:=h;obtain⟨u,rfl,t,rfl⟩:=a0R r;have hn:=a70;exact len_str (by lia) ⟨.int z.length,H,I.tok _,⟨_,rfl⟩,q⟩
theorem b0u:E4 X (.type "list") (λxs H Q=>∃p ys,xs=[.ref p]/\(SqL X.K H p ys\/SqT X.K H p ys)/\∀l,H l=ζ->Q (.ref l) (n5 H l (.lst ys))):=by
 intro pins s σ H xs us Q I r h;obtain⟨p,ys,rfl,hq,q⟩:=h;obtain⟨u,rfl,rx⟩:=a0R r;cases rx;have fin:∀(its:List AA),t0 ys its->ys.length<=AQ->∀(h':Heap) (c':Nat),(∀b o',s.heap.get? b=ξ o'->h'.get? b=ξ o')->
  h'.get? s.heap.objs.size=ξ {cls:= .type "list",dict:=ζ,data:= .seq its.toArray c',slots:= #[]}->EP X pins σ Q (.ref s.heap.objs.size) {s with heap:=h'}:=λits r' hz h' c' kp e=>
  ⟨.ref s.heap.objs.size,_,I.laid (t':=s.toks) kp (AM _) (show z8 X.prog X.w _ h' _ (.lst ys) from⟨hz,its,c',r',e⟩),rfl,q _ (I.hok.fresh (AM _))⟩
 rcases hq with hq|hq
 ·obtain⟨its,r',pl,hz⟩:=I.list hq;have hlen:=r'.length;obtain⟨o,ho,hc,n,hd⟩:=pl.isList;exact call_list_seq p (.inl rfl) ho hc hd (λh' c' kp e=>fin its r' hz h' c' kp e) (by simp only [Az]<;>lia)
 ·obtain⟨its,r',pl,hz⟩:=I.tuple hq;have hlen:=r'.length;obtain⟨o,ho,hc,n,hd⟩:=pl;exact call_list_seq p (.inr rfl) ho hc hd (λh' c' kp e=>fin its r' hz h' c' kp e) (by simp only [Az]<;>lia)
theorem a8U:E4 X (.type "tuple") (λxs H Q=>∃p ys,xs=[.ref p]/\((SqL X.K H p ys/\∀l,H l=ζ->Q (.ref l) (n5 H l (.tup ys)))\/(SqT X.K H p ys/\Q (.ref p) H))):=by
 intro pins s σ H xs us Q I r h;obtain⟨p,ys,rfl,h⟩:=h;obtain⟨u,rfl,rx⟩:=a0R r;cases rx;rcases h with⟨hq,q⟩|⟨hq,q⟩
 ·obtain⟨its,r',pl,hz⟩:=I.list hq;have hlen:=r'.length;refine call_tuple_list pl.isList (λh' kp=> ?_) (by simp only [Az]<;>lia)
  have I1:j4 X pins σ H {s with heap:=h'}:=I.kept (t':=s.toks) kp
  have I2:j4 X pins σ (n5 H h'.objs.size (.tup ys)) {s with heap:=h'.push {cls:= .type "tuple",data:= .seq its.toArray}}:=
   I1.laid (t':=s.toks) (λb o e=>AY _ e) (AM _) (show z8 X.prog X.w _ _ _ (.tup ys) from⟨hz,its,r',IsTup.new _ _⟩)
  exact⟨.ref h'.objs.size,_,I2,rfl,q _ (I1.hok.fresh (AM _))⟩
 ·obtain⟨its,r',pl,hz⟩:=I.tuple hq;exact call_tuple_same pl ⟨.ref p,H,I,rfl,q⟩
def tyV(K:AD)(T:String)(x:V)(H:Hp):Prop:=match x with
 | .str _=>T="str"
 | .int _=>T="int"
 | .ref p=>(T="list"/\∃xs,SqL K H p xs)\/(T="tuple"/\∃o,K.lookup p=ξ o/\o.cls= .type "tuple"/\o.dict=ζ)\/
  (T="dict"/\((∃kvs,H p=ξ (.dK kvs))\/∃kvs,H p=ξ (.dT kvs)))\/(T="set"/\∃S n,H p=ξ (.set S n))
 |_=>False
theorem b9n(I:j4 X pins σ H s)(r:m8 x v)(ty:tyV X.K T x H):
 s.TypeIs v T/\∀a,v= .ref a->∃ob,s.heap.get? a=ξ ob/\ob.dict=ζ:=by
 cases x with
 |str z=>
  obtain⟨t,rfl⟩:=r
  cases(show T="str" from ty)
  exact⟨typeIs_str s z t,λ_ e=>nomatch e⟩
 |int i=>
  obtain⟨t,rfl⟩:=r
  cases(show T="int" from ty)
  exact⟨typeIs_int s i t,λ_ e=>nomatch e⟩
 |ref p=>
  cases r
  rcases ty with⟨rfl,xs,hq⟩|⟨rfl,o,hk,hc,hd⟩|⟨rfl,hk⟩|⟨rfl,S,n,hk⟩
  ·obtain⟨its,_,pl,_⟩:=I.list hq
   refine⟨pl.isList.typeIs,λa e=> ?_⟩
   cases e
   obtain⟨o,n,e,c,hd,_⟩:=pl
   exact⟨o,e,hd⟩
  ·refine⟨⟨o,I.kIn p o hk,hc⟩,λa e=> ?_⟩
   cases e
   exact⟨o,I.kIn _ o hk,hd⟩
  ·have z:∃o,s.heap.get? p=ξ o/\o.ExactDict:=by
    rcases hk with⟨kvs,hk⟩|⟨kvs,hk⟩
    ·obtain⟨_,_,_,_,o,_,_,e,ex,_⟩:=I.hok p _ hk;exact⟨o,e,ex⟩
    ·obtain⟨_,_,_,_,o,_,_,e,ex,_⟩:=I.hok p _ hk;exact⟨o,e,ex⟩
   obtain⟨o,e,ex⟩:=z;refine⟨⟨o,e,ex.1⟩,λa e2=> ?_⟩;cases e2;exact⟨o,e,ex.2.1⟩
  ·obtain⟨o,_,_,_,e,ex,_⟩:=I.hok p _ hk
   refine⟨⟨o,e,ex.1⟩,λa e2=> ?_⟩
   cases e2
   exact⟨o,e,ex.2.1⟩
 |_=>exact False.elim ty
def c40(K:AD)(T:String)(r:V->List V->Hp->VK->Prop)(to:TE):TE:=λσ H Q=>to σ H λx H1=>tyV K T x H1/\r x [] H1 Q
def tBM(K:AD)(T:String)(r:V->List V->Hp->VK->Prop)(to:TE)(t:TA):TE:=λσ H Q=>to σ H λx H1=>tyV K T x H1/\t σ H1 λxs H2=>r x xs H2 Q
variable {o e:AO}{es:List AO}{to:TE}{t:TA}{name:Str}{apos cpos:Pos}{T id:String}{r:V->List V->Hp->VK->Prop}
theorem c2R(pa:PlainAttrs T)(slot:Slot T name id)(hty:typeOf (.builtin id)=pure (.type "method_descriptor"))(hm:MtR X id r)(ho:PE X o to)
 (hbase:attributeBase o name X.env (eval o X.env)=eval o X.env:=by rfl) (hline:(apos.endLine==cpos.line)=true:=by rfl):PE X (.Call (.Attribute o name apos) [] [] cpos) (c40 X.K T r to):=by
 intro pins s σ H Q I h
 refine wpAny_Call_method0_late hbase hline (E2 (ho pins s σ H _ I h) λv s1 h0=>a3g h0 λx H1 I1 r1 ty q1=> ?_)
 obtain⟨h1,h2⟩:=b9n I1 r1 ty
 exact⟨T,id,pa,slot,hty,h1,h2,Calls.callWith_builtin rfl (PySem.evalArgs_none (hm pins s1 σ H1 x [] v [] Q I1 r1 .nil q1))⟩
theorem b8F(pa:PlainAttrs T)(slot:Slot T name id)(hty:typeOf (.builtin id)=pure (.type "method_descriptor"))(hm:MtR X id r)(ho:PE X o to)(ha:PA X (e::es) t)
 (hbase:attributeBase o name X.env (eval o X.env)=eval o X.env:=by rfl)
 (hfew:((backTo cpos (AJ (e::es) X.env)).all (λx=> !x.1)&&(backToKw cpos (keywordEach [] X.env)).all (λx=>x.1.isSome)
  && decide ((e::es).length+([]:List Keyword).length+(if([]:List Keyword).isEmpty then 0 else 1)<30))=true:=by rfl)
 (hline:(apos.endLine==cpos.line)=true:=by rfl) (hs:Ψ e es X.env:=by rfl) (hplain:Φ₁ cpos es X.env:=by rfl):
 PE X (.Call (.Attribute o name apos) (e::es) [] cpos) (tBM X.K T r to t):=by
 intro pins s σ H Q I h
 refine wpAny_Call_method_late hbase hfew hline rfl (E2 (ho pins s σ H _ I h) λv s1 h0=>a3g h0 λx H1 I1 r1 ty q1=> ?_)
 obtain⟨h1,h2⟩:=b9n I1 r1 ty
 refine⟨T,id,pa,slot,hty,h1,h2, ?_⟩
 have hA:=ha cpos pins s1 σ H1 _ I1 q1
 rw [hs] at hA ⊢
 refine Calls.callWith_builtin (by show(false||(backTo cpos (AJ es X.env)).any (·.1))=false;rw [hplain]<;>rfl) (Calls.evalArgs_plain ?_)
 exact E2 hA λus s2 h0=>o0 h0 λvs H2 I2 r2 q2=>hm pins s2 σ H2 x vs v us Q I2 r1 r2 q2
end
def MtM(X:Cx)(id:String)(r:V->List V->Hp->VK->Prop):Prop:=
 ∀pins s σ (H:Hp) (x:V) (xs:List V) (v:AA) (us:List AA) (Q:VK),j4 X pins σ H s->m8 x v->t0 xs us->r x xs H Q->
  AG (model X.prog X.w) X.A (call (.builtin id) (v::us)) (EP X pins σ Q) X.xe s
theorem t0.one:∀{x:V} {us:List AA},t0 [x] us->∃u,us=[u]/\m8 x u
 |_,_,.cons r .nil=>⟨_,rfl,r⟩
section
theorem j4.lset{its its':List AA}{n:Nat}{f:Array AA->Array AA}{t':Nat}(I:j4 X pins σ H s)(hH:H l=ξ (.lst xs))
 (e:s.heap.get? l=ξ {cls:= .type "list",data:= .seq its.toArray n}) (hf:f its.toArray=its'.toArray) (hv:t0 ys its') (hz:ys.length<=AQ):
 j4 X pins σ (n5 H l (.lst ys)) {s with heap:=s.heap.update l (Obj.mapSeq f),toks:=t'}:=by
 have q:=PySem.IsL.update e f
 rw [hf] at q
 refine I.write (x:=l) (e:=l) (by rw [hH];exact trivial) (.inl rfl) (λb' u hb hu=>(Heap.get?_update_other s.heap (Obj.mapSeq f) (Ne.symm hb)).trans hu) ⟨_,q⟩ ?_
 exact⟨hz,its',_,hv,q⟩
theorem j4.lnew(I:j4 X pins σ H s)(hv:t0 ys its)(hz:ys.length<=AQ):
 j4 X pins σ (n5 H s.heap.objs.size (.lst ys)) {s with heap:=s.heap.push {cls:= .type "list",data:= .seq its.toArray},toks:=t'}:=
 I.laid (λ_ _ q=>AY _ q) (AM _) ⟨hz,its,0,hv,Ao _ rfl⟩
theorem j4.fresh(I:j4 X pins σ H s):H s.heap.objs.size=ζ:=I.hok.fresh (AM _)
theorem j4.lstM(I:j4 X pins σ H s)(hH:H l=ξ (.lst xs)):xs.length<=AQ/\∃(its:List AA) (n:Nat),t0 xs its/\xs.length=its.length/\s.heap.get? l=ξ {cls:= .type "list",data:= .seq its.toArray n}:=by
 obtain⟨z,its,n,r,e⟩:=I.hok l _ hH;exact⟨z,its,n,r,r.length,e⟩
def c0N:V->List V->Hp->VK->Prop:=λx vs H Q=>∃l xs y,x= .ref l/\vs=[y]/\H l=ξ (.lst xs)/\xs.length<AQ/\Q .non (n5 H l (.lst (xs++[y])))
theorem a90:MtM X "list.append" c0N:=by
 intro pins s σ H x vs v us Q I rx rv h;obtain⟨l,xs,y,rfl,rfl,hH,hz,q⟩:=h;cases rx;obtain⟨u,rfl,ru⟩:=rv.one;obtain⟨z,its,n,r,hl,e⟩:=I.lstM hH;refine call_meets F.slot_list_append ⟨_,e,rfl⟩ F.entry_list_append (F.args_list_append_2 _ _) (PySem.list_append l its.toArray n u (by rw [Az];lia)) ⟨e, ?_⟩
 refine⟨.non,_,I.lset (its':=its++[u]) hH e (by simp) (r.append (.cons ru .nil)) ?_,rfl,q⟩
 rw [Ar,List.length_singleton]
 lia
def c4U:R2:=λx y H Q=>∃l b xs zs,x= .ref l/\y= .ref b/\H l=ξ (.lst xs)/\H b=ξ (.lst zs)/\xs.length+zs.length<=AQ/\∀p,H p=ζ->Q (.ref p) (n5 H p (.lst (xs++zs)))
theorem c2I:OpR X (binaryOp .Add) c4U:=by
 intro pins s σ H x y v u Q I rx ry h;obtain⟨l,b,xs,zs,rfl,rfl,hH,hB,hz,q⟩:=h;cases rx;cases ry;obtain⟨z,its,n,r,hl,e⟩:=I.lstM hH;obtain⟨z2,its2,n2,r2,hl2,e2⟩:=I.lstM hB;refine PySem.P.add_list e e2 ?_ (by rw [Az,Az];lia)
 have ea:its.toArray++its2.toArray=(its++its2).toArray:=by simp
 rw [ea];exact⟨.ref _,_,I.lnew (t':=s.toks) (r.append r2) (by rw [Ar];lia),rfl,q _ I.fresh⟩
end
end L2
namespace Att
open PySem PySem.W PySem.Calls PyProof.Rows
theorem a6I:∀(ns:List Int) (vs:List AA),WellAll P h vs (ns.map WData.int)->IntsAre vs ns:=by
 intro ns
 induction ns with
 |nil=>
  intro vs w;rw [Ab] at w;cases w;exact .nil
 |cons n ns ih=>
  intro vs w;rw [AI] at w;cases w with
  |cons a b=>
   cases a;exact .cons _ _ (ih _ b)
theorem b6o{l:OpenLaw}{n:Nat}(hn:l.most=ξ n){P:Params}{h:Heap}{args:List WData}{vals:List AA}
 (hpre:l.row.toRowW.claim.pre args=true) (hwl:WellAll P h vals args):
 ∃a vs ns,vals=[Value.ref a]/\args=[WData.list (ns.map WData.int)]/\h.get? a=ξ {cls:= .type "list",data:= .seq vs.toArray}/\IntsAre vs ns/\ns.length<=n:=by
 have hsh:WShape.hasAll [] args [.list .int]=true:=(pre_splitW hpre).1
 have hc:l.pre.holds [] {args:=args}=true:=(pre_splitW hpre).2
 obtain⟨d,r,rfl,h1,h2⟩:=hasAllW_cons hsh
 obtain rfl:=hasAllW_nil h2
 obtain⟨xs,rfl,h3⟩:=hasW_list h1
 obtain⟨ns,rfl⟩:=items_int h3
 have hlen:ns.length<=n:=by
  unfold OpenLaw.pre at hc;have h4:(WTm.not (.lt (.lit (.int (n:Int))) (.len (.arg 0)))).holds [] {args:=[.list (ns.map .int)]}=true:=by
   have h4:=(holds_andW hc).1;rw [hn] at h4;exact h4
  have h5:=condW_of h4 (w_not (w_lt w_lit (w_len_list (w_arg rfl))));rw [AN] at h5;refine Nat.le_of_not_lt λq=> ?_;have q':(n:Int)<((ns.length:Nat):Int):=by lia
  first
   |(rw [decide_eq_true q'] at h5;exact absurd h5 (by decide))
   |(simp at h5;lia)
 cases hwl with
 |cons w1 w2=>
  cases w2
  cases w1 with
  |list ho hall=>exact⟨_,_,ns,rfl,rfl,ho,a6I ns _ hall,hlen⟩
theorem b6h(l:OpenLaw)(args:List WData):l.row.toRowW.claim.post args (.bool true) args=true:=
 postW_of (r:=l.row.toRowW) (X:=(true==true))
  (show WShape.has [] (.bool true) .bool=true by first|rfl|decide|simp [WShape.has,WShape.arms,WShape.armsAll])
  (show(WTm.eq .res (.lit (.bool true))).value [] {args:=args,res:=ξ (.bool true),after:=args}=ξ (.bool (true==true)) from w_eq_bool (w_res rfl) w_lit) rfl
theorem attach_call{l:OpenLaw}{n:Nat}{q:AS}{loose:List Str}{XP:(Str->Υ AA)->Heap->Prop}{YP:AL->Heap->Prop}{d:DefRec}
 (hn:l.most=ξ n) (hdf:d.params.defaults=[])
 (call:∀(w:AL) (s₀ s₁:AE) (mg mb:Str->Υ AA) (fa:AB) (o:Obj) (pm cd doc:AA) (a:AB) (vs:List AA) (ns:List Int),
  Ground q loose [] XP w s₀ mg mb s₁.heap->YP w s₁.heap->
  s₁.heap.get? fa=ξ o->o.data= .func (docDef d.name d.params d.body d.scope pm cd doc)->s₁.heap.CodeRec cd d.name->mg d.name=ξ (.ref fa)->
  s₁.heap.get? a=ξ {cls:= .type "list",data:= .seq vs.toArray}->IntsAre vs ns->ns.length<=n->s₁.gens= #[]->
  codeAny (model l.prog w) callerA (.call (.ref fa) ⟨[.ref a],[]⟩) (λr s'=>r= .ok (.ret (.bool true))/\OldK s₁.heap s'.heap/\s'.os=s₁.os/\AllBare s'.gens) s₁):
 WalkO q loose XP YP l.row.toRowW d [] (λf vs=>PySem.call f vs):=by
 intro w s₀ s₁ mg mb G Y fa o pm cd doc dV kV ho hd hcd hD hmg hg args vals as hpre hlay hrd hwl hlo
 obtain rfl:dV= .none:=Dflts.none hD hdf
 obtain rfl:kV= .none:=Dflts.noKw hD
 obtain⟨a,vs,ns,rfl,rfl,hobj,hints,hlen⟩:=b6o hn hpre hwl
 refine enter_call (codeAny_mono (call w s₀ s₁ mg mb fa o pm cd doc a vs ns G Y ho (fd_plain hd) hcd hmg hobj hints hlen hg) λr s' hq=> ?_)
 obtain⟨rfl,h2,h3,h4⟩:=hq
 exact⟨.inl ⟨.bool true,.bool true,[],rfl,λ_=>rfl,.bool true,b6h l _,λ_=>⟨List.Pairwise.nil,λ_ hm=>(nomatch hm)⟩⟩,h2,h3,h4⟩
section
end
end Att
namespace L2
theorem b0i:∀{vs:List AA} {ns:List Int},IntsAre vs ns->t0 (ns.map V.int) vs
 |_,_,.nil=> .nil
 |_,_,.cons n t h=> .cons ⟨t,rfl⟩ (b0i h)
def c1E(H:Hp):Prop:=∀b,H b=ζ\/∃o xs,H b=ξ (.frz o (.lst xs))
theorem b7X{P:AS}{w:AL}{K:AD}{mg mb:Str->Υ AA}{CX:CXT}{k:Nat}{fa a:AB}{fd:FuncData}{x:Str}{sp:Sp}{s₁:AE}{vs:List AA}{ns:List Int}
 (KX:K.In s₁.heap) (hns:s₁.heap.Ns mainGlobals mg) (hb:s₁.heap.Ns builtinsNs mb) (hbb:∀x:Str,x≠"__name__"->mb x=bootBuiltins x) (hlim:s₁.heap.NoLimit) (hg:s₁.gens= #[])
 (ha:s₁.heap.get? a=ξ {cls:= .type "list",data:= .seq vs.toArray}) (hi:IntsAre vs ns) (hl:ns.length<=AQ) (hr:G8 k callerA)
 (F:∀base:Heap,K.In base->base.Ns mainGlobals mg->R3 P w K mg base CX k fa fd [x] sp) (hbind:∀(s:AE) (u:AA),BindsTo s fd ⟨[u],[]⟩ [(x,u)])
 (hsp:∀H:Hp,c1E H->SqL K H a (ns.map V.int)->sp [.ref a] H (λv _=>v= .bl true) λ_ _ _=>False)
 (hCX:∀H e s',CX [] H s₁ (λ_ _ _=>False) e s'->False):
 codeAny (model P w) callerA (.call (.ref fa) ⟨[.ref a],[]⟩) (λr s'=>r= .ok (.ret (.bool true))/\OldK s₁.heap s'.heap/\s'.os=s₁.os/\AllBare s'.gens) s₁:=by
 have rv:=b0i hi
 have lenV:=hi.length
 have core:∀H:Hp,c1E H->SqL K H a (ns.map V.int)->HOk P w H s₁.heap->(∀b,H b≠ζ->b=a)->(H a≠ζ->K.lookup a=ζ)->
  codeAny (model P w) callerA (.call (.ref fa) ⟨[.ref a],[]⟩) (λr s'=>r= .ok (.ret (.bool true))/\OldK s₁.heap s'.heap/\s'.os=s₁.os/\AllBare s'.gens) s₁:=by
  intro H hO hS hok hA hK
  have base_of:∀{b:AB} {o:Obj},s₁.heap.get? b=ξ o->H b=ζ->(b0O s₁.heap H).get? b=ξ o:=λe n=>b7H e n
  have noA:∀{b:AB} {o:Obj} {es:Array DictEntry} {ep:Nat},s₁.heap.get? b=ξ o->o.data= .dict es ep->H b=ζ:=λ {b o es ep} e d=>by
   cases q:H b with
   |none=>rfl
   |some u=>
    have e':b=a:=hA b (by rw [q];simp)
    subst e';rw [ha] at e;cases e;have d':Data.seq vs.toArray _=Data.dict es ep:=d;cases d'
  have nsK:∀{b:AB} {m:Str->Υ AA},s₁.heap.Ns b m->(b0O s₁.heap H).Ns b m:=λ {b m} ⟨o,es,ep,e,d,r⟩=>⟨o,es,ep,base_of e (noA e d),d,r⟩
  have hKb:K.In (b0O s₁.heap H):=λb o e=>base_of (KX b o e) (by
   cases q:H b with
   |none=>rfl
   |some u=>
    have e':b=a:=hA b (by rw [q];simp)
    subst e';rw [hK (by rw [q];simp)] at e;cases e)
  have hM:Mod K mg (b0O s₁.heap H):=⟨hKb,nsK hns,⟨mb,nsK hb,hbb⟩,let ⟨mc,h1,h2⟩:=hlim;⟨mc,nsK h1,h2⟩⟩
  have e0:b2U P w K mg (b0O s₁.heap H) callerA [] s₁ H:=⟨rfl,hM,λb o e=>c0x e,Nat.le_of_eq (b5G _ _),trivial,λb hb=>absurd (show b∈([]:List AB) from hb) (by simp),hok,.of_eq hg⟩
  refine codeAny_mono ((F _ hKb (nsK hns)).run callerA [] s₁ H ⟨[.ref a],[]⟩ [.ref a] [.ref a] _ _ hr e0 (hbind s₁ (.ref a)) (.cons rfl .nil) (hsp H hO hS)) λr s' h=> ?_
  cases r with
  |error e=>exact(hCX H e s' h).elim
  |ok fl=>
   cases fl with
   |next=>exact False.elim h
   |brk=>exact False.elim h
   |cont=>exact False.elim h
   |ret u=>
    obtain⟨v,H',os,bare,un,hok',r',q⟩:=h
    have q':v= .bl true:=q
    subst q'
    obtain rfl:u=Value.bool true:=r'
    refine⟨rfl,OldK.of_keep λb o e=> ?_,os,bare⟩
    cases q:H b with
    |none=>exact un.keep b o e q (by intro z;exact absurd (show b∈([]:List AB) from z) (by simp)) (by simp)
    |some u=>
     rcases hO b with z|⟨ob,xs,z⟩
     ·rw [q] at z;cases z
     ·have z2:=un.frzs b ob _ z
      obtain⟨e1,_⟩:=hok b _ z
      obtain⟨e2,_⟩:=hok' b _ z2
      rw [e] at e1;cases e1
      exact e2
 cases hk:K.lookup a with
 |some o=>
  have e:=KX a o hk
  rw [ha] at e
  cases e
  refine core (λ_=>ζ) (λ_=> .inl rfl) (.inr ⟨_,vs.toArray,_,hk,rfl,rfl,rfl,by rw [Az,lenV];exact hl,by simpa using rv⟩) (λb u z=>by have z':(ζ:Υ HO)=ξ u:=z;cases z') (λb z=>absurd rfl z) λz=>absurd rfl z
 |none=>
  refine core (λb=>if b=a then ξ (.frz {cls:= .type "list",data:= .seq vs.toArray} (.lst (ns.map V.int))) else ζ) (λb=> ?_) (.inl (.inr ⟨{cls:= .type "list",data:= .seq vs.toArray},if_pos rfl⟩)) (λb u z=> ?_) (λb z=> ?_) λ_=>hk
  ·by_cases hb:b=a
   ·exact .inr ⟨_,_,if_pos hb⟩
   ·exact .inl (if_neg hb)
  ·by_cases hb:b=a
   ·have z':=(if_pos hb).symm.trans z
    cases z'
    subst hb
    exact⟨ha,by rw [AN];exact hl,vs,_,rv,ha⟩
   ·have z':=(if_neg hb).symm.trans z
    cases z'
  ·by_cases hb:b=a
   ·exact hb
   ·exact absurd (if_neg hb) z
theorem c1a{l:PySem.W.OpenLaw}{n k:Nat}{q:AS}{loose:List Str}{XP:(Str->Υ AA)->Heap->Prop}{YP:AL->Heap->Prop}{d:DefRec}{K:Params->AD}{CX:AL->CXT}{sp:AL->Sp}{x:Str}
 (hn:l.most=ξ n) (hn2:n<=AQ) (hdf:d.params.defaults=[]) (hr:G8 k callerA)
 (hY:∀(w:AL) (h:Heap),YP w h->(K w.params).In h)
 (F:∀(w:AL) (mg:Str->Υ AA) (fa:AB) (h:Heap),(K w.params).In h->h.Ns mainGlobals mg->mg d.name=ξ (.ref fa)->
  ∃fd:FuncData,(∀(s:AE) (u:AA),BindsTo s fd ⟨[u],[]⟩ [(x,u)])/\
   ∀base:Heap,(K w.params).In base->base.Ns mainGlobals mg->R3 l.prog w (K w.params) mg base (CX w) k fa fd [x] (sp w))
 (hsp:∀(w:AL) (H:Hp) (a:AB) (ns:List Int),ns.length<=n->c1E H->SqL (K w.params) H a (ns.map V.int)->sp w [.ref a] H (λv _=>v= .bl true) λ_ _ _=>False)
 (hCX:∀(w:AL) (H:Hp) (s:AE) (e:AA) (s':AE),CX w [] H s (λ_ _ _=>False) e s'->False):
 PySem.W.WalkO q loose XP YP l.row.toRowW d [] (λf vs=>PySem.call f vs):=by
 refine Att.attach_call hn hdf λw s₀ s₁ mg mb fa o pm cd doc a vs ns G Y ho hd hcd hmg hobj hints hlen hg=> ?_
 have KX:=hY w _ Y
 obtain⟨fd,hb,hF⟩:=F w mg fa _ KX G.T.g hmg
 exact b7X KX G.T.g G.T.b G.T.builtins G.T.nolimit hg hobj hints (Nat.le_trans hlen hn2) hr hF hb (λH hO hS=>hsp w H a ns hlen hO hS) λH e s'=>hCX w H s₁ e s'
def P5(s:Stmt):Arguments:=match s with
 | .FunctionDef _ a _ _ _ _ _ _ _ _=>a
 |_=>{posonlyargs:=[],args:=[],vararg:=ζ,kwonlyargs:=[],kw_defaults:=[],kwarg:=ζ,defaults:=[]}
def B2(s:Stmt):List Stmt:=match s with
 | .FunctionDef _ _ b _ _ _ _ _ _ _=>b
 |_=>[]
def f6(s:Stmt):Scope:=match s with
 | .FunctionDef _ _ _ _ _ _ sc _ _ _=>sc
 |_=>{kind:= .function,names:=[],isGenerator:=false,isCoroutine:=false}
abbrev CX0:CXT:=λ_ _ _ _ _ _=>False
abbrev E0:XK:=λ_ _ _=>False
theorem b2p:a7g CX0 X E0:=λ_ _ _ _ _ _ _ h=>h.elim
structure Fun(K:AD)(x qual:Str)(st:Stmt)(f:AB)(fd:FuncData):Prop where
 ex:∃(oc:AA) (od:Υ AB) (kV doc pm:AA) (an:Υ AB) (cdv ct:AA) (osl:Array (Υ AA)),
  fd=PySem.W.fnOf x qual (P5 st) (B2 st) (f6 st) .none kV doc pm an cdv ct/\K.lookup f=ξ ⟨oc,od,.func fd,osl⟩/\PySem.W.codeIn K cdv qual=true
 kp:PySem.W.keepIn K (.ref f)=true
section
variable {P:AS}{w:AL}{K:AD}{mg:Str->Υ AA}{base:Heap}
theorem Fun.ok{x qual:Str}{st:Stmt}{f:AB}{fd:FuncData}{N ps:List Str}{k:Nat}{sp:Sp}(F:Fun K x qual st f fd)(S:j6 N ps (f6 st))(len:∀vs H Q E,sp vs H Q E->vs.length=ps.length)
 (hbody:∀(cdv:AA) (A:AU) (outer:List Env) (s:AE) (H:Hp) (vs:List V) (Q:VK) (E:XK),G8 k (A.deeper (envOfC qual (f6 st) s.heap.objs.size f cdv))->sp vs H Q E->
  ∃t,PSs (a2w CX0 P w K mg base N qual (f6 st) f cdv A outer s H E).nox (B2 st) t/\t {nx:=λ_ H'=>Q .non H',rt:=Q} (a2a N vs) H):R3 P w K mg base CX0 (k+1) f fd ps sp:=by
 obtain⟨oc,od,kV,doc,pm,an,cdv,ct,osl,rfl,lk,hcd⟩:=F.ex
 refine c1p lk hcd S len λA outer s H vs Q E hr hsp=> ?_
 obtain⟨t,h,q⟩:=hbody cdv A outer s H vs Q E hr hsp
 exact⟨t,h.nox,q⟩
theorem Fun.binds{x qual:Str}{st:Stmt}{f:AB}{fd:FuncData}{ps:List Str}(F:Fun K x qual st f fd)
 (h:∀(kV doc pm:AA) (an:Υ AB) (cdv ct:AA) (us:List AA),us.length=ps.length->bindArgs (PySem.W.fnOf x qual (P5 st) (B2 st) (f6 st) .none kV doc pm an cdv ct) ⟨us,[]⟩=pure (ps.zip us)):a07 K fd ps []:=by
 obtain⟨oc,od,kV,doc,pm,an,cdv,ct,osl,rfl,lk,hcd⟩:=F.ex
 exact .all (h kV doc pm an cdv ct)
theorem b7w{x qual:Str}{st:Stmt}{f:AB}{oc:AA}{od an:Υ AB}{osl:Array (Υ AA)}{kV doc pm cdv ct:AA}(l:K.lookup f=ξ ⟨oc,od,.func (PySem.W.fnOf x qual (P5 st) (B2 st) (f6 st) .none kV doc pm an cdv ct),osl⟩)
 (c:PySem.W.codeIn K cdv qual=true) (k:PySem.W.keepIn K (.ref f)=true):Fun K x qual st f (PySem.W.fnOf x qual (P5 st) (B2 st) (f6 st) .none kV doc pm an cdv ct):=⟨⟨oc,od,kV,doc,pm,an,cdv,ct,osl,rfl,l,c⟩,k⟩
end
theorem b6r(h:n<=1000):n<AQ:=Nat.lt_of_le_of_lt h (by decide)
section
theorem pv(i:Nat)(hN:X.N[i]?=ξ x:=by rfl)(hv:Vis X.env.scope x:=by first|exact Or.inl rfl|exact Or.inr (Or.inl rfl)|exact Or.inr (Or.inr rfl))(hd:Δ x:=by decide)
 (hcd:(x==("__classdict__":Str))=false:=by decide):PE X (.Name x pos) (G9 i):=c2Y hN hv hd hcd
end
theorem b5L{A B:Prop}(h:B):if false=true then A else B:=by
 rw [if_neg As];exact h
theorem b5M{A B:Prop}(h:A):if true=true then A else B:=by
 rw [if_pos rfl];exact h
def m3(H H':Hp):Prop:=∀b o,H b=ξ o->H' b=ξ o
theorem m3.trans(a:m3 H H1)(b:m3 H1 H2):m3 H H2:=λc o h=>b c o (a c o h)
theorem m3.free{H H':Hp}(e:m3 H H'){l:AB}(h:H' l=Option.none):H l=Option.none:=by
 cases q:H l with
 |none=>rfl
 |some o=>
  rw [e l o q] at h;cases h
section
variable (P:AS)(w:AL)
end
section
end
section
variable {κ:Type}[DecidableEq κ]
noncomputable def U0(kvs:List (κ×V))(k:κ):Υ V:=(kvs.find? λkv=>decide (kv.1=k)).map (·.2)
def a1O(kvs:List (κ×V))(k:κ)(v:V):List (κ×V):=
 if(kvs.any λkv=>decide (kv.1=k))=true then kvs.map (λkv=>if kv.1=k then(kv.1,v) else kv) else kvs++[(k,v)]
theorem a1r{p:κ×V}{r:List (κ×V)}{k:κ}(e:p.1=k):U0 (p::r) k=ξ p.2:=by simp [U0,List.find?_cons,e]
theorem a1q{p:κ×V}{r:List (κ×V)}{k:κ}(e:¬p.1=k):U0 (p::r) k=U0 r k:=by simp [U0,List.find?_cons,e]
theorem b2O(k:κ):∀kvs:List (κ×V),(kvs.any λkv=>decide (kv.1=k))=(U0 kvs k).isSome
 |[]=>rfl
 |p::r=>by
  rw [List.any_cons]
  by_cases e:p.1=k
  ·simp only [a1r e,decide_eq_true e,Bool.true_or,Option.isSome_some]
  ·rw [a1q e,decide_eq_false e,Bool.false_or];exact b2O k r
theorem a2Q(kvs:List (κ×V))(k:κ)(v:V):(a1O kvs k v).length<=kvs.length+1:=by
 unfold a1O;split
 ·rw [AN];lia
 ·rw [Ar,AT,Ai];lia
theorem a3S.isSome_eq(r:a3S o u):o.isSome=u.isSome:=by
 cases o with
 |none=>cases u with
  |none=>rfl
  |some _=>exact(show False from r).elim
 |some _=>cases u with
  |none=>exact(show False from r).elim
  |some _=>rfl
theorem a3S.getD(r:a3S o u)(rd:m8 d d'):m8 (o.getD d) (u.getD d'):=by
 cases o with
 |none=>cases u with
  |none=>exact rd
  |some _=>exact(show False from r).elim
 |some _=>cases u with
  |none=>exact(show False from r).elim
  |some _=>exact r
theorem KV.val{kvs:List (κ×V)}{vs:List (κ×AA)}(r:KV kvs vs)(k:κ):a3S (U0 kvs k) (valueAt vs k):=by
 unfold KV at r
 induction r with
 |nil=>exact True.intro
 | @cons p q ps qs h t ih=>
   obtain⟨h1,h2⟩:=h
   by_cases e:p.1=k
   ·have e':q.1=k:=h1.symm.trans e;have b:valueAt (q::qs) k=ξ q.2:=by simp [valueAt,List.find?_cons,e']
    rw [a1r e,b];exact h2
   ·have e':¬q.1=k:=λz=>e (h1.trans z);have b:valueAt (q::qs) k=valueAt qs k:=by simp [valueAt,List.find?_cons,e']
    rw [a1q e,b];exact ih
theorem KV.any{kvs:List (κ×V)}{vs:List (κ×AA)}(r:KV kvs vs)(k:κ):(kvs.any λkv=>decide (kv.1=k))=vs.any λkv=>decide (kv.1=k):=by
 unfold KV at r
 induction r with
 |nil=>rfl
 |cons h t ih=>rw [List.any_cons,List.any_cons,ih,h.1]
theorem KV.repl(r:KV kvs vs)(k:κ)(ry:m8 y u):
 KV (kvs.map λkv=>if kv.1=k then(kv.1,y) else kv) (vs.map λkv=>if kv.1=k then(kv.1,u) else kv):=by
 unfold KV at r ⊢
 induction r with
 |nil=>exact .nil
 | @cons p q ps qs h t ih=>
   rw [AI,AI]
   refine .cons ?_ ih
   obtain⟨h1,h2⟩:=h
   by_cases e:p.1=k
   ·rw [if_pos e,if_pos (h1.symm.trans e)];exact⟨h1,ry⟩
   ·rw [if_neg e,if_neg (λz=>e (h1.trans z))];exact⟨h1,h2⟩
theorem KV.put(r:KV kvs vs)(k:κ)(ry:m8 y u):KV (a1O kvs k y) (stored vs k u):=by
 unfold a1O stored;rw [r.any k]
 by_cases e:(vs.any λkv=>decide (kv.1=k))=true
 ·rw [if_pos e,if_pos e];exact r.repl k ry
 ·rw [if_neg e,if_neg e];exact Paired.snoc r ⟨rfl,ry⟩
theorem KV.length{kvs:List (κ×V)}{vs:List (κ×AA)}(r:KV kvs vs):kvs.length=vs.length:=Paired.length r
end
theorem a9N(r:m8 (kV k) u):(m5 P w).is k u=true:=by
 cases k with
 |inl i=>obtain⟨t,e⟩:=(show ∃t,u=Value.int i t from r);subst e;exact a6q P w i t
 |inr x=>obtain⟨t,e⟩:=(show ∃t,u=Value.str x t from r);subst e;exact W3 P w x t
theorem a9M:∀{ks:List k4} {us:List AA},t0 (ks.map kV) us->ItemsAre (m5 P w) ks us
 |[],_,r=>by rw [Ab] at r;cases r;exact .nil
 |k::ks,_,r=>by
  rw [AI] at r;cases r with
  |cons h t=>exact .cons (a9N h) (a9M t)
abbrev KT(H:Hp):List (List k4×V)->List (List k4×AB×AA)->Prop:=Paired λp q=>p.1=q.1/\H q.2.1=ξ (.tup (p.1.map kV))/\m8 p.2 q.2.2
theorem KT.val{H:Hp}{kvs:List (List k4×V)}{xs:List (List k4×AB×AA)}(r:KT H kvs xs)(k:List k4):a3S (U0 kvs k) ((atKey xs k).map (·.2)):=by
 induction r with
 |nil=>exact True.intro
 | @cons p q ps qs h t ih=>
   obtain⟨h1,_,h2⟩:=h
   by_cases e:p.1=k
   ·have e':q.1=k:=h1.symm.trans e;have b:atKey (q::qs) k=ξ q.2:=by simp [atKey,List.find?_cons,e']
    rw [a1r e,b];exact h2
   ·have e':¬q.1=k:=λz=>e (h1.trans z);have b:atKey (q::qs) k=atKey qs k:=by simp [atKey,List.find?_cons,e']
    rw [a1q e,b];exact ih
theorem KT.repl(r:KT H kvs xs)(k:List k4)(ry:m8 y u):
 KT H (kvs.map λkv=>if kv.1=k then(kv.1,y) else kv) (xs.map (putAt k u)):=by
 induction r with
 |nil=>exact .nil
 | @cons p q ps qs h t ih=>
   rw [AI,AI]
   refine .cons ?_ ih
   obtain⟨h1,h2,h3⟩:=h
   unfold putAt
   by_cases e:p.1=k
   ·rw [if_pos e,if_pos (h1.symm.trans e)];exact⟨h1,h2,ry⟩
   ·rw [if_neg e,if_neg (λz=>e (h1.trans z))];exact⟨h1,h2,h3⟩
theorem KT.put(r:KT H kvs xs)(k:List k4)(hb:H b=ξ (.tup (k.map kV)))(ry:m8 y u):
 KT H (a1O kvs k y) (storedH xs k b u):=by
 have e:(kvs.any λkv=>decide (kv.1=k))=(atKey xs k).isSome:=by
  rw [b2O,(r.val k).isSome_eq,Option.isSome_map]
 unfold a1O storedH
 rw [e]
 by_cases q:(atKey xs k).isSome=true
 ·rw [if_pos q,if_pos q];exact r.repl k ry
 ·rw [if_neg q,if_neg q];exact Paired.snoc r ⟨rfl,hb,ry⟩
theorem KT.keeps(r:KT H kvs xs)(ht:∀b ys,H b=ξ (.tup ys)->H' b=ξ (.tup ys)):KT H' kvs xs:=
 Paired.mapP r λ_ _ z=>⟨z.1,ht _ _ z.2.1,z.2.2⟩
section
theorem c1w(ok:HOk P w H h)(e:Rd H a u):z8 P w H h a u:=e.ok ok
theorem a9E(ok:HOk P w H h)(e:Rd H a (.dK kvs)):kvs.length<=AQ/\(a==sysModules)=false/\∃vs,KV kvs vs/\h.DictOf (m5 P w) a vs:=
 show z8 P w H h a (.dK kvs) from c1w ok e
theorem b4b(ok:HOk P w H h)(e:H a=ξ (.dK kvs)):kvs.length<=AQ/\(a==sysModules)=false/\∃vs,KV kvs vs/\h.DictOf (m5 P w) a vs:=a9E ok (.inl e)
theorem a5G(ok:HOk P w H h)(e:H a=ξ (.tup (ks.map kV))):(tupleKind (m5 P w)).is h ks a:=by
 obtain⟨_,its,r,o,h1,h2,n,h3⟩:=(show z8 P w H h a (.tup (ks.map kV)) from ok a _ e);exact⟨o,its.toArray,n,h1,h2,h3,by simpa using a9M r⟩
theorem a9G(ok:HOk P w H h)(e:Rd H a (.dT kvs)):kvs.length<=AQ/\(a==sysModules)=false/\
 ∃xs,KT H kvs xs/\h.DictOfH (tupleKind (m5 P w)) a xs:=by
 obtain⟨z,y,xs,r,o,es,ep,h1,h2,h3,h4,h5⟩:=(show z8 P w H h a (.dT kvs) from c1w ok e)
 refine⟨z,y,xs,r,o,es,ep,h1,h2,h3,h4,λx hx=> ?_,h5⟩
 have all:∀{l:List (List k4×V)} {m:List (List k4×AB×AA)},KT H l m->∀x∈m,(tupleKind (m5 P w)).is h x.1 x.2.1:=by
  intro l m q
  induction q with
  |nil=>intro x hx;exact nomatch hx
  | @cons p q ps qs hq t ih=>
    intro x hx;rcases AX.mp hx with e|hx
    ·subst e;exact a5G ok (by rw [<-hq.1];exact hq.2.1)
    ·exact ih x hx
 exact all r x hx
theorem c1n(ok:HOk P w H h)(e:H a=ξ (.dT kvs)):kvs.length<=AQ/\(a==sysModules)=false/\
 ∃xs,KT H kvs xs/\h.DictOfH (tupleKind (m5 P w)) a xs:=a9G ok (.inl e)
end
def a2d(H:Hp)(a:AB)(y:V)(r:Υ V):Prop:=
 (∃kvs k,Rd H a (.dK kvs)/\y=kV k/\r=U0 kvs k)\/∃kvs k b,Rd H a (.dT kvs)/\y= .ref b/\H b=ξ (.tup (k.map kV))/\r=U0 kvs k
def b0l(H:Hp)(a:AB)(y v:V)(H':Hp):Prop:=
 (∃kvs k,H a=ξ (.dK kvs)/\y=kV k/\kvs.length<AQ/\H'=n5 H a (.dK (a1O kvs k v)))\/
 ∃kvs k b,H a=ξ (.dT kvs)/\y= .ref b/\H b=ξ (.tup (k.map kV))/\kvs.length<AQ/\H'=n5 H a (.dT (a1O kvs k v))
theorem a2d.k{H:Hp}{a:AB}{kvs:List (k4×V)}{k:k4}(e:H a=ξ (.dK kvs)):a2d H a (kV k) (U0 kvs k):= .inl ⟨kvs,k,.inl e,rfl,rfl⟩
theorem a2d.t{H:Hp}{a b:AB}{kvs:List (List k4×V)}{k:List k4}(e:H a=ξ (.dT kvs))(eb:H b=ξ (.tup (k.map kV))):a2d H a (.ref b) (U0 kvs k):= .inr ⟨kvs,k,b,.inl e,rfl,eb,rfl⟩
theorem b0l.k{H:Hp}{a:AB}{kvs:List (k4×V)}{k:k4}{v:V}(e:H a=ξ (.dK kvs))(hl:kvs.length<AQ):b0l H a (kV k) v (n5 H a (.dK (a1O kvs k v))):= .inl ⟨kvs,k,e,rfl,hl,rfl⟩
theorem b0l.t{H:Hp}{a b:AB}{kvs:List (List k4×V)}{k:List k4}{v:V}(e:H a=ξ (.dT kvs))(eb:H b=ξ (.tup (k.map kV)))(hl:kvs.length<AQ):
 b0l H a (.ref b) v (n5 H a (.dT (a1O kvs k v))):= .inr ⟨kvs,k,b,e,rfl,eb,hl,rfl⟩
section
theorem j4.big(I:j4 X pins σ H s):sysModules<s.heap.objs.size:=by
 have h:mainGlobals<s.heap.objs.size:=(I.mod.glob.keeps I.bk).lt;exact Nat.lt_trans (by decide) h
theorem b5o(hu:A.units+1<cLine)(I:j4 X pins σ H s)(g:a2d H a y (ξ v))(ry:m8 y u)(h:∀w' s',j4 X pins σ H s'->m8 v w'->Q w' s'):
 AG (model X.prog X.w) A (getItem (.ref a) u) Q E s:=by
 rcases g with⟨kvs,k,e,ey,l⟩|⟨kvs,k,b,e,ey,eb,l⟩
 ·subst ey
  obtain⟨z,hd,vs,rel,dd⟩:=a9E I.hok e
  obtain⟨w',hw,rw'⟩:=a3S.some_of (v:=v) (o:=valueAt vs k) (by rw [l];exact rel.val k)
  exact wpAny_getItem_of (a9N ry) dd.mapOf hw (h w' _ (I.tok _) rw')
 ·subst ey
  cases(show u=Value.ref b from ry)
  obtain⟨z,hd,xs,rel,dd⟩:=a9G I.hok e
  obtain⟨w',hw,rw'⟩:=a3S.some_of (v:=v) (o:=(atKey xs k).map (·.2)) (by rw [l];exact rel.val k)
  obtain⟨p,hp,hp2⟩:=Option.map_eq_some_iff.mp hw
  refine wpAny_getItem_heap (tupleKind_room_in1 hu) (a5G I.hok eb) dd hp ?_
  rw [hp2]
  exact h w' _ (I.tok _) rw'
theorem b9S(hu:A.units+1<cLine)(I:j4 X pins σ H s)(g:a2d H a y o)(ry:m8 y u)(h:∀s',j4 X pins σ H s'->Q (.bool (!o.isSome)) s'):
 AG (model X.prog X.w) A (compareOp .NotIn u (.ref a)) Q E s:=by
 rcases g with⟨kvs,k,e,ey,l⟩|⟨kvs,k,b,e,ey,eb,l⟩
 ·subst ey
  obtain⟨z,hd,vs,rel,dd⟩:=a9E I.hok e
  refine wpAny_notIn_of (a9N ry) hd dd.mapOf ?_
  rw [<-(rel.val k).isSome_eq,<-l]
  exact h _ (I.tok _)
 ·subst ey
  cases(show u=Value.ref b from ry)
  obtain⟨z,hd,xs,rel,dd⟩:=a9G I.hok e
  refine wpAny_notIn_heap (tupleKind_room_in1 hu) (a5G I.hok eb) hd dd ?_
  have q:=(rel.val k).isSome_eq
  rw [Option.isSome_map] at q
  rw [<-q,<-l]
  exact h _ (I.tok _)
theorem b0z(I:j4 X pins σ H s)(mu:Mut (H a))(hs:Heap.SameBut a s.heap h')(he:∃q,h'.get? a=ξ q)(new:z8 X.prog X.w (n5 H a ob) h' a ob):
 j4 X pins σ (n5 H a ob) {s with heap:=h',toks:=t'}:=
 I.write (x:=a) (e:=a) mu (.inl rfl) (λb q hb z=>(hs.2 b hb).trans z) he new
theorem c1W(z:kvs.length<=AQ)(hd:(a==sysModules)=false)(rel:KV kvs vs)(dd:h'.DictOf (m5 P w) a vs):
 z8 P w H' h' a (.dK kvs):=⟨z,hd,vs,rel,dd⟩
theorem b5p(hu:A.units+1<cLine)(I:j4 X pins σ H s)(g:b0l H a y v H')(ry:m8 y u)(rv:m8 v r)(h:∀s',j4 X pins σ H' s'->Q () s'):
 AG (model X.prog X.w) A (setItem (.ref a) u r) Q E s:=by
 rcases g with⟨kvs,k,e,ey,l,eH⟩|⟨kvs,k,b,e,ey,eb,l,eH⟩
 ·subst ey eH
  obtain⟨z,hd,vs,rel,dd⟩:=b4b I.hok e
  have hz:vs.length<=AQ:=by rw [<-rel.length];exact z
  have hl:(a1O kvs k v).length<=AQ:=by have:=a2Q kvs k v;lia
  refine wpAny_setItem_pairs (hsz:=hz) (a9N ry) dd λh' dd' hs=>h _ ?_
  have he:∃q,h'.get? a=ξ q:=let ⟨q,_,_,hq,_⟩:=dd';⟨q,hq⟩
  exact b0z I (by rw [e];exact True.intro) hs he (c1W hl hd (rel.put k rv) dd')
 ·subst ey eH
  cases(show u=Value.ref b from ry)
  obtain⟨z,hd,xs,rel,dd⟩:=c1n I.hok e
  have hz:xs.length<=AQ:=by rw [<-Paired.length rel];exact z
  have hl:(a1O kvs k v).length<=AQ:=by have:=a2Q kvs k v;lia
  refine wpAny_setItem_heap (hsz:=hz) (tupleKind_room_in1 hu) (a5G I.hok eb) dd λh' dd' hs=>h _ ?_
  obtain⟨q,es,ep,hq,h2,h3,h4,_,h5⟩:=dd'
  refine b0z I (by rw [e];exact True.intro) hs ⟨q,hq⟩ ⟨hl,hd,_,(rel.put k eb rv).keeps λc ys ec=> ?_,q,es,ep,hq,h2,h3,h4,h5⟩
  rw [f9 (Q7 ec e (λz=>nomatch z))]
  exact ec
end
def b5d(i:AO):Prop:=∀ov iv,subscripted i false ov iv=operate [ov,iv] (getItem ov iv)
theorem b41{prog:AS}{w:AL}{A:AU}{E:AA->AE->Prop}{s:AE}{env:Env}{value slice:AO}{pos:Pos}{T id:String}{Q:AA->AE->Prop}
 (hl:typeLookup (.type T) "__getitem__"=pure (ξ (.builtin id))) (hs:b5d slice)
 (h:AG (model prog w) A (eval value env) (λo s₁=>AG (model prog w) A (eval slice env) (λi s₂=>s₂.TypeIs o T/\AG (model prog w) A (getItem o i) Q E s₂) E s₁) E s):
 AG (model prog w) A (eval (.Subscript value slice pos) env) Q E s:=by
 refine Subscript_ (wpAny_mono h (λo s₁ h₁=>wpAny_mono h₁ (λi s₂ h₂=> ?_) λ_ _ x=>x) λ_ _ x=>x)
 obtain⟨hT,h₂⟩:=h₂
 unfold subscriptTail
 refine AC ?_
 rw [getitemInPython_of_ne hT.not_modules]
 refine AC (wpAny_specialOf hT hl ?_)
 have fin:AG (model prog w) A (subscripted slice false o i) (λr s₃=>AG (model prog w) A (letTemporaryGo value o r>>=λ_=>pure r) Q E s₃) E s₂:=by
  rw [hs o i];exact wpAny_operating (wpAny_mono h₂ (λr s₃ h₃=>AC (wpAny_letTemporaryGo (AH h₃))) λ_ _ x=>x)
 first
  |exact AH (AC fin)
  |exact AC (AH (AC fin))
  |exact AC fin
theorem b1T(I:j4 X pins σ H s)(g:a2d H a y o):s.TypeIs (.ref a) "dict":=by
 rcases g with⟨kvs,k,e,_,_⟩|⟨kvs,k,b,e,_,_,_⟩
 ·obtain⟨_,_,vs,_,dd⟩:=a9E I.hok e;exact dd.typeIs
 ·obtain⟨_,_,xs,_,dd⟩:=a9G I.hok e;exact dd.typeIs
def c4p(td ty:TE):TE:=λσ H Q=>td σ H λx H1=>ty σ H1 λy H2=>∃a v,x= .ref a/\a2d H2 a y (ξ v)/\Q v H2
def c0Y(ty td:TE):TE:=λσ H Q=>ty σ H λy H1=>td σ H1 λx H2=>∃a o,x= .ref a/\a2d H2 a y o/\Q (.bl (!o.isSome)) H2
def c4j(td ty tv:TE):TS:=λD σ H=>tv σ H λv H1=>td σ H1 λx H2=>ty σ H2 λy H3=>∃a H4,x= .ref a/\b0l H3 a y v H4/\D.nx σ H4
section
theorem a44(hu:X.A.units+1<cLine)(ho:PE X o td)(hi:PE X i ty)(hs:b5d i):PE X (.Subscript o i pos) (c4p td ty):=by
 ext i
 refine b41 PySem.F.slot_dict_getitem.lookup hs (E2 (ho pins s σ H _ I h) λu s1 h0=>o0 h0 λx H1 I1 rx q1=>E2 (hi pins s1 σ H1 _ I1 q1) λiv s2 ⟨y,H2,I2,ry,a,v,ex,g,q2⟩=> ?_);subst ex;obtain rfl:u=Value.ref a:=rx;exact⟨b1T I2 g,b5o hu I2 g ry λw' s3 I3 rw'=>⟨v,H2,I3,rw',q2⟩⟩
theorem b6g(hu:X.A.units+1<cLine)(hi:PE X i ty)(ho:PE X o td):PC X .NotIn i o (c0Y ty td):=by
 ext i
 refine E2 (hi pins s σ H _ I h) λiv s1 h0=>o0 h0 λy H1 I1 ry q1=>E2 (ho pins s1 σ H1 _ I1 q1) λu s2 ⟨x,H2,I2,rx,a,ov,ex,g,q2⟩=> ?_;subst ex;obtain rfl:u=Value.ref a:=rx;exact b9S hu I2 g ry λs3 I3=>⟨.bl (!ov.isSome),H2,I3,rfl,q2⟩
theorem b1f(hu:X.A.units+1<cLine)(ho:PE X o td)(hi:PE X i ty)(hv:PE X value tv)(hs:swapsWith value (ξ (.Subscript o i pos')) pos.line X.env=pure false):
 PS X (.Assign [.Subscript o i pos'] value pos) (c4j td ty tv):=by
 intro pins s σ H D I h
 refine wpAny_Assign_Subscript (E2 (hv pins s σ H _ I h) λr s1 h0=>o0 h0 λv H1 I1 rv q1=>E2 (ho pins s1 σ H1 _ I1 q1) λu s2 h0=>o0 h0 λx H2 I2 rx q2=>E2 (hi pins s2 σ H2 _ I2 q2) λiv s3 ⟨y,H3,I3,ry,a,H4,ex,g,q3⟩=> ?_) hs
 subst ex
 obtain rfl:u=Value.ref a:=rx
 exact b5p hu I3 g ry rv λs4 I4=>⟨σ,H4,I4,q3⟩
end
theorem b7b(h:Heap)(hb:sysModules<h.objs.size):z8 P w H (h.push {cls:= .type "dict",data:= .dict #[]}) h.objs.size (.dK []):=
 ⟨Nat.zero_le _,beq_eq_false_iff_ne.mpr (Ne.symm (Aj hb)),[],.nil,Heap.DictOf.new h⟩
theorem b1V(h:Heap)(hb:sysModules<h.objs.size):z8 P w H (h.push {cls:= .type "dict",data:= .dict #[]}) h.objs.size (.dT []):=
 ⟨Nat.zero_le _,beq_eq_false_iff_ne.mpr (Ne.symm (Aj hb)),[],.nil,_, #[],0,Ao _ rfl,⟨rfl,rfl,rfl⟩,rfl,rfl,List.nodup_nil⟩
def c3j:TE:=λ_ H Q=>∀p,H p=ζ->Q (.ref p) (n5 H p (.dK []))
def c3k:TE:=λ_ H Q=>∀p,H p=ζ->Q (.ref p) (n5 H p (.dT []))
section
theorem b8K:PE X (.Dict [] [] pos) c3j:=λpins s σ H Q I h=>
 wpAny_Dict_empty ⟨.ref s.heap.objs.size,_,I.laid (a:=s.heap.objs.size) (o:= .dK []) (t':=s.toks) (λ_ _ q=>AY _ q) (AM _) (b7b s.heap I.big),rfl,h _ (I.hok.fresh (AM _))⟩
theorem b8L:PE X (.Dict [] [] pos) c3k:=λpins s σ H Q I h=>
 wpAny_Dict_empty ⟨.ref s.heap.objs.size,_,I.laid (a:=s.heap.objs.size) (o:= .dT []) (t':=s.toks) (λ_ _ q=>AY _ q) (AM _) (b1V s.heap I.big),rfl,h _ (I.hok.fresh (AM _))⟩
end
def b9g:List (TE×TE)->St->Hp->(List (V×V)->Hp->Prop)->Prop
 |[],_,H,Q=>Q [] H
 |(tk,tv)::r,σ,H,Q=>tk σ H λx H1=>tv σ H1 λy H2=>b9g r σ H2 λps H3=>Q ((x,y)::ps) H3
abbrev VV:List (V×V)->List (AA×AA)->Prop:=Paired λp q=>m8 p.1 q.1/\m8 p.2 q.2
def PPs(X:Cx)(pos:Pos)(keys:List (Υ AO))(values:List AO)(trs:List (TE×TE)):Prop:=
 ∀pins s σ (H:Hp) (Q:List (V×V)->Hp->Prop),j4 X pins σ H s->b9g trs σ H Q->
  AG (model X.prog X.w) X.A (evalPairs (pairTrees keys values X.env pos)) (λvs s'=>∃ps H',j4 X pins σ H' s'/\VV ps vs/\Q ps H') X.xe s
theorem c0I:PPs X pos [] [] []:=λpins s σ H Q I h=>pairTrees_nil_walk ⟨[],H,I,.nil,h⟩
theorem b8P(hk:PE X k tk)(hv:PE X v tv)(hr:PPs X pos ks vs trs):
 PPs X pos (ξ k::ks) (v::vs) ((tk,tv)::trs):=λpins s σ H Q I h=>
 pairTrees_cons_walk (E2 (hk pins s σ H _ I h) λu s1 h0=>o0 h0 λx H1 I1 rx q1=>E2 (hv pins s1 σ H1 _ I1 q1) λw2 s2 h0=>o0 h0 λy H2 I2 ry q2=>
  E2 (hr pins s2 σ H2 _ I2 q2) λws s3 h0=>o0 h0 λps H3 I3 rel q3=>⟨(x,y)::ps,H3,I3,.cons ⟨rx,ry⟩ rel,q3⟩)
structure M2(X:Cx)(o:AO)(m:Str)(apos:Pos)(e f:AO)(cpos:Pos):Prop where
 base:attributeBase o m X.env (eval o X.env)=eval o X.env
 few:((backTo cpos (AJ [e,f] X.env)).all (λx=> !x.1)&&(backToKw cpos (keywordEach [] X.env)).all (λx=>x.1.isSome)
  && decide (([e,f]:List AO).length+([]:List Keyword).length+(if([]:List Keyword).isEmpty then 0 else 1)<30))=true
 line:(apos.endLine==cpos.line)=true
 trees:backTo cpos (AJ [e,f] X.env)=[(false,eval e X.env),(false,eval f X.env)]
def IsD(H:Hp)(a:AB):Prop:=(∃kvs,Rd H a (.dK kvs))\/∃kvs,Rd H a (.dT kvs)
theorem c2i(I:j4 X pins σ H s)(d:IsD H a):
 s.TypeIs (.ref a) "dict"/\(∀b,Value.ref a= .ref b->∃ob,s.heap.get? b=ξ ob/\ob.dict=ζ)/\(a==sysModules)=false:=by
 rcases d with⟨kvs,e⟩|⟨kvs,e⟩
 ·obtain⟨_,hd,vs,_,dd⟩:=a9E I.hok e
  refine⟨dd.typeIs,λb q=> ?_,hd⟩
  cases q
  obtain⟨ob,_,_,h1,h2,_⟩:=dd
  exact⟨ob,h1,h2.2.1⟩
 ·obtain⟨_,hd,xs,_,dd⟩:=a9G I.hok e
  refine⟨dd.typeIs,λb q=> ?_,hd⟩
  cases q
  obtain⟨ob,_,_,h1,h2,_⟩:=dd
  exact⟨ob,h1,h2.2.1⟩
section
theorem c1U(hu:A.units+1<cLine)(I:j4 X pins σ H s)(g:a2d H a y o)(ry:m8 y u)(rd:m8 d r)(h:∀w' s',j4 X pins σ H s'->m8 (o.getD d) w'->Q w' s'):
 AG (model X.prog X.w) A (call (.builtin "dict.get") [.ref a,u,r]) Q E s:=by
 rcases g with⟨kvs,k,e,ey,l⟩|⟨kvs,k,b,e,ey,eb,l⟩
 ·subst ey
  obtain⟨z,hd,vs,rel,dd⟩:=a9E I.hok e
  refine call_meetsIn PySem.F.slot_dict_get dd.typeIs PySem.F.entry_dict_get (PySem.F.args_dict_get_3 _ _ _) (meets_dict_get_default (m5 X.prog X.w) a (a9N ry) hd r) ⟨_,dd.mapOf,h _ _ (I.tok _) ?_⟩
  rw [l]
  exact(rel.val k).getD rd
 ·subst ey
  cases(show u=Value.ref b from ry)
  obtain⟨z,hd,xs,rel,dd⟩:=a9G I.hok e
  refine call_meetsIn PySem.F.slot_dict_get dd.typeIs PySem.F.entry_dict_get (PySem.F.args_dict_get_3 _ _ _) (meetsH_dict_get_default (tupleKind (m5 X.prog X.w)) a b hd r) ⟨tupleKind_room_in1 hu,k,xs,a5G I.hok eb,dd,h _ _ (I.tok _) ?_⟩
  rw [l]
  exact(rel.val k).getD rd
end
def c3i(td ty tx:TE):TE:=λσ H Q=>td σ H λx H1=>∃a,x= .ref a/\IsD H1 a/\ty σ H1 λy H2=>tx σ H2 λz H3=>∃o,a2d H3 a y o/\Q (o.getD z) H3
section
theorem b8J(hu:X.A.units+1<cLine)(ho:PE X o td)(he:PE X e ty)(hf:PE X f tx)(m:M2 X o "get" apos e f cpos):PE X (.Call (.Attribute o "get" apos) [e,f] [] cpos) (c3i td ty tx):=by
 ext i
 refine wpAny_Call_method m.base m.few m.line PySem.F.plainAttrs_dict PySem.F.slot_dict_get PySem.F.type_dict_get (E2 (ho pins s σ H _ I h) λu s1 ⟨x,H1,I1,rx,a,ex,d,q1⟩=> ?_);subst ex;obtain rfl:u=Value.ref a:=rx;obtain⟨t1,t2,_⟩:=c2i I1 d;refine⟨t1,t2, ?_⟩;rw [m.trees];refine Calls.callWith_builtin rfl (Calls.evalArgs_plain (Calls.spliced_cons (E2 (he pins s1 σ H1 _ I1 q1) λiv s2 h0=>o0 h0 λy H2 I2 ry q2=>
  Calls.spliced_cons (E2 (hf pins s2 σ H2 _ I2 q2) λfv s3 ⟨z,H3,I3,rz,ov,g,q3⟩=>Calls.spliced_nil ?_))))
 exact c1U hu I3 g ry rz λw' s4 I4 rw'=>⟨_,H3,I4,rw',q3⟩
end
end L2
namespace Att
open PySem PySem.W PySem.Calls PyProof.Rows
section
end
end Att
namespace L2
section
end
section
variable {κ:Type}[DecidableEq κ]
end
end L2
set_option maxHeartbeats 4000000
namespace PU
open L2
abbrev PV:=PyData
def TqT(K:AD)(H:Hp)(a:AB)(xs:List V):Prop:=
 H a=ξ (.tup xs)\/∃(o:Obj) (its:Array AA) (n:Nat),K.lookup a=ξ o/\o.cls= .type "tuple"/\o.data= .seq its n/\its.size<=AQ/\t0 xs its.toList
theorem TqT.of{K:AD}{H:Hp}{a:AB}{xs:List V}(h:H a=ξ (.tup xs)):TqT K H a xs:= .inl h
theorem TqT.sq{K:AD}{H:Hp}{a:AB}{xs:List V}(h:TqT K H a xs):SqT K H a xs:=h.elim (λh=> .inl (.inl h)) .inr
theorem b4V{K:AD}{H H':Hp}{a:AB}{xs:List V}(s:m3 H H')(h:TqT K H a xs):TqT K H' a xs:=h.elim (λh=> .inl (s _ _ h)) .inr
def b30(K:AD)(x:Str)(v:V):Prop:=∃(a:AB) (oc:AA) (od:Υ AB) (fd:FuncData) (osl:Array (Υ AA)),v= .ref a/\K.lookup a=ξ ⟨oc,od,.func fd,osl⟩/\fd.name=x
def Y4(K:AD)(x:Str)(C:AB):Prop:=PySem.W.nsIn K mainGlobals x=ξ (ξ (.ref C))/\∃(oc:AA) (od:Υ AB) (cd:ClassData) (osl:Array (Υ AA)),K.lookup C=ξ ⟨oc,od,.cls cd,osl⟩/\cd.name=x
theorem Y4.uniq{K:AD}{x:Str}{C D:AB}(h:Y4 K x C)(h':Y4 K x D):C=D:=by
 have:=h.1.symm.trans h'.1;cases this;rfl
def c1J(K:AD)(H:Hp)(x:Str)(v:V):Prop:=∃(a C:AB) (φ:Heap->Prop),v= .ref a/\H a=ξ (.ext φ)/\
 (∀h:Heap,φ h->∃oe vs,h.get? a=ξ oe/\oe.cls= .ref C/\oe.data= .fields vs/\oe.dict=ζ)/\Y4 K x C
def b5c(K:AD)(H:Hp)(x:Str)(t:PV)(v:V):Prop:=(t= .none/\b30 K x v)\/(t= .bool true/\c1J K H x v)
theorem b5c.ref{K:AD}{H:Hp}{x:Str}{t:PV}{v:V}(h:b5c K H x t v):∃a,v= .ref a:=by
 rcases h with⟨_,a,_,_,_,_,e,_⟩|⟨_,a,_,_,e,_⟩<;>exact⟨a,e⟩
theorem b5c.mono{K:AD}{H H':Hp}{x:Str}{t:PV}{v:V}(s:m3 H H')(h:b5c K H x t v):b5c K H' x t v:=by
 rcases h with h|⟨z,a,C,φ,e,q,r⟩
 ·exact .inl h
 ·exact .inr ⟨z,a,C,φ,e,s _ _ q,r⟩
def b1z(K:AD)(H:Hp)(x:Str)(m:V)(fs:List (Str×V))(v:V):Prop:=
 (m= .bl false/\∃a C dx,v= .ref a/\H a=ξ (.ins C dx fs)/\Y4 K x C)\/
 (m= .int 0/\∃(a C dx:AB) (φ:Heap->Prop),v= .ref a/\H a=ξ (.ext φ)/\(∀h:Heap,φ h->∃oe vs,h.get? a=ξ oe/\oe.cls= .ref C/\oe.data= .fields vs/\oe.dict=ξ dx)/\H dx=ξ (.xd fs)/\Y4 K x C)
theorem b1z.ref{K:AD}{H:Hp}{x:Str}{m:V}{fs:List (Str×V)}{v:V}(h:b1z K H x m fs v):∃a,v= .ref a:=by
 rcases h with⟨_,a,_,_,e,_⟩|⟨_,a,_,_,_,e,_⟩<;>exact⟨a,e⟩
theorem b1z.mono{K:AD}{H H':Hp}{x:Str}{m:V}{fs:List (Str×V)}{v:V}(s:m3 H H')(h:b1z K H x m fs v):b1z K H' x m fs v:=by
 rcases h with⟨z,a,C,dx,e,q,n⟩|⟨z,a,C,dx,φ,e,q,r,d,n⟩
 ·exact .inl ⟨z,a,C,dx,e,s _ _ q,n⟩
 ·exact .inr ⟨z,a,C,dx,φ,e,s _ _ q,r,s _ _ d,n⟩
noncomputable def kP:k4->PV
 | .inl i=> .int i
 | .inr x=> .str x
def s1(kv:k4×α):List k4×α:=([kv.1],kv.2)
mutual
def A3(K:AD)(H:Hp):PV->V->Prop
 | .none,v=>v= .non
 | .bool b,v=>v= .bl b
 | .int i,v=>v= .int i
 | .str x,v=>v= .str x
 | .tuple ps,v=>∃a xs,v= .ref a/\TqT K H a xs/\m7 K H ps xs
 | .list ps,v=>∃a xs,v= .ref a/\SqL K H a xs/\m7 K H ps xs
 | .dict kvs,v=>(∃a ys,v= .ref a/\H a=ξ (.dK ys)/\a2i K H kvs (ys.map s1))\/(∃a xs,v= .ref a/\H a=ξ (.dT xs)/\a2i K H kvs (([],.non)::xs))\/(∃x t,kvs=[(.str x,t)]/\b5c K H x t v)\/(∃x m fs,b1z K H x m fs v/\a3T K H kvs ((x,m)::fs))
def m7(K:AD)(H:Hp):List PV->List V->Prop
 |[],vs=>vs=[]
 |p::ps,vs=>∃v r,vs=v::r/\A3 K H p v/\m7 K H ps r
def a2i(K:AD)(H:Hp):List (PV×PV)->List (List k4×V)->Prop
 |[],ys=>ys=[]
 |(k,p)::r,ys=>∃kk v t,ys=(kk,v)::t/\k= .tuple (kk.map kP)/\A3 K H p v/\a2i K H r t
def a3T(K:AD)(H:Hp):List (PV×PV)->List (Str×V)->Prop
 |[],ys=>ys=[]
 |(k,p)::r,ys=>∃f v t,ys=(f,v)::t/\k= .str f/\A3 K H p v/\a3T K H r t
end
theorem C0{K:AD}{H H':Hp}{a:AB}{xs:List V}(s:m3 H H')(h:SqT K H a xs):SqT K H' a xs:=by
 rcases h with(h|⟨o,h⟩)|h
 ·exact .inl (.inl (s _ _ h))
 ·exact .inl (.inr ⟨o,s _ _ h⟩)
 ·exact .inr h
theorem B9{K:AD}{H H':Hp}{a:AB}{xs:List V}(s:m3 H H')(h:SqL K H a xs):SqL K H' a xs:=by
 rcases h with(h|⟨o,h⟩)|h
 ·exact .inl (.inl (s _ _ h))
 ·exact .inl (.inr ⟨o,s _ _ h⟩)
 ·exact .inr h
mutual
theorem A3.mono{K:AD}{H H':Hp}(s:m3 H H'):∀(p:PV) {v:V},A3 K H p v->A3 K H' p v
 | .none,_,h=>h
 | .bool _,_,h=>h
 | .int _,_,h=>h
 | .str _,_,h=>h
 | .dict kvs,_,.inl ⟨a,ys,q,h,r⟩=> .inl ⟨a,ys,q,s _ _ h,a2i.mono s kvs r⟩
 | .dict kvs,_,.inr (.inl ⟨a,xs,q,h,r⟩)=> .inr (.inl ⟨a,xs,q,s _ _ h,a2i.mono s kvs r⟩)
 | .dict _,_,.inr (.inr (.inl ⟨x,t,e,h⟩))=> .inr (.inr (.inl ⟨x,t,e,h.mono s⟩))
 | .dict kvs,_,.inr (.inr (.inr ⟨x,m,fs,h,r⟩))=> .inr (.inr (.inr ⟨x,m,fs,h.mono s,a3T.mono s kvs r⟩))
 | .tuple ps,_,⟨a,xs,e,q,r⟩=>⟨a,xs,e,b4V s q,m7.mono s ps r⟩
 | .list ps,_,⟨a,xs,e,q,r⟩=>⟨a,xs,e,B9 s q,m7.mono s ps r⟩
theorem m7.mono{K:AD}{H H':Hp}(s:m3 H H'):∀(ps:List PV) {vs:List V},m7 K H ps vs->m7 K H' ps vs
 |[],_,h=>h
 |p::ps,_,⟨v,r,e,q,t⟩=>⟨v,r,e,A3.mono s p q,m7.mono s ps t⟩
theorem a2i.mono{K:AD}{H H':Hp}(s:m3 H H'):∀(es:List (PV×PV)) {ys:List (List k4×V)},a2i K H es ys->a2i K H' es ys
 |[],_,h=>h
 |(k,p)::es,_,⟨kk,v,r,e,z,q,t⟩=>⟨kk,v,r,e,z,A3.mono s p q,a2i.mono s es t⟩
theorem a3T.mono{K:AD}{H H':Hp}(s:m3 H H'):∀(es:List (PV×PV)) {ys:List (Str×V)},a3T K H es ys->a3T K H' es ys
 |[],_,h=>h
 |(k,p)::es,_,⟨kk,v,r,e,z,q,t⟩=>⟨kk,v,r,e,z,A3.mono s p q,a3T.mono s es t⟩
end
theorem m7.length{K:AD}{H:Hp}:∀{ps:List PV} {vs:List V},m7 K H ps vs->vs.length=ps.length
 |[],_,h=>by cases h;rfl
 |_::ps,_,⟨v,r,e,_,t⟩=>by subst e;rw [AT,AT,m7.length t]
theorem m7.get{K:AD}{H:Hp}:∀{ps:List PV} {vs:List V} {i:Nat} {p:PV},m7 K H ps vs->ps[i]?=ξ p->∃v,vs[i]?=ξ v/\A3 K H p v
 |[],_,_,_,_,h=>by simp at h
 |q::ps,_,0,p,⟨v,r,e,a,t⟩,h=>by subst e;simp at h;subst h;exact⟨v,rfl,a⟩
 |q::ps,_,i+1,p,⟨v,r,e,a,t⟩,h=>by subst e;exact m7.get (i:=i) t (by simpa using h)
theorem m7.getV{K:AD}{H:Hp}:∀{ps:List PV} {vs:List V} {i:Nat} {v:V},m7 K H ps vs->vs[i]?=ξ v->∃p,ps[i]?=ξ p/\A3 K H p v
 |[],_,_,_,h,e=>by cases h;simp at e
 |q::ps,_,0,v,⟨w,r,e,a,t⟩,h=>by subst e;simp at h;subst h;exact⟨q,rfl,a⟩
 |q::ps,_,i+1,v,⟨w,r,e,a,t⟩,h=>by subst e;exact m7.getV (i:=i) t (by simpa using h)
theorem m7.append{K:AD}{H:Hp}:∀{ps qs:List PV} {vs ws:List V},m7 K H ps vs->m7 K H qs ws->m7 K H (ps++qs) (vs++ws)
 |[],_,_,_,h,t=>by cases h;exact t
 |_::ps,_,_,_,⟨v,r,e,a,t⟩,s=>by subst e;exact⟨v,_,rfl,a,m7.append t s⟩
theorem m7.drop{K:AD}{H:Hp}:∀{ps:List PV} {vs:List V} (n:Nat),m7 K H ps vs->m7 K H (ps.drop n) (vs.drop n)
 |_,_,0,h=>h
 |[],_,n+1,h=>by cases h;rfl
 |_::ps,_,n+1,⟨v,r,e,a,t⟩=>by subst e;exact m7.drop n t
theorem m7.take{K:AD}{H:Hp}:∀{ps:List PV} {vs:List V} (n:Nat),m7 K H ps vs->m7 K H (ps.take n) (vs.take n)
 |_,_,0,h=>rfl
 |[],_,n+1,h=>by cases h;rfl
 |_::ps,_,n+1,⟨v,r,e,a,t⟩=>by subst e;exact⟨v,_,rfl,a,m7.take n t⟩
abbrev Γ:=List (List k4×PV)
def v9(K:AD)(H:Hp):Γ->List (List k4×V)->Prop
 |[],ys=>ys=[]
 |(k,p)::r,ys=>∃v t,ys=(k,v)::t/\A3 K H p v/\v9 K H r t
theorem v9.mono{K:AD}{H H':Hp}(s:m3 H H'):∀(kvs:Γ) {ys:List (List k4×V)},v9 K H kvs ys->v9 K H' kvs ys
 |[],_,h=>h
 |(k,p)::r,_,⟨v,t,e,q,h⟩=>⟨v,t,e,A3.mono s p q,v9.mono s r h⟩
inductive a0T where
 |lst (ps:List PV)|dct (kvs:Γ)|txt (kvs:Γ)
inductive g5 where
 |v (p:PV)|ow (c:a0T)|bo (c:a0T)
abbrev g5.own(ps:List PV):g5:= .ow (.lst ps)
abbrev g5.bor(ps:List PV):g5:= .bo (.lst ps)
abbrev g5.dct(kvs:Γ):g5:= .ow (.dct kvs)
def a2h(K:AD)(F H:Hp)(v:V):a0T->Prop
 | .lst ps=>∃a xs,v= .ref a/\F a=ζ/\H a=ξ (.lst xs)/\m7 K F ps xs
 | .dct kvs=>∃a xs,v= .ref a/\F a=ζ/\H a=ξ (.dT xs)/\v9 K F kvs xs
 | .txt kvs=>∃a xs,v= .ref a/\F a=ζ/\H a=ξ (.dK xs)/\v9 K F kvs (xs.map s1)
def M5(K:AD)(F H:Hp)(v:V):g5->Prop
 | .v p=>A3 K F p v
 | .ow c=>a2h K F H v c
 | .bo c=>a2h K F H v c
theorem a2h.at_{K:AD}{F H:Hp}{v:V}:∀{c:a0T},a2h K F H v c->∃a o,v= .ref a/\F a=ζ/\H a=ξ o
 | .lst _,⟨a,_,e,n,q,_⟩=>⟨a,_,e,n,q⟩
 | .dct _,⟨a,_,e,n,q,_⟩=>⟨a,_,e,n,q⟩
 | .txt _,⟨a,_,e,n,q,_⟩=>⟨a,_,e,n,q⟩
def NT(o:HO):Prop:=∀xs,o≠.tup xs
structure R5(F H F' H':Hp):Prop where
 f:m3 F F'
 h:m3 H H'
 fh:m3 F' H'
 nw:∀b o,F b=ζ->H b=ξ o->NT o->F' b=ζ
 nf:∀b o u,F' b=ξ (.frz o u)->F b=ξ (.frz o u)
theorem m3.refl(H:Hp):m3 H H:=λ_ _ e=>e
theorem R5.refl(s:m3 F H):R5 F H F H:=⟨m3.refl F,m3.refl H,s,λ_ _ e _ _=>e,λ_ _ _ e=>e⟩
theorem R5.trans{F H F1 H1 F2 H2:Hp}(a:R5 F H F1 H1)(b:R5 F1 H1 F2 H2):R5 F H F2 H2:=
 ⟨a.f.trans b.f,a.h.trans b.h,b.fh,λc o e q t=>b.nw c o (a.nw c o e q t) (a.h c o q) t,λc o u e=>a.nf c o u (b.nf c o u e)⟩
theorem b8v{F0 F:Hp}{a:AB}{xs:List V}(h:∀b o u,F b=ξ (.frz o u)->F0 b=ξ (.frz o u)):∀b o u,n5 F a (.lst xs) b=ξ (.frz o u)->F0 b=ξ (.frz o u):=λb o u z=>by
 by_cases hb:b=a
 ·subst hb;rw [g8] at z;cases z
 ·rw [f9 hb] at z;exact h _ _ _ z
theorem a2h.ext{K:AD}{F H F' H':Hp}{v:V}(x:R5 F H F' H'):∀{c:a0T},a2h K F H v c->a2h K F' H' v c
 | .lst _,⟨a,xs,e,n,q,r⟩=>⟨a,xs,e,x.nw _ _ n q (λ_ h=>nomatch h),x.h _ _ q,m7.mono x.f _ r⟩
 | .dct _,⟨a,xs,e,n,q,r⟩=>⟨a,xs,e,x.nw _ _ n q (λ_ h=>nomatch h),x.h _ _ q,v9.mono x.f _ r⟩
 | .txt _,⟨a,xs,e,n,q,r⟩=>⟨a,xs,e,x.nw _ _ n q (λ_ h=>nomatch h),x.h _ _ q,v9.mono x.f _ r⟩
theorem M5.ext{K:AD}{F H F' H':Hp}{v:V}(x:R5 F H F' H'):∀{r:g5},M5 K F H v r->M5 K F' H' v r
 | .v p,h=>A3.mono x.f p h
 | .ow _,h=>a2h.ext x h
 | .bo _,h=>a2h.ext x h
def a0T.rd:a0T->PV
 | .lst ps=> .list ps
 | .dct kvs=> .dict ((.tuple [],.none)::kvs.map λkv=>(.tuple (kv.1.map kP),kv.2))
 | .txt kvs=> .dict (kvs.map λkv=>(.tuple (kv.1.map kP),kv.2))
def g5.rd:g5->PV
 | .v p=>p
 | .ow c=>c.rd
 | .bo c=>c.rd
def g5.toVal:g5->Υ PV
 | .v p=>ξ p
 | .ow (.lst ps)=>ξ (.list ps)
 | .ow (.dct _)=>ζ
 | .ow (.txt _)=>ζ
 | .bo _=>ζ
theorem a2i.of{K:AD}{F H:Hp}(s:m3 F H):∀{kvs:Γ} {xs:List (List k4×V)},v9 K F kvs xs->a2i K H (kvs.map λkv=>(PyData.tuple (kv.1.map kP),kv.2)) xs
 |[],_,h=>h
 |(k,p)::r,_,⟨v,t,e,q,h⟩=>⟨k,v,t,e,rfl,A3.mono s p q,a2i.of s h⟩
theorem a2h.rd{K:AD}{F H:Hp}{v:V}(s:m3 F H):∀{c:a0T},a2h K F H v c->A3 K H c.rd v
 | .lst ps,⟨a,xs,e,n,q,r⟩=>⟨a,xs,e,SqL.of q,m7.mono s _ r⟩
 | .dct kvs,⟨a,xs,e,n,q,r⟩=> .inr (.inl ⟨a,xs,e,q,[],.non,xs,rfl,rfl,rfl,a2i.of s r⟩)
 | .txt kvs,⟨a,xs,e,n,q,r⟩=> .inl ⟨a,xs,e,q,a2i.of s r⟩
theorem M5.rd{K:AD}{F H:Hp}{v:V}(s:m3 F H):∀{r:g5},M5 K F H v r->A3 K H r.rd v
 | .v p,h=>A3.mono s p h
 | .ow _,h=>a2h.rd s h
 | .bo _,h=>a2h.rd s h
structure w8(K:AD)(F H F' H':Hp)(v:V)(r:g5):Prop where
 x:R5 F H F' H'
 rep:M5 K F' H' v r
 fr:∀c a,r= .ow c->v= .ref a->H a=ζ
theorem w8.val{K:AD}{F H F' H':Hp}{v:V}{p:PV}(x:R5 F H F' H')(r:A3 K F' p v):w8 K F H F' H' v (.v p):=⟨x,r,λ_ _ e=>nomatch e⟩
theorem w8.here{K:AD}{F H:Hp}{v:V}{p:PV}(s:m3 F H)(r:A3 K F p v):w8 K F H F H v (.v p):=w8.val (R5.refl s) r
theorem w8.trans{K:AD}{F H F1 H1 F2 H2:Hp}{v:V}{r:g5}(a:R5 F H F1 H1)(b:w8 K F1 H1 F2 H2 v r):w8 K F H F2 H2 v r:=
 ⟨a.trans b.x,b.rep,λps c e q=>a.h.free (b.fr ps c e q)⟩
theorem w8.toVal{K:AD}{F H F' H':Hp}{v:V}{p:PV}:∀{r:g5},w8 K F H F' H' v r->r.toVal=ξ p->∃F2,w8 K F H F2 H' v (.v p)
 | .v q,o,e=>by cases e;exact⟨F',o⟩
 | .bo _,_,e=>nomatch e
 | .ow (.dct _),_,e=>nomatch e
 | .ow (.txt _),_,e=>nomatch e
 | .ow (.lst ps),o,e=>by
   cases e;obtain⟨a,xs,rfl,n,q,r⟩:=o.rep;have fr:=o.fr _ a rfl rfl;have up:m3 F' (n5 F' a (.lst xs)):=λb u z=>by rw [f9 (j8 z n)];exact z
   refine⟨n5 F' a (.lst xs),w8.val ⟨o.x.f.trans up,o.x.h,λb u z=> ?_,λb u z y t=> ?_,b8v o.x.nf⟩ ⟨a,xs,rfl,SqL.of g8,m7.mono up _ r⟩⟩
   ·by_cases hb:b=a
    ·subst hb;rw [g8] at z;cases z;exact q
    ·rw [f9 hb] at z;exact o.x.fh _ _ z
   ·rw [f9 (j8 y fr)];exact o.x.nw b u z y t
theorem B1(n:H a=ζ):m3 H (n5 H a o):=λb u z=>by rw [f9 (j8 z n)];exact z
theorem R5.lay(s:m3 F H)(n:H a=ζ)(hf:∀x u,o≠.frz x u:=by intro _ _ h;cases h):R5 F H (n5 F a o) (n5 H a o):=
 ⟨B1 (s.free n),B1 n,λb u z=>by
  by_cases hb:b=a
  ·subst hb;rw [g8] at z ⊢;exact z
  ·rw [f9 hb] at z ⊢;exact s _ _ z,λb u z y _=>by rw [f9 (j8 y n)];exact z,λb w u z=>by
  by_cases hb:b=a
  ·subst hb;rw [g8] at z;exact absurd (Option.some.inj z) (hf w u)
  ·rw [f9 hb] at z;exact z⟩
theorem R5.layH(s:m3 F H)(n:H a=ζ):R5 F H F (n5 H a o):=
 ⟨m3.refl F,B1 n,λb u z=>by rw [f9 (j8 (s _ _ z) n)];exact s _ _ z,λb u z y _=>z,λ_ _ _ z=>z⟩
theorem w8.tup{K:AD}{F H:Hp}{a:AB}{xs:List V}{ps:List PV}(s:m3 F H)(n:H a=ζ)(r:m7 K F ps xs):w8 K F H (n5 F a (.tup xs)) (n5 H a (.tup xs)) (.ref a) (.v (.tuple ps)):=
 w8.val (R5.lay s n) ⟨a,xs,rfl,TqT.of g8,m7.mono (B1 (s.free n)) _ r⟩
theorem w8.lst{K:AD}{F H:Hp}{a:AB}{xs:List V}{ps:List PV}(s:m3 F H)(n:H a=ζ)(r:m7 K F ps xs):w8 K F H F (n5 H a (.lst xs)) (.ref a) (.own ps):=
 ⟨R5.layH s n,⟨a,xs,rfl,s.free n,g8,r⟩,λ_ _ _ e=>by cases e;exact n⟩
abbrev d5:=List (Υ g5)
structure O4(K:AD)(F H:Hp)(σ:L2.St)(ρ:d5):Prop where
 fh:m3 F H
 len:σ.length=ρ.length
 at_:∀(i:Nat) (r:g5),ρ[i]?=ξ (ξ r)->∃v,σ[i]?=ξ (ξ v)/\M5 K F H v r
 nb:∀(i:Nat) (c:a0T),ρ[i]?≠ξ (ξ (.bo c))
 ap:∀(i j:Nat) (c d:a0T) (a:AB),i≠j->ρ[i]?=ξ (ξ (.ow c))->ρ[j]?=ξ (ξ (.ow d))->σ[i]?=ξ (ξ (.ref a))->σ[j]?≠ξ (ξ (.ref a))
theorem O4.ext{K:AD}{F H F' H':Hp}{σ:L2.St}{ρ:d5}(e:O4 K F H σ ρ)(x:R5 F H F' H'):O4 K F' H' σ ρ:=
 ⟨x.fh,e.len,λi r q=>let ⟨v,a,b⟩:=e.at_ i r q;⟨v,a,b.ext x⟩,e.nb,e.ap⟩
abbrev M:=d5->Υ g5
def tM(K:AD)(m:M):TE:=λσ H Q=>∃F ρ r,O4 K F H σ ρ/\m ρ=ξ r/\∀v F' H',w8 K F H F' H' v r->Q v H'
abbrev EE(X:Cx)(e:AO)(m:M):Prop:=PE X e (tM X.K m)
theorem u5(h:PE X e t)(i:∀σ H Q,t' σ H Q->t σ H Q):PE X e t':=λpins s σ H Q I q=>h pins s σ H Q I (i σ H Q q)
theorem b1i(h:PT X e t)(i:∀σ H Q,t' σ H Q->t σ H Q):PT X e t':=λpins s σ H Q I q=>h pins s σ H Q I (i σ H Q q)
theorem c28(h:PW X e t)(i:∀σ H Q,t' σ H Q->t σ H Q):PW X e t':=λwh pins s σ H Q I q=>h wh pins s σ H Q I (i σ H Q q)
theorem b8D(h:PA X e t)(i:∀σ H Q,t' σ H Q->t σ H Q):PA X e t':=λpos pins s σ H Q I q=>h pos pins s σ H Q I (i σ H Q q)
theorem B0(h:PS X e t)(i:∀D σ H,t' D σ H->t D σ H):PS X e t':=λpins s σ H D I q=>h pins s σ H D I (i D σ H q)
theorem a66(h:PSs X e t)(i:∀D σ H,t' D σ H->t D σ H):PSs X e t':=λpins s σ H D I q=>h pins s σ H D I (i D σ H q)
def mC(p:PV):M:=λ_=>ξ (.v p)
noncomputable def c7(i:Nat):M:=λρ=>match ρ[i]? with
 |some (ξ (.ow c))=>ξ (.bo c)
 |some (ξ r)=>ξ r
 |_=>ζ
section
theorem a2C(h:PE X e (tC v))(r:∀H,A3 X.K H p v):EE X e (mC p):=
 u5 h λσ H Q h0=>u0 h0 λF ρ q he hm k=>by
  cases hm;exact k v F H (w8.here he.fh (r F))
theorem g0{i j pos}:EE X (.Constant (.int i) j pos) (mC (.int i)):=a2C c2S λ_=>rfl
theorem a0D{b j pos}:EE X (.Constant (.bool b) j pos) (mC (.bool b)):=a2C c4a λ_=>rfl
theorem b27{j pos}:EE X (.Constant .none j pos) (mC .none):=a2C c2U λ_=>rfl
theorem t4{x j pos}:EE X (.Constant (.str x) j pos) (mC (.str x)):=a2C c2X λ_=>rfl
theorem c13(i:Nat)(h:PE X (.Name x pos) (G9 i)):EE X (.Name x pos) (c7 i):=
 u5 h λσ H Q h0=>u0 h0 λF ρ r he hm k=>by
  unfold c7 at hm;split at hm
  ·rename_i ps e;cases hm;obtain⟨v,e1,rr⟩:=he.at_ i _ e;exact⟨v,e1,k v F H ⟨R5.refl he.fh,rr,λ_ _ z=>nomatch z⟩⟩
  ·rename_i r' nn e;cases hm;obtain⟨v,e1,rr⟩:=he.at_ i _ e;exact⟨v,e1,k v F H ⟨R5.refl he.fh,rr,λps _ z=>absurd z (nn ps)⟩⟩
  ·cases hm
def rM2(K:AD)(g:g5->g5->Υ g5):R2:=λx y H Q=>∃F rx ry rz,m3 F H/\M5 K F H x rx/\M5 K F H y ry/\g rx ry=ξ rz/\∀v F' H',w8 K F H F' H' v rz->Q v H'
abbrev OpM(X:Cx)(f:AA->AA->Sem AA)(g:g5->g5->Υ g5):Prop:=OpR X f (rM2 X.K g)
def m2(g:g5->g5->Υ g5)(ma mb:M):M:=λρ=>(ma ρ).bind λx=>(mb ρ).bind λy=>g x y
theorem bind_some{α β:Type}{o:Υ α}{f:α->Υ β}{b:β}(h:o.bind f=ξ b):∃a,o=ξ a/\f a=ξ b:=by
 cases o with
 |none=>cases h
 |some a=>exact⟨a,rfl,h⟩
theorem b1o{K:AD}{g:g5->g5->Υ g5}{σ:L2.St}{H:Hp}{Q:VK}(h:tM K (m2 g ma mb) σ H Q):tOp (rM2 K g) (tM K ma) (tM K mb) σ H Q:=by
 obtain⟨F,ρ,r,he,hm,k⟩:=h;obtain⟨rx,e1,hm⟩:=bind_some hm;obtain⟨ry,e2,hm⟩:=bind_some hm;exact⟨F,ρ,rx,he,e1,λv F1 H1 o1=>⟨F1,ρ,ry,he.ext o1.x,e2,λu F2 H2 o2=>⟨F2,rx,ry,r,o2.x.fh,o1.rep.ext o2.x,o2.rep,hm,λz F3 H3 o3=>k z F3 H3 (w8.trans (o1.x.trans o2.x) o3)⟩⟩⟩
theorem g9(ho:OpM X (binaryOp op) g)(ha:EE X a ma)(hb:EE X b mb):EE X (.BinOp a op b pos) (m2 g ma mb):=
 u5 (c4c ho ha hb) λ_ _ _ h=>b1o h
theorem c10(ho:OpM X (compareOp op) g)(ha:EE X a ma)(hb:EE X b mb)(hm:behindInMarks op b=false):EE X (.Compare a [op] [b] pos) (m2 g ma mb):=
 u5 (c0E ho ha hb hm) λ_ _ _ h=>b1o h
theorem a5R(h:OpR X f r)
 (i:∀F H x y rx ry rz,m3 F H->M5 X.K F H x rx->M5 X.K F H y ry->g rx ry=ξ rz->∀Q:VK,(∀v F' H',w8 X.K F H F' H' v rz->Q v H')->r x y H Q):OpM X f g:=
 λpins s σ H x y v u Q I rx ry ⟨F,ra,rb,rz,s0,h1,h2,h3,k⟩=>h pins s σ H x y v u Q I rx ry (i F H x y ra rb rz s0 h1 h2 h3 Q k)
end
def gI(f:Int->Int->PV):g5->g5->Υ g5
 | .v (.int i),.v (.int j)=>ξ (.v (f i j))
 |_,_=>ζ
theorem b8x:∃f:(Int->Int->Prop)->Int->Int->Bool,∀C i j,f C i j=true↔C i j:=⟨λC i j=> @decide (C i j) (Classical.propDecidable _),λC i j=> @decide_eq_true_iff (C i j) (Classical.propDecidable _)⟩
def okC:(Int->Int->Prop)->Int->Int->Bool:=b8x.choose
theorem b4K:okC C i j=true↔C i j:=b8x.choose_spec C i j
def K2(C:Int->Int->Prop)[∀i j,Decidable (C i j)](f:Int->Int->PV):g5->g5->Υ g5
 | .v (.int i),.v (.int j)=>if okC C i j=true then ξ (.v (f i j)) else ζ
 |_,_=>ζ
abbrev Θ:=K2 (λ_ j=>0<j) λi j=> .int (i % j)
theorem b4q(h:gI f rx ry=ξ rz):∃i j,rx= .v (.int i)/\ry= .v (.int j)/\rz= .v (f i j):=by
 unfold gI at h;split at h
 ·cases h;exact⟨_,_,rfl,rfl,rfl⟩
 ·cases h
theorem b7z [∀i j,Decidable (C i j)](h:K2 C f rx ry=ξ rz):∃i j,rx= .v (.int i)/\ry= .v (.int j)/\C i j/\rz= .v (f i j):=by
 unfold K2 at h;split at h
 ·split at h
  ·rename_i c;cases h;exact⟨_,_,rfl,rfl,b4K.mp c,rfl⟩
  ·cases h
 ·cases h
section
theorem c1u(h:OpR X f (rI0 g))(e:∀i j H,A3 X.K H (g' i j) (g i j)):OpM X f (gI g'):=
 a5R h λF H x y rx ry rz s h1 h2 h3 Q k=>by
  obtain⟨i,j,rfl,rfl,rfl⟩:=b4q h3;exact⟨i,j,h1,h2,k _ F H (w8.here s (e i j F))⟩
theorem b3K [∀i j,Decidable (C i j)](h:OpR X f (rI C g))(e:∀i j H,A3 X.K H (g' i j) (g i j)):OpM X f (K2 C g'):=
 a5R h λF H x y rx ry rz s h1 h2 h3 Q k=>by
  obtain⟨i,j,rfl,rfl,c,rfl⟩:=b7z h3;exact⟨i,j,h1,h2,c,k _ F H (w8.here s (e i j F))⟩
end
mutual
def n8:PV->Nat->Bool
 | .list xs,n+1=>w4 xs n
 | .tuple xs,n+1=>w4 xs n
 | .list _,0=>false
 | .tuple _,0=>false
 | .dict _,_=>false
 | .none,_=>true
 | .bool _,_=>true
 | .int _,_=>true
 | .str _,_=>true
def w4:List PV->Nat->Bool
 |[],_=>true
 |x::xs,n=>n8 x n && w4 xs n
end
section
theorem a6s(I:j4 X pins σ H s)(h:SqL X.K H a xs)(h':SqT X.K H a ys):False:=by
 obtain⟨its,r,p,_⟩:=I.list h;obtain⟨its',r',p',_⟩:=I.tuple h';exact SeqAt.ne_of_list_tuple p.isList (show s.heap.IsTuple a its'.toArray from p') rfl
theorem c1e(I:j4 X pins σ H s)(h:c1J X.K H x v):∃(a C:AB) (o:Obj) (vs:Array AA),v= .ref a/\s.heap.get? a=ξ o/\o.cls= .ref C/\o.data= .fields vs/\Y4 X.K x C/\o.dict=ζ:=by
 obtain⟨a,C,φ,e,q,k,n⟩:=h;obtain⟨oe,vs,h1,h2,h3,h4⟩:=k _ (I.hok a _ q).1;exact⟨a,C,oe,vs,e,h1,h2,h3,n,h4⟩
theorem b4J{K:AD}{F:Hp}{k p:PV}{r:List (PV×PV)}{y:Str}{m v:V}{fs:List (Str×V)}(h:b1z K F y m fs v)(hr:a3T K F ((k,p)::r) ((y,m)::fs)):k= .str y/\(p= .bool false\/p= .int 0)/\a3T K F r fs:=by
 obtain⟨f,w,t,e,z,q,hr⟩:=hr;cases e;refine⟨z, ?_,hr⟩;rcases h with⟨rfl,_⟩|⟨rfl,_⟩
 ·cases p with
  |bool b=>cases q;exact .inl rfl
  |tuple _=>obtain⟨_,_,e,_⟩:=q;cases e
  |list _=>obtain⟨_,_,e,_⟩:=q;cases e
  |dict _=>
   rcases q with⟨_,_,e,_⟩|⟨_,_,e,_⟩|⟨_,_,_,q⟩|⟨_,_,_,q,_⟩
   ·cases e
   ·cases e
   ·ext ab
   ·ext ab
  |_=>cases q
 ·cases p with
  |int b=>cases q;exact .inr rfl
  |tuple _=>obtain⟨_,_,e,_⟩:=q;cases e
  |list _=>obtain⟨_,_,e,_⟩:=q;cases e
  |dict _=>
   rcases q with⟨_,_,e,_⟩|⟨_,_,e,_⟩|⟨_,_,_,q⟩|⟨_,_,_,q,_⟩
   ·cases e
   ·cases e
   ·ext ab
   ·ext ab
  |_=>cases q
mutual
theorem A3.inj(I:j4 X pins σ H s):∀(p q:PV) {v:V} {n m:Nat},n8 p n=true->n8 q m=true->A3 X.K H p v->A3 X.K H q v->p=q
 | .tuple ps,q,v,n,m,hp,hq,⟨a,xs,e,h,r⟩,h'=>by
   subst e;cases q with
   |tuple qs=>
    obtain⟨a',xs',e',h',r'⟩:=h';cases e';cases I.tuple_inj h.sq h'.sq;cases n<;>cases m<;>simp only [n8,Aw] at hp hq
    rw [m7.inj I ps qs hp hq r r']
   |list qs=>obtain⟨a',xs',e',h',r'⟩:=h';cases e';exact(a6s I h' h.sq).elim
   |dict qs=>simp [n8] at hq
   |_=>cases h'
 | .list ps,q,v,n,m,hp,hq,⟨a,xs,e,h,r⟩,h'=>by
   subst e;cases q with
   |list qs=>
    obtain⟨a',xs',e',h',r'⟩:=h';cases e';cases I.list_inj h h';cases n<;>cases m<;>simp only [n8,Aw] at hp hq
    rw [m7.inj I ps qs hp hq r r']
   |tuple qs=>obtain⟨a',xs',e',h',r'⟩:=h';cases e';exact(a6s I h h'.sq).elim
   |dict qs=>simp [n8] at hq
   |_=>cases h'
 | .dict _,_,_,_,_,hp,_,_,_=>by simp [n8] at hp
 | .none,q,v,n,m,hp,hq,h,h'| .bool _,q,v,n,m,hp,hq,h,h'| .int _,q,v,n,m,hp,hq,h,h'| .str _,q,v,n,m,hp,hq,h,h'=>by
   cases h;cases q with
   |tuple _=>obtain⟨_,_,e,_⟩:=h';cases e
   |list _=>obtain⟨_,_,e,_⟩:=h';cases e
   |dict _=>simp [n8] at hq
   |_=>cases h'<;>rfl
theorem m7.inj(I:j4 X pins σ H s):∀(ps qs:List PV) {vs:List V} {n m:Nat},w4 ps n=true->w4 qs m=true->m7 X.K H ps vs->m7 X.K H qs vs->ps=qs
 |[],qs,vs,n,m,_,_,h,h'=>by
  cases h;cases qs with
  |nil=>rfl
  |cons q qs=>obtain⟨_,_,e,_⟩:=h';cases e
 |p::ps,qs,vs,n,m,hp,hq,⟨v,r,e,h,t⟩,h'=>by
  subst e;cases qs with
  |nil=>cases h'
  |cons q qs=>
   obtain⟨v',r',e',h',t'⟩:=h';cases e';simp only [w4,χ] at hp hq;rw [A3.inj I p q hp.1 hq.1 h h',m7.inj I ps qs hp.2 hq.2 t t']
end
end
mutual
theorem b1Z:∀(p:PV) (n:Nat),n8 p n=true->η p p=true
 | .none,_,_=>by simp [η]
 | .bool _,_,_=>by simp [η]
 | .int _,_,_=>by simp [η]
 | .str _,_,_=>by simp [η]
 | .list xs,n+1,h=>by simp only [η];exact a1d xs n (by simpa [n8] using h)
 | .tuple xs,n+1,h=>by simp only [η];exact a1d xs n (by simpa [n8] using h)
 | .list xs,0,h=>by simp [n8] at h
 | .tuple xs,0,h=>by simp [n8] at h
 | .dict _,_,h=>by simp [n8] at h
theorem a1d:∀(ps:List PV) (n:Nat),w4 ps n=true->θ ps ps=true
 |[],_,_=>by simp [θ]
 |x::xs,n,h=>by
  have h':n8 x n=true/\w4 xs n=true:=by simpa [w4] using h
  simp only [θ,b1Z x n h'.1,a1d xs n h'.2,Bool.and_self]
end
def eAt(ps qs:List PV)(j:Nat):Bool:=match ps[j]?,qs[j]? with
 |some p,ξ q=>η p q
 |_,_=>false
theorem Z0:∀(ps qs:List PV),θ ps qs=((AK (min ps.length qs.length)).all (eAt ps qs)&& ps.length==qs.length)
 |[],[]=>by simp [θ]
 |[],_::_=>by simp [θ]
 |_::_,[]=>by simp [θ]
 |p::ps,q::qs=>by
  have e:min (p::ps).length (q::qs).length=min ps.length qs.length+1:=by simp only [AT];lia
  rw [e,List.range_succ_eq_map,List.all_cons,List.all_map];have h0:eAt (p::ps) (q::qs) 0=η p q:=rfl;have h1:(eAt (p::ps) (q::qs)∘Nat.succ)=eAt ps qs:=by funext j;simp [eAt,Function.comp]
  rw [h0,h1];simp only [θ,Z0 ps qs,AT,Bool.and_assoc];have e2:(ps.length+1==qs.length+1)=(ps.length==qs.length):=by
   rw [Bool.eq_iff_iff];simp
  rw [e2]
section
variable {X:Cx}{pins:List (AB×Obj)}{σ:L2.St}{H:Hp}{s:AE}
structure b6D(A:AU)(s:AE)(u w:AA)(b:Bool):Prop where
 rc:SeqAt.RcAt A s u w b
 ne:SeqAt.RcNeAt A s u w (!b)
 eq:SeqAt.EqAt A s u w b
theorem Z9(A:AU):A.in1.units=A.units+1:=rfl
theorem a0S(r:t0 xs its)(h:j<its.length):∃x,xs[j]?=ξ x/\m8 x its[j]:=by
 have hx:j<xs.length:=by rw [r.length];exact h
 obtain⟨u,h1,h2⟩:=r.get (i:=j) (x:=xs[j]) (by simp [hx])
 rw [Ax h] at h1;cases h1;exact⟨xs[j],by simp [hx],h2⟩
theorem a5i(r:m7 X.K H ps xs)(r':m7 X.K H qs ys)(rv:t0 xs its)(rv':t0 ys its2)
 (ih:∀p q x y u w,p∈ps->q∈qs->A3 X.K H p x->A3 X.K H q y->m8 x u->m8 y w->b6D A s u w (η p q)):
 ∀j (h1:j<its.toArray.size) (h2:j<its2.toArray.size),SeqAt.EqAt A s its.toArray[j] its2.toArray[j] (eAt ps qs j):=by
 intro j h1 h2
 have h1':j<its.length:=by simpa using h1
 have h2':j<its2.length:=by simpa using h2
 obtain⟨x,ex,rx⟩:=a0S rv h1'
 obtain⟨y,ey,ry⟩:=a0S rv' h2'
 obtain⟨p,ep,hp⟩:=r.getV ex
 obtain⟨q,eq,hq⟩:=r'.getV ey
 have:eAt ps qs j=η p q:=by simp [eAt,ep,eq]
 rw [this]
 have z:=(ih p q x y _ _ (BE ep) (BE eq) hp hq rx ry).eq
 simpa using z
theorem x6:∀{ps:List PV} {n:Nat} {p:PV},w4 ps n=true->p∈ps->n8 p n=true
 |[],_,_,_,h=>by cases h
 |x::xs,n,p,h,hp=>by
  have h':n8 x n=true/\w4 xs n=true:=by simpa [w4] using h
  rcases AX.mp hp with rfl|hp
  ·exact h'.1
  ·exact x6 h'.2 hp
theorem a7D(I:j4 X pins σ H s):∀(n:Nat) (A:AU) (p q:PV) (x y:V) (u w:AA),A.units+n<cLine->n8 p n=true->n8 q n=true->A3 X.K H p x->A3 X.K H q y->m8 x u->m8 y w->b6D A s u w (η p q):=by
 intro n
 induction n with
 |zero=>
  intro A p q x y u w hu hp hq rp rq rx ry;cases p with
  |none=>
   cases rp;cases rx;cases q with
   |none=>cases rq;cases ry;simp only [η];exact⟨.none_none,.none_none,.same _⟩
   |bool j=>cases rq;cases ry;simp only [η];exact⟨.none_bool _,.none_bool _,.none_bool _⟩
   |int j=>cases rq;obtain⟨ty,rfl⟩:=ry;simp only [η];exact⟨.none_int _ _,.none_int _ _,.none_int _ _⟩
   |str j=>cases rq;obtain⟨ty,rfl⟩:=ry;simp only [η];exact⟨.none_str _ _,.none_str _ _,.none_str _ _⟩
   |dict _=>simp [n8] at hq
   |list _=>simp [n8] at hq
   |tuple _=>simp [n8] at hq
  |bool i=>
   cases rp;cases rx;cases q with
   |none=>cases rq;cases ry;simp only [η];exact⟨.bool_none _,.bool_none _,.bool_none _⟩
   |bool j=>cases rq;cases ry;simp only [η];exact⟨.bool_bool _ _,.bool_bool _ _,.bool_bool _ _⟩
   |int j=>cases rq;obtain⟨ty,rfl⟩:=ry;simp only [η];exact⟨.bool_int _ _ _,.bool_int _ _ _,.bool_int _ _ _⟩
   |str j=>cases rq;obtain⟨ty,rfl⟩:=ry;simp only [η];exact⟨.bool_str _ _ _,.bool_str _ _ _,.bool_str _ _ _⟩
   |dict _=>simp [n8] at hq
   |list _=>simp [n8] at hq
   |tuple _=>simp [n8] at hq
  |int i=>
   cases rp;obtain⟨tx,rfl⟩:=rx;cases q with
   |none=>cases rq;cases ry;simp only [η];exact⟨.int_none _ _,.int_none _ _,.int_none _ _⟩
   |bool j=>cases rq;cases ry;simp only [η];exact⟨.int_bool _ _ _,.int_bool _ _ _,.int_bool _ _ _⟩
   |int j=>cases rq;obtain⟨ty,rfl⟩:=ry;simp only [η];exact⟨.int_int _ _ _ _,.int_int _ _ _ _,.int_int _ _ _ _⟩
   |str j=>cases rq;obtain⟨ty,rfl⟩:=ry;simp only [η];exact⟨.int_str _ _ _ _,.int_str _ _ _ _,.int_str _ _ _ _⟩
   |dict _=>simp [n8] at hq
   |list _=>simp [n8] at hq
   |tuple _=>simp [n8] at hq
  |str i=>
   cases rp;obtain⟨tx,rfl⟩:=rx;cases q with
   |none=>cases rq;cases ry;simp only [η];exact⟨.str_none _ _,.str_none _ _,.str_none _ _⟩
   |bool j=>cases rq;cases ry;simp only [η];exact⟨.str_bool _ _ _,.str_bool _ _ _,.str_bool _ _ _⟩
   |int j=>cases rq;obtain⟨ty,rfl⟩:=ry;simp only [η];exact⟨.str_int _ _ _ _,.str_int _ _ _ _,.str_int _ _ _ _⟩
   |str j=>cases rq;obtain⟨ty,rfl⟩:=ry;simp only [η];exact⟨.str_str _ _ _ _,.str_str _ _ _ _,.str_str _ _ _ _⟩
   |dict _=>simp [n8] at hq
   |list _=>simp [n8] at hq
   |tuple _=>simp [n8] at hq
  |dict _=>simp [n8] at hp
  |list _=>simp [n8] at hp
  |tuple _=>simp [n8] at hp
 |succ n ih=>
  intro A p q x y u w hu hp hq rp rq rx ry;have hu0:A.units<cLine:=by lia
  have hu1:A.in1.units+n<cLine:=by rw [Z9];lia
  cases p with
  |dict _=>simp [n8] at hp
  |list ps=>
   obtain⟨a,xs,rfl,hs,r⟩:=rp;cases rx;obtain⟨its,rv,pl,hz⟩:=I.list hs;have okp:w4 ps n=true:=by simpa [n8] using hp
   cases q with
   |dict _=>simp [n8] at hq
   |list qs=>
    obtain⟨b,ys,rfl,hs',r'⟩:=rq;cases ry;obtain⟨its2,rv',pl',hz'⟩:=I.list hs';have okq:w4 qs n=true:=by simpa [n8] using hq
    have hle:its.toArray.size=ps.length:=by rw [<-r.length,rv.length];simp
    have hle':its2.toArray.size=qs.length:=by rw [<-r'.length,rv'.length];simp
    ext w
    have main:SeqAt.RcAt A s (.ref a) (.ref b) (θ ps qs)/\SeqAt.RcNeAt A s (.ref a) (.ref b) (!θ ps qs):=by
     by_cases e:its.toArray.size=its2.toArray.size
     ·have el:ps.length=qs.length:=by rw [<-hle,<-hle',e]
      have e3:θ ps qs=(AK its.toArray.size).all (eAt ps qs):=by
       rw [Z0,el,Nat.min_self,hle,el];simp
      rw [e3];exact⟨.lists pl.isList pl'.isList e hu0 he,.lists pl.isList pl'.isList e hu0 he⟩
     ·have e3:θ ps qs=false:=by
       rw [Z0];have:(ps.length==qs.length)=false:=by
        rw [beq_eq_false_iff_ne];intro z;exact e (by rw [hle,hle',z])
       rw [this,Bool.and_false]
      have e4:(its.toArray.size !=its2.toArray.size)=true:=by simpa using e
      rw [e3];exact⟨.lists_lengths pl.isList pl'.isList e4 hu0,.lists_lengths pl.isList pl'.isList e4 hu0⟩
    refine⟨main.1,main.2, ?_⟩
    by_cases hab:a=b
    ·subst hab;cases I.list_inj hs hs';cases m7.inj I ps qs okp okq r r';rw [a1d ps n okp];exact .same _
    ·exact .of_refs hab main.1
   |tuple qs=>
    ext u
    simp only [η];exact⟨.list_tuple pl.isList pl' hu0,.list_tuple pl.isList pl' hu0,.list_tuple pl.isList pl' hu0⟩
   |none=>cases rq;cases ry;simp only [η];exact⟨.list_none pl.isList hu0,.list_none pl.isList hu0,.list_none pl.isList hu0⟩
   |bool k=>cases rq;cases ry;simp only [η];exact⟨.list_bool _ pl.isList hu0,.list_bool _ pl.isList hu0,.list_bool _ pl.isList hu0⟩
   |int k=>cases rq;obtain⟨t,rfl⟩:=ry;simp only [η];exact⟨.list_int _ _ pl.isList hu0,.list_int _ _ pl.isList hu0,.list_int _ _ pl.isList hu0⟩
   |str k=>cases rq;obtain⟨t,rfl⟩:=ry;simp only [η];exact⟨.list_str _ _ pl.isList hu0,.list_str _ _ pl.isList hu0,.list_str _ _ pl.isList hu0⟩
  |tuple ps=>
   obtain⟨a,xs,rfl,hs,r⟩:=rp;cases rx;obtain⟨its,rv,pl,hz⟩:=I.tuple hs.sq;have okp:w4 ps n=true:=by simpa [n8] using hp
   cases q with
   |dict _=>simp [n8] at hq
   |tuple qs=>
    ext u
    have okq:w4 qs n=true:=by simpa [n8] using hq
    have hle:its.toArray.size=ps.length:=by rw [<-r.length,rv.length];simp
    have hle':its2.toArray.size=qs.length:=by rw [<-r'.length,rv'.length];simp
    ext w
    have e3:θ ps qs=((AK (min its.toArray.size its2.toArray.size)).all (eAt ps qs)&& its.toArray.size==its2.toArray.size):=by
     rw [Z0,hle,hle']
    have main:SeqAt.RcAt A s (.ref a) (.ref b) (θ ps qs)/\SeqAt.RcNeAt A s (.ref a) (.ref b) (!θ ps qs):=by
     rw [e3];exact⟨.tuples pl pl' hu0 he,.tuples pl pl' hu0 he⟩
    refine⟨main.1,main.2, ?_⟩
    by_cases hab:a=b
    ·subst hab;cases I.tuple_inj hs.sq hs'.sq;cases m7.inj I ps qs okp okq r r';rw [a1d ps n okp];exact .same _
    ·exact .of_refs hab main.1
   |list qs=>
    obtain⟨b,ys,rfl,hs',r'⟩:=rq;cases ry;obtain⟨its2,rv',pl',hz'⟩:=I.list hs';simp only [η];exact⟨.tuple_list pl pl'.isList hu0,.tuple_list pl pl'.isList hu0,.tuple_list pl pl'.isList hu0⟩
   |none=>cases rq;cases ry;simp only [η];exact⟨.tuple_none pl hu0,.tuple_none pl hu0,.tuple_none pl hu0⟩
   |bool k=>cases rq;cases ry;simp only [η];exact⟨.tuple_bool _ pl hu0,.tuple_bool _ pl hu0,.tuple_bool _ pl hu0⟩
   |int k=>cases rq;obtain⟨t,rfl⟩:=ry;simp only [η];exact⟨.tuple_int _ _ pl hu0,.tuple_int _ _ pl hu0,.tuple_int _ _ pl hu0⟩
   |str k=>cases rq;obtain⟨t,rfl⟩:=ry;simp only [η];exact⟨.tuple_str _ _ pl hu0,.tuple_str _ _ pl hu0,.tuple_str _ _ pl hu0⟩
  |none=>
   cases q with
   |list qs=>
    obtain⟨b,ys,rfl,hs',r'⟩:=rq;cases ry;obtain⟨its2,rv',pl',hz'⟩:=I.list hs';cases rp;cases rx;simp only [η];exact⟨.none_list pl'.isList hu0,.none_list pl'.isList hu0,.none_list pl'.isList hu0⟩
   |tuple qs=>
    obtain⟨b,ys,rfl,hs',r'⟩:=rq;cases ry;obtain⟨its2,rv',pl',hz'⟩:=I.tuple hs'.sq;cases rp;cases rx;simp only [η];exact⟨.none_tuple pl' hu0,.none_tuple pl' hu0,.none_tuple pl' hu0⟩
   |dict _=>simp [n8] at hq
   |_=>exact ih A _ _ x y u w (by lia) (by simp [n8]) (by simp [n8]) rp rq rx ry
  |bool k=>
   cases q with
   |list qs=>
    obtain⟨b,ys,rfl,hs',r'⟩:=rq;cases ry;obtain⟨its2,rv',pl',hz'⟩:=I.list hs';cases rp;cases rx;simp only [η];exact⟨.bool_list _ pl'.isList hu0,.bool_list _ pl'.isList hu0,.bool_list _ pl'.isList hu0⟩
   |tuple qs=>
    obtain⟨b,ys,rfl,hs',r'⟩:=rq;cases ry;obtain⟨its2,rv',pl',hz'⟩:=I.tuple hs'.sq;cases rp;cases rx;simp only [η];exact⟨.bool_tuple _ pl' hu0,.bool_tuple _ pl' hu0,.bool_tuple _ pl' hu0⟩
   |dict _=>simp [n8] at hq
   |_=>exact ih A _ _ x y u w (by lia) (by simp [n8]) (by simp [n8]) rp rq rx ry
  |int k=>
   cases q with
   |list qs=>
    obtain⟨b,ys,rfl,hs',r'⟩:=rq;cases ry;obtain⟨its2,rv',pl',hz'⟩:=I.list hs';cases rp;obtain⟨t,rfl⟩:=rx;simp only [η];exact⟨.int_list _ _ pl'.isList hu0,.int_list _ _ pl'.isList hu0,.int_list _ _ pl'.isList hu0⟩
   |tuple qs=>
    obtain⟨b,ys,rfl,hs',r'⟩:=rq;cases ry;obtain⟨its2,rv',pl',hz'⟩:=I.tuple hs'.sq;cases rp;obtain⟨t,rfl⟩:=rx;simp only [η];exact⟨.int_tuple _ _ pl' hu0,.int_tuple _ _ pl' hu0,.int_tuple _ _ pl' hu0⟩
   |dict _=>simp [n8] at hq
   |_=>exact ih A _ _ x y u w (by lia) (by simp [n8]) (by simp [n8]) rp rq rx ry
  |str k=>
   cases q with
   |list qs=>
    obtain⟨b,ys,rfl,hs',r'⟩:=rq;cases ry;obtain⟨its2,rv',pl',hz'⟩:=I.list hs';cases rp;obtain⟨t,rfl⟩:=rx;simp only [η];exact⟨.str_list _ _ pl'.isList hu0,.str_list _ _ pl'.isList hu0,.str_list _ _ pl'.isList hu0⟩
   |tuple qs=>
    obtain⟨b,ys,rfl,hs',r'⟩:=rq;cases ry;obtain⟨its2,rv',pl',hz'⟩:=I.tuple hs'.sq;cases rp;obtain⟨t,rfl⟩:=rx;simp only [η];exact⟨.str_tuple _ _ pl' hu0,.str_tuple _ _ pl' hu0,.str_tuple _ _ pl' hu0⟩
   |dict _=>simp [n8] at hq
   |_=>exact ih A _ _ x y u w (by lia) (by simp [n8]) (by simp [n8]) rp rq rx ry
end
set_option maxHeartbeats 1000000
instance (i j:Int):Decidable (b1t i j):=by unfold b1t;infer_instance
instance (i j:Int):Decidable (Y9 i j):=by unfold Y9;infer_instance
abbrev Ω:=K2 Y9 λi j=> .int (i / j)
def g5.mine:g5->Υ (List PV)
 | .ow (.lst ps)=>ξ ps
 | .bo (.lst ps)=>ξ ps
 |_=>ζ
theorem b2e{K:AD}{F H:Hp}{v:V}{r:g5}{ps:List PV}(h:M5 K F H v r)(e:r.mine=ξ ps):∃a xs,v= .ref a/\F a=ζ/\H a=ξ (.lst xs)/\m7 K F ps xs:=by
 cases r with
 |v _=>cases e
 |ow c=>cases c<;>cases e;exact h
 |bo c=>cases c<;>cases e;exact h
noncomputable def K8(x y:g5):Υ g5:=match x,y with
 | .v (.int i),.v (.int j)=>ξ (.v (.int (i+j)))
 | .v (.str i),.v (.str j)=>if i.length+j.length<=AQ then ξ (.v (.str (i++j))) else ζ
 |x,y=>match x.mine,y.mine with
  |some ps,ξ qs=>if ps.length+qs.length<=AQ then ξ (.own (ps++qs)) else ζ
  |_,_=>ζ
section
variable {X:Cx}
theorem v7:OpM X (binaryOp .Add) K8:=by
 ext e
 unfold K8 at h3;split at h3
 ·cases h3;cases h1;cases h2;exact c2H pins s σ H _ _ v u Q I rx ry ⟨_,_,rfl,rfl,k _ F H (w8.here s0 rfl)⟩
 ·rename_i i j;split at h3
  ·rename_i c;cases h3;cases h1;cases h2;exact b3J pins s σ H _ _ v u Q I rx ry ⟨i,j,rfl,rfl,c,k _ F H (w8.here s0 rfl)⟩
  ·cases h3
 ·split at h3
  ·rename_i ps qs e1 e2;split at h3
   ·rename_i c;cases h3;obtain⟨a,xs,rfl,_,hq,r⟩:=b2e h1 e1;obtain⟨b,ys,rfl,_,hq',r'⟩:=b2e h2 e2;refine c2I pins s σ H _ _ v u Q I rx ry ⟨a,b,xs,ys,rfl,rfl,hq,hq',by rw [r.length,r'.length];exact c,λp hp=> ?_⟩
    exact k _ _ _ (w8.lst s0 hp (r.append r'))
   ·cases h3
  ·cases h3
theorem a3m:OpM X (binaryOp .Sub) (gI λi j=> .int (i - j)):=c1u c2M λ_ _ _=>rfl
theorem c0C:OpM X (binaryOp .Mult) (K2 b1t λi j=> .int (i*j)):=b3K c2L λ_ _ _=>rfl
theorem r6:OpM X (binaryOp .Mod) Θ:=b3K c2K λ_ _ _=>rfl
theorem K6:OpM X (binaryOp .FloorDiv) Ω:=b3K c0z λ_ _ _=>rfl
def gEq(x y:g5):Υ g5:=if n8 x.rd 50=true/\n8 y.rd 50=true then ξ (.v (.bool (η x.rd y.rd))) else ζ
def gNe(x y:g5):Υ g5:=if n8 x.rd 50=true/\n8 y.rd 50=true then ξ (.v (.bool (!η x.rd y.rd))) else ζ
theorem a0o(hu:X.A.units+64<cLine):OpM X (compareOp .Eq) gEq:=by
 ext e
 unfold gEq at h3;split at h3
 ·rename_i c;cases h3;have z:=a7D I 50 X.A _ _ x y v u (by lia) c.1 c.2 (h1.rd s0) (h2.rd s0) rx ry
  exact z.rc _ _ _ _ ⟨.bl _,H,I,rfl,k _ F H (w8.here s0 rfl)⟩
 ·cases h3
theorem X8(hu:X.A.units+64<cLine):OpM X (compareOp .NotEq) gNe:=by
 ext e
 unfold gNe at h3;split at h3
 ·rename_i c;cases h3;have z:=a7D I 50 X.A _ _ x y v u (by lia) c.1 c.2 (h1.rd s0) (h2.rd s0) rx ry
  exact z.ne _ _ _ _ ⟨.bl _,H,I,rfl,k _ F H (w8.here s0 rfl)⟩
 ·cases h3
open Classical in
def a8W(K:AD)(H:Hp)(q:PV)(u:AA):Bool:=if h:∃p v,m8 v u/\A3 K H p v/\n8 p 50=true then η h.choose q else false
theorem b4c(I:j4 X pins σ H s)(r:m8 v u)(h:A3 X.K H p v)(ok:n8 p 50=true):a8W X.K H q u=η p q:=by
 have hx:∃p v,m8 v u/\A3 X.K H p v/\n8 p 50=true:=⟨p,v,r,h,ok⟩;unfold a8W;rw [dif_pos hx];obtain⟨v',r',h',o'⟩:=hx.choose_spec;cases r.inj r';rw [A3.inj I _ _ o' ok h' h]
theorem a7o(I:j4 X pins σ H s):∀{ps:List PV} {xs:List V} {us:List AA},m7 X.K H ps xs->t0 xs us->w4 ps 50=true->us.any (a8W X.K H q)=ps.any λp=>η p q
 |[],_,_,r,v,_=>by cases r;cases v;rfl
 |p::ps,_,_,⟨x,r,e,h,t⟩,v,ok=>by
  subst e;simp only [w4,χ] at ok;cases v with
  |cons a b=>rw [List.any_cons,List.any_cons,b4c I a h ok.1,a7o I t b ok.2]
theorem b4F:∀{ps:List PV} {xs:List V} {us:List AA} {u:AA},m7 X.K H ps xs->t0 xs us->u∈us->∃p x,p∈ps/\m8 x u/\A3 X.K H p x
 |[],_,_,_,r,v,h=>by cases r;cases v;cases h
 |p::ps,_,_,u,⟨x,r,e,hp,t⟩,v,h=>by
  subst e;cases v with
  |cons a b=>
   rcases AX.mp h with rfl|h
   ·exact⟨p,x,AZ,a,hp⟩
   ·obtain⟨p',x',h1,h2,h3⟩:=b4F t b h;exact⟨p',x',Ag _ h1,h2,h3⟩
def PyData.items?:PV->Υ (List PV)
 | .list ps=>ξ ps
 | .tuple ps=>ξ ps
 |_=>ζ
def gIn(neg:Bool)(x y:g5):Υ g5:=match PyData.items? y.rd with
 |some ps=>if n8 x.rd 50=true/\w4 ps 50=true then ξ (.v (.bool (if neg then !(ps.any λp=>η p x.rd) else ps.any λp=>η p x.rd))) else ζ
 |none=>ζ
theorem b14(I:j4 X pins σ H s)(hu:X.A.units+64<cLine)(hq:n8 q 50=true)(hp:w4 ps 50=true)
 (rq:A3 X.K H q x) (rx:m8 x v) (r:m7 X.K H ps xs) (rv:t0 xs us):∀y,y∈us.toArray->SeqAt.EqAt X.A.in1 s y v (a8W X.K H q y):=by
 intro y hy
 have hy':y∈us:=by simpa using hy
 obtain⟨p,z,h1,h2,h3⟩:=b4F r rv hy'
 rw [b4c I h2 h3 (x6 hp h1)]
 exact(a7D I 50 X.A.in1 p q z x y v (by rw [Z9];lia) (x6 hp h1) hq h3 rq h2 rx).eq
theorem G5(s0:m3 F H)(h:M5 X.K F H v r)(e:PyData.items? r.rd=ξ ps):∃a xs,v= .ref a/\(SqL X.K H a xs\/SqT X.K H a xs)/\m7 X.K F ps xs:=by
 cases r with
 |v p=>
  cases p with
  |list qs=>cases e;obtain⟨a,xs,rfl,hq,r⟩:=h;exact⟨a,xs,rfl,.inl (B9 s0 hq),r⟩
  |tuple qs=>cases e;obtain⟨a,xs,rfl,hq,r⟩:=h;exact⟨a,xs,rfl,.inr (C0 s0 hq.sq),r⟩
  |_=>cases e
 |ow c=>cases c<;>cases e;obtain⟨a,xs,rfl,_,hq,r⟩:=h;exact⟨a,xs,rfl,.inl (SqL.of hq),r⟩
 |bo c=>cases c<;>cases e;obtain⟨a,xs,rfl,_,hq,r⟩:=h;exact⟨a,xs,rfl,.inl (SqL.of hq),r⟩
theorem c2N(hu:X.A.units+64<cLine):OpM X (compareOp .In) (gIn false):=by
 ext e
 unfold gIn at h3;split at h3
 ·rename_i ps e;split at h3
  ·rename_i c;cases h3;obtain⟨a,xs,rfl,hq,r⟩:=G5 s0 h2 e;cases ry;have rH:=m7.mono s0 _ r;rcases hq with hq|hq
   ·obtain⟨its,rv,pl,hz⟩:=I.list hq;refine SeqAt.in_listAt (a8W X.K H ra.rd) pl.isList (b14 I hu c.1 c.2 (h1.rd s0) rx rH rv) ⟨.bl _,H,I,rfl, ?_⟩;rw [show its.toArray.any (a8W X.K H ra.rd)=its.any (a8W X.K H ra.rd) by simp,a7o I rH rv c.2]
    exact k _ F H (w8.here s0 rfl)
   ·obtain⟨its,rv,pl,hz⟩:=I.tuple hq;refine SeqAt.in_tupleAt (a8W X.K H ra.rd) pl (b14 I hu c.1 c.2 (h1.rd s0) rx rH rv) ⟨.bl _,H,I,rfl, ?_⟩;rw [show its.toArray.any (a8W X.K H ra.rd)=its.any (a8W X.K H ra.rd) by simp,a7o I rH rv c.2]
    exact k _ F H (w8.here s0 rfl)
  ·cases h3
 ·cases h3
def c2d(neg:Bool)(x y:g5):Υ g5:=match y with
 | .v .none=>(match x.rd with
   | .none=>ξ (.v (.bool (!neg)))
   |_=>ξ (.v (.bool neg)))
 |_=>ζ
def PyData.isNone:PV->Bool
 | .none=>true
 |_=>false
theorem c0R{K:AD}{H:Hp}{p:PV}{v:V}(h:A3 K H p v):decide (v=V.non)=PyData.isNone p:=by
 cases p with
 |none=>cases h;rfl
 |bool _=>cases h;rfl
 |int _=>cases h;rfl
 |str _=>cases h;rfl
 |list _=>obtain⟨_,_,rfl,_⟩:=h;rfl
 |tuple _=>obtain⟨_,_,rfl,_⟩:=h;rfl
 |dict _=>
  rcases h with⟨_,_,rfl,_⟩|⟨_,_,rfl,_⟩|⟨_,_,_,h⟩|⟨_,_,_,h,_⟩
  ·rfl
  ·rfl
  ·obtain⟨_,rfl⟩:=h.ref;rfl
  ·obtain⟨_,rfl⟩:=h.ref;rfl
theorem c0B:OpM X (compareOp .Is) (c2d false):=
 a5R c2J λF H x y rx ry rz s0 h1 h2 h3 Q k=>by
  unfold c2d at h3;split at h3
  ·cases h2;have e:=c0R (h1.rd s0);refine⟨rfl, ?_⟩;rw [e];cases hp:rx.rd<;>rw [hp] at h3<;>cases h3<;>exact k _ F H (w8.here s0 rfl)
  ·cases h3
def c0q(m:M):M:=λρ=>(m ρ).bind λr=>match r with
 | .v (.int i)=>ξ (.v (.int (-i)))
 |_=>ζ
theorem b7j(ha:EE X a ma):EE X (.UnaryOp .USub a pos) (c0q ma):=
 u5 (c4d c3u ha) λσ H Q h0=>u0 h0 λF ρ r he hm k=>by
  obtain⟨rx,e1,hm⟩:=bind_some hm;refine⟨F,ρ,rx,he,e1,λv F1 H1 o1=> ?_⟩;split at hm
  ·cases hm;exact⟨_,o1.rep,k _ F1 H1 (w8.trans o1.x (w8.here o1.x.fh rfl))⟩
  ·cases hm
def v4(x y:g5):Υ g5:=match y with
 | .v (.int i)=>(match x.rd with
   | .str z=>if z.length<=AQ then(atI z.cps.toList i).map λc=> .v (.str ⟨#[c]⟩) else ζ
   |p=>match PyData.items? p with
    |some ps=>(atI ps i).map .v
    |none=>ζ)
 |_=>ζ
theorem m7.atI{K:AD}{H:Hp}{ps:List PV}{xs:List V}{i:Int}{p:PV}(r:m7 K H ps xs)(e:L2.atI ps i=ξ p):∃v,L2.atI xs i=ξ v/\A3 K H p v:=by
 unfold L2.atI at e ⊢;rw [r.length];obtain⟨j,e1,e2⟩:=bind_some e;rw [e1];exact r.get e2
theorem ixm:IxR X (rM2 X.K v4):=by
 intro value slice pins s σ H x y v u Q I rx ry h hs;obtain⟨F,ra,rb,rz,s0,h1,h2,h3,k⟩:=h;unfold v4 at h3;split at h3
 ·rename_i i;cases h2;split at h3
  ·rename_i z ez;split at h3
   ·rename_i c;have rr:=h1.rd s0;rw [ez] at rr;cases rr;cases ea:L2.atI z.cps.toList i with
    |none=>rw [ea] at h3;cases h3
    |some ch=>
     rw [ea] at h3;cases h3;exact c2k value slice pins s σ H _ _ v u Q I rx ry ⟨z,i,ch,rfl,rfl,c,ea,k _ F H (w8.here s0 rfl)⟩ hs
   ·cases h3
  ·split at h3
   ·rename_i ps e;cases ea:L2.atI ps i with
    |none=>rw [ea] at h3;cases h3
    |some p=>
     rw [ea] at h3;cases h3;obtain⟨a,xs,rfl,hq,r⟩:=G5 s0 h1 e;obtain⟨z,ez,rp⟩:=r.atI ea;rcases hq with hq|hq
     ·exact c0g value slice pins s σ H _ _ v u Q I rx ry ⟨a,xs,i,z,rfl,rfl,hq,ez,k _ F H (w8.here s0 rp)⟩ hs
     ·exact c2l value slice pins s σ H _ _ v u Q I rx ry ⟨a,xs,i,z,rfl,rfl,hq,ez,k _ F H (w8.here s0 rp)⟩ hs
   ·cases h3
 ·cases h3
theorem l7(ha:EE X a ma)(hb:EE X b mb)(hs:b32 b:=by intro _ _;rfl):EE X (.Subscript a b pos) (m2 v4 ma mb):=
 u5 (c4b ixm ha hb hs) λ_ _ _ h=>b1o h
abbrev MA:=d5->Υ (List PV)
def tMA(K:AD)(m:MA):TA:=λσ H Q=>∃F ρ ps,O4 K F H σ ρ/\m ρ=ξ ps/\∀vs F' H',R5 F H F' H'->m7 K F' ps vs->Q vs H'
abbrev EA(X:Cx)(es:List AO)(m:MA):Prop:=PA X es (tMA X.K m)
def d9:MA:=λ_=>ξ []
def b9(m:M)(r:MA):MA:=λρ=>((m ρ).bind g5.toVal).bind λp=>(r ρ).bind λps=>ξ (p::ps)
theorem d8:EA X [] d9:=b8D O3 λσ H Q h0=>u0 h0 λF ρ ps he hm k=>by
 cases hm;exact k [] F H (R5.refl he.fh) rfl
theorem a0(ha:EE X e m)(hr:EA X es r)(hs:Ψ e es X.env:=by rfl):EA X (e::es) (b9 m r):=
 b8D (y0 ha hr hs) λσ H Q h0=>u0 h0 λF ρ ps he hm k=>by
  obtain⟨p,e1,hm⟩:=bind_some hm;obtain⟨r1,e1,e2⟩:=bind_some e1;obtain⟨qs,e3,hm⟩:=bind_some hm;cases hm;refine⟨F,ρ,r1,he,e1,λv F1 H1 o1=> ?_⟩;obtain⟨F2,o2⟩:=o1.toVal e2;exact⟨F2,ρ,qs,he.ext o2.x,e3,λvs F3 H3 x3 rl=>k _ F3 H3 (o2.x.trans x3) ⟨v,vs,rfl,A3.mono x3.f _ o2.rep,rl⟩⟩
def T6(m:MA):M:=λρ=>(m ρ).bind λps=>if ps.length<=AQ then ξ (.v (.tuple ps)) else ζ
def a3t(m:MA):M:=λρ=>(m ρ).bind λps=>if ps.length<=AQ then ξ (.own ps) else ζ
theorem C7(h:EA X es m):EE X (.Tuple es x1 pos) (T6 m):=
 u5 (b1e h) λσ H Q h0=>u0 h0 λF ρ r he hm k=>by
  obtain⟨ps,e1,hm⟩:=bind_some hm;split at hm
  ·rename_i c;cases hm;exact⟨F,ρ,ps,he,e1,λvs F1 H1 x rl=>⟨by rw [rl.length];exact c,λp hp=>k _ _ _ (w8.trans x (w8.tup x.fh hp rl))⟩⟩
  ·cases hm
theorem P7(h:EA X es m):EE X (.List es pos) (a3t m):=
 u5 (c2T h) λσ H Q h0=>u0 h0 λF ρ r he hm k=>by
  obtain⟨ps,e1,hm⟩:=bind_some hm;split at hm
  ·rename_i c;cases hm;exact⟨F,ρ,ps,he,e1,λvs F1 H1 x rl=>⟨by rw [rl.length];exact c,λp hp=>k _ _ _ (w8.trans x (w8.lst x.fh hp rl))⟩⟩
  ·cases hm
abbrev Λ:=List PV->Υ g5
def spP(K:AD)(n:Nat)(g:Λ):Sp:=λvs H Q _=>∃F ps r,m3 F H/\m7 K F ps vs/\ps.length=n/\g ps=ξ r/\∀v F' H',w8 K F H F' H' v r->Q v H'
def m9(g:Λ)(m:MA):M:=λρ=>(m ρ).bind g
theorem b9Z
 (G:R3 X.prog X.w X.K X.mg X.base CX0 k f fd ps (spP X.K n g)) (hr:G8 k X.A) (hg:Gl X x) (hm:X.mg x=ξ (.ref f)) (hk:PySem.W.keepIn X.K (.ref f)=true) (hb:a07 X.K fd ps []) (hn:∀ρ ps,m ρ=ξ ps->ps.length=n) (ha:EA X (e::es) m)
 (hdb:Δ x:=by decide) (he:Ψ e es X.env:=by rfl) (hpl:Φ₁ pos es X.env:=by rfl):
 EE X (.Call (.Name x p) (e::es) [] pos) (m9 g m):=
 u5 (a64 G hr hg hm hk hb .nil b2p ha hdb he hpl) λσ H Q h0=>u0 h0 λF ρ r he hm k=>by
  obtain⟨qs,e1,hm⟩:=bind_some hm;refine⟨F,ρ,qs,he,e1,λvs F1 H1 x rl=> ?_⟩;show spP X.K n g (vs++[]) H1 Q E0;rw [An];exact⟨F1,qs,r,x.fh,rl,hn _ _ e1,hm,λv F2 H2 o=>k v F2 H2 (w8.trans x o)⟩
theorem j0:∀ρ ps,d9 ρ=ξ ps->ps.length=0:=λ_ _ h=>by cases h;rfl
theorem c8(h:∀ρ ps,r ρ=ξ ps->ps.length=n):∀ρ ps,b9 m r ρ=ξ ps->ps.length=n+1:=λρ ps e=>by
 obtain⟨p,e1,e⟩:=bind_some e;obtain⟨qs,e3,e⟩:=bind_some e;cases e;rw [AT,h ρ qs e3]
end
mutual
def a7m(K:AD):Nat->AA->Υ PV
 |0,_=>ζ
 |_+1,.none=>ξ .none
 |_+1,.bool b=>ξ (.bool b)
 |_+1,.int i _=>ξ (.int i)
 |_+1,.str x _=>ξ (.str x)
 |n+1,.ref a=>match K.lookup a with
  |some ⟨.type "tuple",_,.seq its _,_⟩=>if its.size<=1000 then(a4w K n its.toList).map .tuple else ζ
  |some ⟨.type "list",ζ,.seq its _,_⟩=>if its.size<=1000 then(a4w K n its.toList).map .list else ζ
  |_=>ζ
 |_+1,_=>ζ
def a4w(K:AD):Nat->List AA->Υ (List PV)
 |0,_=>ζ
 |_+1,[]=>ξ []
 |n+1,u::us=>(a7m K n u).bind λp=>(a4w K n us).bind λps=>ξ (p::ps)
end
theorem a8E(h:n<=1000):n<=AQ:=BG (b6r h)
theorem b6L(K:AD):∀(n:Nat),(∀(u:AA) (p:PV),a7m K n u=ξ p->∃v,m8 v u/\∀H,A3 K H p v)/\(∀(us:List AA) (ps:List PV),a4w K n us=ξ ps->∃vs,t0 vs us/\∀H,m7 K H ps vs):=by
 intro n
 induction n with
 |zero=>exact⟨λu p h=>by simp [a7m] at h,λu p h=>by simp [a4w] at h⟩
 |succ n ih=>
  constructor
  ·intro u p h;cases u with
   |none=>simp only [a7m] at h;cases h;exact⟨.non,rfl,λ_=>rfl⟩
   |bool b=>simp only [a7m] at h;cases h;exact⟨.bl b,rfl,λ_=>rfl⟩
   |int i t=>simp only [a7m] at h;cases h;exact⟨.int i,⟨t,rfl⟩,λ_=>rfl⟩
   |str x t=>simp only [a7m] at h;cases h;exact⟨.str x,⟨t,rfl⟩,λ_=>rfl⟩
   |ref a=>
    simp only [a7m] at h;split at h
    ·rename_i d its m sl e;split at h
     ·rename_i c;cases q:a4w K n its.toList with
      |none=>rw [q] at h;cases h
      |some ps=>
       rw [q] at h;cases h;obtain⟨vs,h1,h2⟩:=ih.2 _ _ q;exact⟨.ref a,rfl,λH=>⟨a,vs,rfl,.inr ⟨_,its,m,e,rfl,rfl,a8E c,h1⟩,h2 H⟩⟩
     ·cases h
    ·rename_i its m sl e;split at h
     ·rename_i c;cases q:a4w K n its.toList with
      |none=>rw [q] at h;cases h
      |some ps=>
       rw [q] at h;cases h;obtain⟨vs,h1,h2⟩:=ih.2 _ _ q;exact⟨.ref a,rfl,λH=>⟨a,vs,rfl,.inr ⟨_,its,m,e,rfl,rfl,rfl,a8E c,h1⟩,h2 H⟩⟩
     ·cases h
    ·cases h
   |_=>simp [a7m] at h
  ·intro us ps h;cases us with
   |nil=>simp only [a4w] at h;cases h;exact⟨[],.nil,λ_=>rfl⟩
   |cons u us=>
    simp only [a4w] at h;obtain⟨p,e1,h⟩:=bind_some h;obtain⟨qs,e2,h⟩:=bind_some h;cases h;obtain⟨v,r1,r2⟩:=ih.1 _ _ e1;obtain⟨vs,r3,r4⟩:=ih.2 _ _ e2;exact⟨v::vs,.cons r1 r3,λH=>⟨v,vs,rfl,r2 H,r4 H⟩⟩
section
noncomputable def b16:PV->Υ k4
 | .int i=>ξ (.inl i)
 | .str x=>ξ (.inr x)
 |_=>ζ
theorem a9O{K:AD}{H:Hp}{p:PV}{k:k4}{v:V}(e:b16 p=ξ k)(r:A3 K H p v):v=kV k:=by
 cases p with
 |int i=>cases e;cases r;rfl
 |str x=>cases e;cases r;rfl
 |_=>cases e
noncomputable def a6h:List DictEntry->Υ (List (k4×AA))
 |[]=>ξ []
 |e::es=>match e.key with
  | .int i _=>(a6h es).map λr=>(.inl i,e.val)::r
  | .str x _=>(a6h es).map λr=>(.inr x,e.val)::r
  |_=>ζ
theorem a0E:∀{es:List DictEntry} {kvs:List (k4×AA)},a6h es=ξ kvs->es.map (·.hash)=kvs.map (λkv=>b5O w kv.1)->Pairs (m5 P w) es kvs/\∀e∈es,∃k,(m5 P w).is k e.key=true/\e.hash=(m5 P w).hash k
 |[],_,h,_=>by cases h;exact⟨.nil,λ_ h=>nomatch h⟩
 |e::es,kvs,h,hh=>by
  simp only [a6h] at h;split at h
  ·rename_i i t ek;cases q:a6h es with
   |none=>rw [q] at h;cases h
   |some r=>
    rw [q] at h;cases h;simp only [AI,List.cons.injEq] at hh;obtain⟨h1,h2⟩:=a0E q hh.2;have hi:(m5 P w).is (.inl i) e.key=true:=by rw [ek];exact a6q P w i t
    exact⟨.cons hi rfl h1,λe' he=>(AX.mp he).elim (λz=>by subst z;exact⟨_,hi,hh.1⟩) (h2 e')⟩
  ·rename_i x t ek;cases q:a6h es with
   |none=>rw [q] at h;cases h
   |some r=>
    rw [q] at h;cases h;simp only [AI,List.cons.injEq] at hh;obtain⟨h1,h2⟩:=a0E q hh.2;have hi:(m5 P w).is (.inr x) e.key=true:=by rw [ek];exact W3 P w x t
    exact⟨.cons hi rfl h1,λe' he=>(AX.mp he).elim (λz=>by subst z;exact⟨_,hi,hh.1⟩) (h2 e')⟩
  ·cases h
def a1t(K:AD)(n:Nat):List (κ×AA)->Υ (List (κ×PV))
 |[]=>ξ []
 |(k,u)::r=>(a7m K n u).bind λp=>(a1t K n r).bind λt=>ξ ((k,p)::t)
def Y8 [DecidableEq κ](tbl:List (κ×PV))(k:κ):Υ PV:=match tbl with
 |[]=>ζ
 |(k',p)::r=>if k'=k then ξ p else Y8 r k
theorem a9T{K:AD}{n:Nat}{k:k4}:∀{kvs:List (k4×AA)} {tbl:List (k4×PV)} {p:PV},a1t K n kvs=ξ tbl->Y8 tbl k=ξ p->∃u,valueAt kvs k=ξ u/\a7m K n u=ξ p
 |[],_,_,h,e=>by cases h;cases e
 |(k',u)::r,tbl,p,h,e=>by
  simp only [a1t] at h;obtain⟨q,e1,h⟩:=bind_some h;obtain⟨t,e2,h⟩:=bind_some h;cases h;simp only [Y8] at e;split at e
  ·rename_i c;cases e;exact⟨u,by simp [valueAt,List.find?_cons,c],e1⟩
  ·rename_i c;obtain⟨u',h1,h2⟩:=a9T e2 e;refine⟨u', ?_,h2⟩
   simpa [valueAt,List.find?_cons,c] using h1
structure Tab(P:AS)(w:AL)(K:AD)(a:AB)(tbl:List (k4×PV)):Prop where
 ex:∃es ep kvs n,K.lookup a=ξ ⟨.type "dict",ζ,.dict es ep, #[]⟩/\a6h es.toList=ξ kvs/\es.toList.map (·.hash)=kvs.map (λkv=>b5O w kv.1)/\a1t K n kvs=ξ tbl/\(kvs.map (·.1)).Nodup
def c2z(tbl:List (k4×PV))(m:M):M:=λρ=>(m ρ).bind λr=>(b16 r.rd).bind λk=>(Y8 tbl k).map .v
theorem c12(T:Tab X.prog X.w X.K a tbl)(hg:Gl X x)(hm:X.mg x=ξ (.ref a))(hi:EE X i m)(hd:Δ x:=by decide)(hs:b5d i:=by intro _ _;rfl):
 EE X (.Subscript (.Name x p) i pos) (c2z tbl m):=by
 intro pins s σ H Q I ⟨F,ρ,r,he,hm',k⟩
 obtain⟨es,ep,kvs,n,l1,l2,l3,l4,l5⟩:=T.ex
 obtain⟨ri,e1,hm'⟩:=bind_some hm'
 obtain⟨ky,e2,hm'⟩:=bind_some hm'
 cases e3:Y8 tbl ky with
 |none=>rw [e3] at hm';cases hm'
 |some q=>
  rw [e3] at hm';cases hm'
  obtain⟨u,h1,h2⟩:=a9T l4 e3
  obtain⟨vv,r1,r2⟩:=(b6L X.K n).1 u q h2
  refine b41 PySem.F.slot_dict_getitem.lookup hs (a0L I hg hm ?_ hd)
  refine E2 (hi pins s σ H (λy H2=>∃F2,R5 F H F2 H2/\y=kV ky) I ⟨F,ρ,ri,he,e1,λv F1 H1 o1=>⟨F1,o1.x,a9O e2 (o1.rep.rd o1.x.fh)⟩⟩) λiv s2 ⟨y,H2,I2,ry,F2,x2,ey⟩=> ?_
  subst ey
  have dd:s2.heap.DictOf (m5 X.prog X.w) a kvs:=⟨_,es,ep,I2.kIn a _ l1,⟨rfl,rfl,rfl⟩,rfl,λe he=>(a0E l2 l3).2 e (by simpa using he),(a0E l2 l3).1,l5⟩
  exact⟨dd.typeIs,wpAny_getItem_of (a9N ry) dd.mapOf h1 ⟨vv,H2,I2.tok _,r1,k vv F2 H2 (w8.val x2 (r2 F2))⟩⟩
def keysOf:List PV->Υ (List k4)
 |[]=>ξ []
 |p::ps=>(b16 p).bind λk=>(keysOf ps).bind λks=>ξ (k::ks)
theorem T4{K:AD}{H:Hp}:∀{ps:List PV} {ks:List k4} {vs:List V},keysOf ps=ξ ks->m7 K H ps vs->vs=ks.map kV
 |[],_,_,h,r=>by cases h;cases r;rfl
 |p::ps,_,_,h,⟨v,t,e,rp,rl⟩=>by
  obtain⟨k,e1,h⟩:=bind_some h;obtain⟨ks,e2,h⟩:=bind_some h;cases h;subst e;rw [a9O e1 rp,T4 e2 rl]
  rfl
end
section
variable {X:Cx}
abbrev MT:=d5->Υ Bool
def tMT(K:AD)(c:MT):TT:=λσ H Q=>∃F ρ b,O4 K F H σ ρ/\c ρ=ξ b/\∀F' H',R5 F H F' H'->Q b H'
abbrev ET(X:Cx)(e:AO)(c:MT):Prop:=PT X e (tMT X.K c)
abbrev EW(X:Cx)(e:AO)(c:MT):Prop:=PW X e (tMT X.K c)
noncomputable def b2w:g5->Υ Bool
 | .v (.bool b)=>ξ b
 |_=>ζ
def tru(r:g5):Υ Bool:=match r.rd with
 | .bool b=>ξ b
 |_=>ζ
def mtV(m:M):MT:=λρ=>(m ρ).bind tru
def W4(m:M):MT:=λρ=>(m ρ).bind b2w
theorem m7.empty{K:AD}{H:Hp}{ps:List PV}{vs:List V}(r:m7 K H ps vs):vs.isEmpty=ps.isEmpty:=by
 cases ps with
 |nil=>cases r;rfl
 |cons p ps=>obtain⟨_,_,e,_⟩:=r;subst e;rfl
theorem c05{H:Hp}{r:g5}{v:V}{b:Bool}(h:A3 X.K H r.rd v)(e:tru r=ξ b):c1F X.K v H b:=by
 unfold tru at e;split at e
 ·rename_i hp;rw [hp] at h;cases e;exact h
 ·cases e
theorem S3(h:EE X e m)(he:∀whole,isTrue e X.env whole=(do let v<-whole;standAt e.pos;holding [v] (truthy v)):=by intro _;rfl):ET X e (mtV m):=
 b1i (b8W h he) λσ H Q h0=>u0 h0 λF ρ b h1 h2 k=>by
  obtain⟨r,e1,e2⟩:=bind_some h2;exact⟨F,ρ,r,h1,e1,λv F1 H1 o=>⟨b,c05 (o.rep.rd o.x.fh) e2,k F1 H1 o.x⟩⟩
theorem a46{K:AD}{F H:Hp}{r:g5}{v:V}{b:Bool}(h:M5 K F H v r)(e:b2w r=ξ b):v= .bl b:=by
 unfold b2w at e;split at e
 ·cases e;exact h
 ·cases e
theorem b3b{a b:AO}{ma mb:M}{pos:Pos}{op:CmpOp}{g:g5->g5->Υ g5}(ho:OpM X (compareOp op) g)(ha:EE X a ma)(hb:EE X b mb)(hm:behindInMarks op b=false):ET X (.Compare a [op] [b] pos) (W4 (m2 g ma mb)):=
 b1i (b4Q ho ha hb hm) λσ H Q h0=>u0 h0 λF ρ k h1 h2 q=>by
  obtain⟨r,e1,e2⟩:=bind_some h2;exact b1o ⟨F,ρ,r,h1,e1,λv F1 H1 o=>⟨k,a46 o.rep e2,q F1 H1 o.x⟩⟩
def W5(c:MT):MT:=λρ=>(c ρ).map not
theorem X5(ha:ET X a c):ET X (.UnaryOp .Not a pos) (W5 c):=
 b1i (c26 ha) λσ H Q h0=>u0 h0 λF ρ k h1 h2 q=>by
  unfold W5 at h2;cases e:c ρ with
  |none=>rw [e] at h2;cases h2
  |some b=>rw [e] at h2;cases h2;exact⟨F,ρ,b,h1,e,q⟩
def a82(c d:MT):MT:=λρ=>(c ρ).bind λb=>if b=true then ξ true else d ρ
theorem a5w(ha:ET X a c):EW X (.BoolOp .Or [a] pos) c:=c29 ha
theorem a6j(ha:ET X a c)(hb:EW X (.BoolOp .Or (b::rest) pos) d):EW X (.BoolOp .Or (a::b::rest) pos) (a82 c d):=
 c28 (c4f ha hb) λσ H Q h0=>u0 h0 λF ρ k h1 h2 q=>by
  obtain⟨b,e1,e2⟩:=bind_some h2;refine⟨F,ρ,b,h1,e1,λF1 H1 x=> ?_⟩;cases b with
  |false=>exact b5L ⟨F1,ρ,k,h1.ext x,e2,λF2 H2 y=>q F2 H2 (x.trans y)⟩
  |true=>cases e2;exact b5M (q F1 H1 x)
def b8b(m n:M):M:=λρ=>(m ρ).bind λr=>(b2w r).bind λb=>if b=true then n ρ else ξ (.v (.bool false))
def c32(m:M):M:=λρ=>(m ρ).bind λr=>(b2w r).bind λb=>ξ (.v (.bool (!b)))
theorem b28(h:EE X a m):EE X (.BoolOp op [a] pos) m:=c2W h
theorem b26{a b:AO}{rest:List AO}{m n:M}{pos:Pos}(ha:EE X a m)(hb:EE X (.BoolOp .And (b::rest) pos) n):EE X (.BoolOp .And (a::b::rest) pos) (b8b m n):=
 u5 (c2Q ha hb) λσ H Q h0=>u0 h0 λF ρ r h1 h2 q=>by
  obtain⟨r1,e1,h2⟩:=bind_some h2;obtain⟨b,e2,h2⟩:=bind_some h2;refine⟨F,ρ,r1,h1,e1,λv F1 H1 o=>⟨b,a46 o.rep e2, ?_⟩⟩;cases b with
  |true=>exact b5M ⟨F1,ρ,r,h1.ext o.x,h2,λw F2 H2 y=>q w F2 H2 (w8.trans o.x y)⟩
  |false=>cases h2;exact b5L (q _ F1 H1 (w8.val o.x rfl))
theorem c11{a:AO}{m:M}{pos:Pos}(ha:EE X a m):EE X (.UnaryOp .Not a pos) (c32 m):=
 u5 (c2V ha) λσ H Q h0=>u0 h0 λF ρ r h1 h2 q=>by
  obtain⟨r1,e1,h2⟩:=bind_some h2;obtain⟨b,e2,h2⟩:=bind_some h2;cases h2;exact⟨F,ρ,r1,h1,e1,λv F1 H1 o=>⟨b,a46 o.rep e2,q _ F1 H1 (w8.val o.x rfl)⟩⟩
end
inductive Fl where
 |nx (ρ:d5)|rt (r:g5)|bk (ρ:d5)|ct (ρ:d5)
abbrev MS:=d5->Υ Fl
structure SOk(K:AD)(F0 H0 F H:Hp)(σ:L2.St)(ρ:d5):Prop where
 x:R5 F0 H0 F H
 e:O4 K F H σ ρ
 nw:∀(i:Nat) (c:a0T) (a:AB),ρ[i]?=ξ (ξ (.ow c))->σ[i]?=ξ (ξ (.ref a))->H0 a=ζ
def Fin(K:AD)(F0 H0 F:Hp)(D:R8):Fl->Prop
 | .nx ρ=>∀σ' F' H',m3 F F'->SOk K F0 H0 F' H' σ' ρ->D.nx σ' H'
 | .rt r=>∀v F' H',w8 K F0 H0 F' H' v r->D.rt v H'
 | .bk ρ=>∀σ' F' H',m3 F F'->SOk K F0 H0 F' H' σ' ρ->D.bk σ' H'
 | .ct ρ=>∀σ' F' H',m3 F F'->SOk K F0 H0 F' H' σ' ρ->D.ct σ' H'
theorem Fin.later{K:AD}{F0 H0 F F1:Hp}{D:R8}(s:m3 F F1):∀{fl:Fl},Fin K F0 H0 F D fl->Fin K F0 H0 F1 D fl
 | .nx _,h=>λσ' F' H' s' so=>h σ' F' H' (s.trans s') so
 | .rt _,h=>h
 | .bk _,h=>λσ' F' H' s' so=>h σ' F' H' (s.trans s') so
 | .ct _,h=>λσ' F' H' s' so=>h σ' F' H' (s.trans s') so
def tMS(K:AD)(m:MS):TS:=λD σ H=>∃F0 H0 F ρ fl,SOk K F0 H0 F H σ ρ/\m ρ=ξ fl/\Fin K F0 H0 F D fl
theorem D9{K:AD}{m:MS}{D:R8}{σ:L2.St}{H:Hp}{C:Prop}(h:tMS K m D σ H)(k:∀F0 H0 F ρ fl,SOk K F0 H0 F H σ ρ->m ρ=ξ fl->Fin K F0 H0 F D fl->C):C:=
 h.elim λa h=>h.elim λb h=>u0 h (k a b)
abbrev ES(X:Cx)(st:Stmt)(m:MS):Prop:=PS X st (tMS X.K m)
abbrev ESs(X:Cx)(st:List Stmt)(m:MS):Prop:=PSs X st (tMS X.K m)
theorem SOk.ext{K:AD}{F0 H0 F H F' H':Hp}{σ:L2.St}{ρ:d5}(s:SOk K F0 H0 F H σ ρ)(x:R5 F H F' H'):SOk K F0 H0 F' H' σ ρ:=⟨s.x.trans x,s.e.ext x,s.nw⟩
def g5.nb:g5->Bool
 | .bo _=>false
 |_=>true
theorem SOk.set{K:AD}{F0 H0 F H F' H':Hp}{σ:L2.St}{ρ:d5}{v:V}{r:g5}(s:SOk K F0 H0 F H σ ρ)(o:w8 K F H F' H' v r)(hb:r.nb=true)(i:Nat):SOk K F0 H0 F' H' (σ.set i (ξ v)) (ρ.set i (ξ r)):=by
 have s1:=s.ext o.x;have le:=s.e.len;refine⟨s1.x,⟨s1.e.fh,by simp [le],λj q e=> ?_,λj ps e=> ?_,λj k ps qs a hjk e1 e2 e3 e4=> ?_⟩,λj ps a e1 e2=> ?_⟩
 ·rw [List.getElem?_set] at e ⊢
  by_cases hij:i=j
  ·subst hij;rw [if_pos rfl] at e ⊢;rw [le];split at e
   ·rename_i c;cases e;rw [if_pos c];exact⟨v,rfl,o.rep⟩
   ·cases e
  ·rw [if_neg hij] at e ⊢;exact s1.e.at_ j q e
 ·rw [List.getElem?_set] at e
  by_cases hij:i=j
  ·subst hij;rw [if_pos rfl] at e;split at e
   ·cases e;cases hb
   ·cases e
  ·rw [if_neg hij] at e;exact s1.e.nb j ps e
 ·rw [List.getElem?_set] at e1 e2 e3 e4
  by_cases hij:i=j
  ·subst hij;rw [if_pos rfl] at e1 e3;rw [if_neg hjk] at e2 e4;split at e1
   ·cases e1;split at e3
    ·cases e3;have fr:=o.fr ps a rfl rfl;obtain⟨w,h1,rr⟩:=s.e.at_ k _ e2;obtain⟨a',xs,h2,_,h3⟩:=a2h.at_ rr;rw [e4] at h1;cases h1;cases h2;rw [fr] at h3;cases h3
    ·cases e3
   ·cases e1
  ·rw [if_neg hij] at e1 e3
   by_cases hik:i=k
   ·subst hik;rw [if_pos rfl] at e2 e4;split at e2
    ·cases e2;split at e4
     ·cases e4;have fr:=o.fr qs a rfl rfl;obtain⟨w,h1,rr⟩:=s.e.at_ j _ e1;obtain⟨a',xs,h2,_,h3⟩:=a2h.at_ rr;rw [e3] at h1;cases h1;cases h2;rw [fr] at h3;cases h3
     ·cases e4
    ·cases e2
   ·rw [if_neg hik] at e2 e4;exact s1.e.ap j k ps qs a hjk e1 e2 e3 e4
 ·rw [List.getElem?_set] at e1 e2
  by_cases hij:i=j
  ·subst hij;rw [if_pos rfl] at e1 e2;split at e1
   ·cases e1;split at e2
    ·cases e2;exact s.x.h.free (o.fr ps a rfl rfl)
    ·cases e2
   ·cases e1
  ·rw [if_neg hij] at e1 e2;exact s.nw j ps a e1 e2
section
def x4:MS:=λρ=>ξ (.nx ρ)
def k7(m n:MS):MS:=λρ=>(m ρ).bind λfl=>match fl with
 | .nx ρ'=>n ρ'
 |f=>ξ f
theorem u8:ESs X [] x4:=a66 b4O λD σ H h0=>D9 h0 λF0 H0 F ρ fl so e fin=>by
 cases e;exact fin σ F H (PU.m3.refl F) so
theorem d7{st:Stmt}{rest:List Stmt}{m n:MS}(h1:ES X st m)(h2:ESs X rest n):ESs X (st::rest) (k7 m n):=
 a66 (a45 h1 h2) λD σ H h0=>D9 h0 λF0 H0 F ρ fl so e fin=>by
  obtain⟨f1,e1,e⟩:=bind_some e;cases f1 with
  |nx ρ'=>exact⟨F0,H0,F,ρ,.nx ρ',so,e1,λσ' F' H' s so'=>⟨F0,H0,F',ρ',fl,so',e,fin.later s⟩⟩
  |rt r=>cases e;exact⟨F0,H0,F,ρ,_,so,e1,fin⟩
  |bk r=>cases e;exact⟨F0,H0,F,ρ,_,so,e1,fin⟩
  |ct r=>cases e;exact⟨F0,H0,F,ρ,_,so,e1,fin⟩
theorem f7{st:Stmt}{m:MS}(h1:ES X st m):ESs X [st] m:=b4P h1
def p9(i:Nat)(m:M):MS:=λρ=>(m ρ).bind λr=>if r.nb=true then ξ (.nx (ρ.set i (ξ r))) else ζ
theorem j5(hN:X.N.Nodup)(he:EE X e m)(hi:X.N[i]?=ξ x:=by rfl)(hx:Loc X.env.scope x:=by exact Or.inl rfl)(hs:swapsWith e (ξ (.Name x pos')) pos.line X.env=pure false:=by rfl)(hf:X.fn x=true\/X.env.scope.names.lookup x=ξ .local:=by first|exact .inl rfl|exact .inr rfl|assumption):
 ES X (.Assign [.Name x pos'] e pos) (p9 i m):=
 B0 (c23 hN hi hx he hs hf) λD σ H h0=>D9 h0 λF0 H0 F ρ fl so e fin=>by
  obtain⟨r,e1,e⟩:=bind_some e;split at e
  ·rename_i c;cases e;exact⟨F,ρ,r,so.e,e1,λv F' H' o=>fin _ F' H' o.x.f (so.set o c i)⟩
  ·cases e
def z7(m:M):MS:=λρ=>(m ρ).bind λr=>if r.nb=true then ξ (.rt r) else ζ
theorem m6(he:EE X e m):ES X (.Return (ξ e) pos) (z7 m):=
 B0 (b8S he) λD σ H h0=>D9 h0 λF0 H0 F ρ fl so e fin=>by
  obtain⟨r,e1,e⟩:=bind_some e;split at e
  ·rename_i c;cases e;exact⟨F,ρ,r,so.e,e1,λv F' H' o=>fin v F' H' (w8.trans so.x o)⟩
  ·cases e
def a1i(i:Nat):MS:=λρ=>match ρ[i]? with
 |some (ξ r)=>ξ (.rt r)
 |_=>ζ
theorem a0F(i:Nat)(h:PE X (.Name x p) (G9 i)):ES X (.Return (ξ (.Name x p)) pos) (a1i i):=
 B0 (b8S h) λD σ H h0=>D9 h0 λF0 H0 F ρ fl so e fin=>by
  unfold a1i at e;split at e
  ·rename_i r er;cases e;obtain⟨v,e1,rr⟩:=so.e.at_ i _ er;exact⟨v,e1,fin v F H ⟨so.x,rr,λps a z1 z2=>by subst z1;subst z2;exact so.nw i ps a er e1⟩⟩
  ·cases e
def L4(c:MT)(m n:MS):MS:=λρ=>(c ρ).bind λb=>if b=true then m ρ else n ρ
theorem B5(hc:ET X c mc)(ha:ESs X a m)(hb:ESs X b n):ES X (.If c a b pos) (L4 mc m n):=
 B0 (c1v hc ha hb) λD σ H h0=>D9 h0 λF0 H0 F ρ fl so e fin=>by
  obtain⟨b,e1,e⟩:=bind_some e;refine⟨F,ρ,b,so.e,e1,λF1 H1 x=> ?_⟩;cases b with
  |true=>exact b5M ⟨F0,H0,F1,ρ,fl,so.ext x,e,fin.later x.f⟩
  |false=>exact b5L ⟨F0,H0,F1,ρ,fl,so.ext x,e,fin.later x.f⟩
noncomputable def setAll:List (Υ α)->List Nat->List α->List (Υ α)
 |σ,i::is,x::xs=>setAll (σ.set i (ξ x)) is xs
 |σ,_,_=>σ
def b0L:List Nat->TGs
 |[]=>c3U
 |i::is=>c1r (a4K i) (b0L is)
theorem a5A:∀{is:List Nat} {xs:List V} {σ:L2.St} {H:Hp} {Q:L2.St->Hp->Prop},xs.length=is.length->Q (setAll σ is xs) H->b0L is xs σ H Q
 |[],[],_,_,_,_,q=>⟨rfl,q⟩
 |[],_::_,_,_,_,h,_=>by cases h
 |_::_,[],_,_,_,h,_=>by cases h
 |i::is,x::xs,σ,H,Q,h,q=>⟨x,xs,rfl,a5A (by simpa using h) q⟩
theorem SOk.setAll{K:AD}{F0 H0 F H:Hp}:∀{is:List Nat} {xs:List V} {ps:List PV} {σ:L2.St} {ρ:d5},SOk K F0 H0 F H σ ρ->m7 K F ps xs->SOk K F0 H0 F H (PU.setAll σ is xs) (PU.setAll ρ is (ps.map .v))
 |[],xs,ps,σ,ρ,s,r=>by
  have e1:PU.setAll σ [] xs=σ:=by cases xs<;>rfl
  have e2:PU.setAll ρ [] (ps.map g5.v)=ρ:=by cases ps<;>rfl
  rw [e1,e2];exact s
 |i::is,xs,[],σ,ρ,s,r=>by cases r;exact s
 |i::is,xs,p::ps,σ,ρ,s,⟨v,t,e,rp,rl⟩=>by
  subst e;exact SOk.setAll (is:=is) (s.set (w8.here s.e.fh rp) rfl i) rl
def c0s(is:List Nat)(m:M):MS:=λρ=>(m ρ).bind λr=>match r with
 | .v (.tuple ps)=>if ps.length=is.length then ξ (.nx (setAll ρ is (ps.map .v))) else ζ
 |_=>ζ
theorem b7q(hc:X.calm=true)(he:EE X e m)(hg:PGs X es (b0L is))
 (hn:(assignEach es X.env).length=is.length:=by rfl) (hst:(assignEach es X.env).findIdx? (·.1)=ζ:=by rfl)
 (hs:swapsWithSole [.Tuple es k tpos] e pos.line X.env=pure false:=by rfl) (hw:swappedStores [.Tuple es k tpos] e X.env=pure ζ:=by rfl)
 (h1:(assignEach [.Tuple es k tpos] X.env).map (·.2)=[assign (.Tuple es k tpos) X.env]:=by rfl):ES X (.Assign [.Tuple es k tpos] e pos) (c0s is m):=
 B0 (c20 he (a5T hc hg hn hst) hs hw h1) λD σ H h0=>D9 h0 λF0 H0 F ρ fl so e fin=>by
  obtain⟨r,e1,e⟩:=bind_some e;split at e
  ·rename_i ps;split at e
   ·rename_i c;cases e;refine⟨F,ρ,_,so.e,e1,λv F' H' o=> ?_⟩;obtain⟨a,xs,rfl,hq,rl⟩:=o.rep;have hl:xs.length=is.length:=by rw [rl.length];exact c
    exact⟨a,xs,rfl,C0 o.x.fh hq.sq,hl,a5A hl (fin _ F' H' o.x.f ((so.ext o.x).setAll rl))⟩
   ·cases e
  ·cases e
def x8(body:MS)(tg:PV->d5->Υ d5):List PV->d5->Υ Fl
 |[],ρ=>ξ (.nx ρ)
 |p::ps,ρ=>(tg p ρ).bind λρ1=>(body ρ1).bind λfl=>match fl with
  | .nx ρ'=>x8 body tg ps ρ'
  | .ct ρ'=>x8 body tg ps ρ'
  | .bk ρ'=>ξ (.nx ρ')
  | .rt r=>ξ (.rt r)
def g6(i:Nat):PV->d5->Υ d5:=λp ρ=>ξ (ρ.set i (ξ (.v p)))
def R7(is:List Nat):PV->d5->Υ d5:=λp ρ=>match p with
 | .tuple ps=>if ps.length=is.length then ξ (setAll ρ is (ps.map .v)) else ζ
 |_=>ζ
def a7l(K:AD)(g:TG)(tg:PV->d5->Υ d5):Prop:=
 ∀F0 H0 F H σ ρ ρ1 p x (Q:L2.St->Hp->Prop),SOk K F0 H0 F H σ ρ->A3 K F p x->tg p ρ=ξ ρ1->(∀σ',SOk K F0 H0 F H σ' ρ1->Q σ' H)->g x σ H Q
theorem n6{K:AD}(i:Nat):a7l K (a4K i) (g6 i):=λF0 H0 F H σ ρ ρ1 p x Q so r e k=>by
 cases e;exact k _ (so.set (w8.here so.e.fh r) rfl i)
theorem a28{K:AD}(is:List Nat):a7l K (c3V K is.length (b0L is)) (R7 is):=λF0 H0 F H σ ρ ρ1 p x Q so r e k=>by
 unfold R7 at e;split at e
 ·split at e
  ·rename_i c;cases e;obtain⟨a,xs,rfl,hq,rl⟩:=r;have hl:xs.length=is.length:=by rw [rl.length];exact c
   exact⟨a,xs,rfl,C0 so.e.fh hq.sq,hl,a5A hl (k _ (so.setAll rl))⟩
  ·cases e
 ·cases e
theorem a9I(h:x8 body tg (p::ps) ρ=ξ fl):∃ρ1 f1,tg p ρ=ξ ρ1/\body ρ1=ξ f1/\(match f1 with
 | .nx ρ'=>x8 body tg ps ρ'
 | .ct ρ'=>x8 body tg ps ρ'
 | .bk ρ'=>ξ (.nx ρ')
 | .rt r=>ξ (.rt r))=ξ fl:=by
 obtain⟨ρ1,e1,h⟩:=bind_some h
 obtain⟨f1,e2,h⟩:=bind_some h
 exact⟨ρ1,f1,e1,e2,h⟩
def PvL(K:AD)(F0 H0 F1:Hp)(body:MS)(tg:PV->d5->Υ d5)(ps:List PV)(fl:Fl)(k:Nat)(σ:L2.St)(H:Hp):Prop:=
 ∃F ρ,m3 F1 F/\SOk K F0 H0 F H σ ρ/\x8 body tg (ps.drop k) ρ=ξ fl
theorem a5I{K:AD}{F0 H0 F1:Hp}{body:MS}{tg:PV->d5->Υ d5}{g:TG}{ps:List PV}{fl:Fl}{D:R8}{k:Nat}{p:PV}{x:V}{σ:L2.St}{H:Hp}(T:a7l K g tg)(fin:Fin K F0 H0 F1 D fl)(ep:ps[k]?=ξ p)
 (hp:PvL K F0 H0 F1 body tg ps fl k σ H) (rx:∀F,m3 F1 F->A3 K F p x):
 g x σ H λσ2 H2=>tMS K body {D with nx:=PvL K F0 H0 F1 body tg ps fl (k+1),ct:=PvL K F0 H0 F1 body tg ps fl (k+1),bk:=D.nx} σ2 H2:=by
 obtain⟨F,ρ,s,so,e⟩:=hp
 have hk:=(Al.mp ep).1
 have hd:ps.drop k=p::ps.drop (k+1):=by
  rw [List.drop_eq_getElem_cons hk]
  congr 1
  exact(Al.mp ep).2
 rw [hd] at e
 obtain⟨ρ1,f1,e1,e2,e3⟩:=a9I e
 refine T F0 H0 F H σ ρ ρ1 p x _ so (rx F s) e1 λσ' so'=>⟨F0,H0,F,ρ1,f1,so',e2, ?_⟩
 cases f1 with
 |nx ρ'=>exact λσ2 F2 H2 s2 so2=>⟨F2,ρ',s.trans s2,so2,e3⟩
 |ct ρ'=>exact λσ2 F2 H2 s2 so2=>⟨F2,ρ',s.trans s2,so2,e3⟩
 |bk ρ'=>cases e3;exact λσ2 F2 H2 s2 so2=>fin σ2 F2 H2 (s.trans s2) so2
 |rt r=>cases e3;exact fin
theorem a4S{K:AD}{F0 H0 F1:Hp}{body:MS}{tg:PV->d5->Υ d5}{ps:List PV}{fl:Fl}{D:R8}{σ:L2.St}{H:Hp}(fin:Fin K F0 H0 F1 D fl)
 (hp:PvL K F0 H0 F1 body tg ps fl ps.length σ H):D.nx σ H:=by
 obtain⟨F,ρ,s,so,e⟩:=hp
 rw [List.drop_length] at e
 cases e
 exact fin σ F H s so
abbrev MI:=d5->Υ (List PV)
def O1(m:M):MI:=λρ=>((m ρ).bind g5.toVal).bind PyData.items?
def c4K(K:AD)(tl:TE):TI:=λσ H R=>tl σ H λx H1=>∃a,x= .ref a/\(((∃xs,SqL K H1 a xs)/\R (Itl K a) H1)\/((∃xs,SqT K H1 a xs)/\R (Itt K a) H1))
theorem b8O(hl:PE X l tl):PI X tg l (c4K X.K tl):=by
 intro pins s σ H R I h;refine E2 (hl pins s σ H _ I h) λv s1 h0=>o0 h0 λx H1 I1 r1 q1=> ?_;obtain⟨a,e,q⟩:=q1;subst e;cases r1;rcases q with⟨⟨xs,hq⟩,q⟩|⟨⟨xs,hq⟩,q⟩
 ·obtain⟨its,rv,p,hz⟩:=I1.list hq;refine wpAny_pyIter_list p.isList ?_;refine⟨s1.heap.objs.size,[s1.heap.objs.size],_,_,H1,rfl,I1.kept (t':=s1.toks) λb o e=>AY _ e,b6w a _,⟨_,Ao _ rfl,rfl,rfl⟩,λb hb=> ?_,q⟩;have e:b=s1.heap.objs.size:=by simpa using hb
  subst e;exact I1.fpOk (AM _) (I1.hok.fresh (AM _))
 ·obtain⟨its,rv,p,hz⟩:=I1.tuple hq;refine wpAny_pyIter_tuple (show s1.heap.IsTuple a its.toArray from p) ?_;refine⟨s1.heap.objs.size,[s1.heap.objs.size],_,_,H1,rfl,I1.kept (t':=s1.toks) λb o e=>AY _ e,b3V a _,⟨_,Ao _ rfl,rfl,rfl⟩,λb hb=> ?_,q⟩;have e:b=s1.heap.objs.size:=by simpa using hb
  subst e;exact I1.fpOk (AM _) (I1.hok.fresh (AM _))
def K5(it:MI)(tg:PV->d5->Υ d5)(body:MS):MS:=λρ=>(it ρ).bind λps=>x8 body tg ps ρ
theorem S2{tg iter:AO}{body:List Stmt}{m:M}{g:TG}{t:PV->d5->Υ d5}{b:MS}{pos:Pos}(hp:PassesOwn (model X.prog X.w) X.A X.env X.xe)(hc:X.calm=true)(hi:EE X iter m)(hg:PG X tg g)(T:a7l X.K g t)(hb:ESs X body b)
 (hs:∀x,foldedSetIterable iter X.env x=pure x:=by intro _;rfl):ES X (.For tg iter body [] pos) (K5 (O1 m) t b):=
 B0 (b1h hp hc (b8O hi) hg hb hs) λD σ H h0=>D9 h0 λF0 H0 F ρ fl so e fin=>by
  obtain⟨ps,e1,e⟩:=bind_some e;obtain⟨q,e1,e2⟩:=bind_some e1;obtain⟨r,e1,e3⟩:=bind_some e1;refine⟨F,ρ,r,so.e,e1,λv F' H' o=> ?_⟩;obtain⟨F1,o1⟩:=o.toVal e3;have fin1:=fin.later o1.x.f;have so1:=so.ext o1.x;obtain⟨a,xs,rfl,hq,rl⟩:=G5 (PU.m3.refl F1) (show M5 X.K F1 F1 v (.v q) from o1.rep) e2;have hlen:=rl.length;have get:∀k x,xs[k]?=ξ x->∃p,ps[k]?=ξ p/\∀F,m3 F1 F->A3 X.K F p x:=λk x ex=>by
   obtain⟨p,ep,rp⟩:=rl.getV ex;exact⟨p,ep,λF s=>A3.mono s _ rp⟩
  rcases hq with hq|hq
  ·refine⟨a,rfl,.inl ⟨⟨xs,B9 o1.x.fh hq⟩,b7v (PvL X.K F0 H0 F1 b t ps fl) ⟨F1,ρ,PU.m3.refl F1,so1,e⟩ (λk σ H _ ⟨F,_,s,so2,_⟩=>B9 (s.trans so2.e.fh) hq) (λk x σ H ex hp=> ?_) (λσ H hp=> ?_)⟩⟩
   ·obtain⟨p,ep,rp⟩:=get k x ex;exact a5I T fin1 ep hp rp
   ·rw [hlen] at hp;exact a4S fin1 hp
  ·refine⟨a,rfl,.inr ⟨⟨xs,C0 o1.x.fh hq⟩,b96 (PvL X.K F0 H0 F1 b t ps fl) ⟨F1,ρ,PU.m3.refl F1,so1,e⟩ (λk σ H _ ⟨F,_,s,so2,_⟩=>C0 (s.trans so2.e.fh) hq) (λk x σ H ex hp=> ?_) (λσ H hp=> ?_)⟩⟩
   ·obtain⟨p,ep,rp⟩:=get k x ex;exact a5I T fin1 ep hp rp
   ·rw [hlen] at hp;exact a4S fin1 hp
def J9(lo hi:Int):List PV:=(AK (hi - lo).toNat).map λk=> .int (lo+(k:Nat))
theorem b7J:∃f:Int->Bool,∀j,f j=decide (-(2 ^ 62)<=j/\j<2 ^ 62):=⟨_,λ_=>rfl⟩
def inR:Int->Bool:=b7J.choose
theorem c2h(j:Int):inR j=decide (-(2 ^ 62)<=j/\j<2 ^ 62):=b7J.choose_spec j
theorem b0Q:inR j=true↔(-(2 ^ 62)<=j/\j<2 ^ 62):=by rw [c2h,decide_eq_true_iff]
def u9(m:MA):MI:=λρ=>(m ρ).bind λps=>match ps with
 |[.int j]=>if inR j=true then ξ (J9 0 j) else ζ
 |_=>ζ
theorem a8q{lo hi:Int}{k:Nat}(h:k<(hi - lo).toNat):(J9 lo hi)[k]?=ξ (.int (lo+k)):=by
 simp [J9,h]
theorem Q9(lo hi:Int):(J9 lo hi).length=(hi - lo).toNat:=by simp [J9]
theorem C8{tg a:AO}{body:List Stmt}{m:MA}{g:TG}{t:PV->d5->Υ d5}{b:MS}{p rp pos:Pos}(hp:PassesOwn (model X.prog X.w) X.A X.env X.xe)(hc:X.calm=true)(hgl:Gl X "range")(hm:X.mg "range"=ζ)(ha:EA X [a] m)(hg:PG X tg g)(T:a7l X.K g t)(hb:ESs X body b)
 (hst:AJ [a] X.env=[(false,eval a X.env)]:=by rfl) (hs:∀x,foldedSetIterable (.Call (.Name "range" p) [a] [] rp) X.env x=pure x:=by intro _;rfl):ES X (.For tg (.Call (.Name "range" p) [a] [] rp) body [] pos) (K5 (u9 m) t b):=
 B0 (b1h hp hc (a94 hgl hm ha hst) hg hb hs) λD σ H h0=>D9 h0 λF0 H0 F ρ fl so e fin=>by
  obtain⟨ps,e1,e⟩:=bind_some e;obtain⟨qs,e1,e2⟩:=bind_some e1;refine⟨F,ρ,qs,so.e,e1,λvs F1 H1 x rl=> ?_⟩;split at e2
  ·rename_i j;split at e2
   ·rename_i c;have c:=b0Q.mp c;cases e2;obtain⟨v,r,rfl,rv,rr⟩:=rl;cases rv;cases rr;have fin1:=fin.later x.f;have hz:(j - 0).toNat=j.toNat:=by lia
    refine⟨j,rfl,c.1,c.2,b5C (PvL X.K F0 H0 F1 b t (J9 0 j) fl) ⟨F1,ρ,PU.m3.refl F1,so.ext x,e⟩ (λk σ H hk hp=> ?_) (λσ H hp=> ?_)⟩
    ·exact a5I T fin1 (a8q (by lia)) hp λ_ _=>rfl
    ·have:j.toNat=(J9 0 j).length:=by rw [Q9,hz]
     rw [this] at hp;exact a4S fin1 hp
   ·cases e2
  ·cases e2
def U1(c:MT)(body:MS):Nat->d5->Υ Fl
 |0,_=>ζ
 |n+1,ρ=>(c ρ).bind λb=>if b=true then(body ρ).bind λfl=>match fl with
  | .nx ρ'=>U1 c body n ρ'
  | .ct ρ'=>U1 c body n ρ'
  | .bk ρ'=>ξ (.nx ρ')
  | .rt r=>ξ (.rt r) else ξ (.nx ρ)
theorem b10(n:Nat)(hp:PassesOwn (model X.prog X.w) X.A X.env X.xe)(hc:ET X c mc)(hb:ESs X body b):ES X (.While c body [] pos) (U1 mc b n):=
 B0 (b8T hp hc hb) λD σ H h0=>D9 h0 λF0 H0 F ρ fl so e fin=>by
  refine⟨λk σ H=>∃F1 ρ,m3 F F1/\SOk X.K F0 H0 F1 H σ ρ/\U1 mc b k ρ=ξ fl,⟨n,F,ρ,PU.m3.refl F,so,e⟩, ?_⟩;rintro k σ H ⟨F1,ρ,s,so,e⟩;cases k with
  |zero=>cases e
  |succ k=>
   obtain⟨d,e1,e⟩:=bind_some e;refine⟨F1,ρ,d,so.e,e1,λF2 H2 x=> ?_⟩;have s2:=s.trans x.f;cases d with
   |true=>
    rw [if_pos rfl] at e;obtain⟨f1,e2,e⟩:=bind_some e;refine b5M ⟨λσ' H'=>∃F1 ρ,m3 F F1/\SOk X.K F0 H0 F1 H' σ' ρ/\U1 mc b k ρ=ξ fl,λσ' H' h=>⟨k,Nat.lt_succ_self k,h⟩,⟨F0,H0,F2,ρ,f1,so.ext x,e2, ?_⟩⟩;cases f1 with
    |nx ρ'=>exact λσ3 F3 H3 s3 so3=>⟨F3,ρ',s2.trans s3,so3,e⟩
    |ct ρ'=>exact λσ3 F3 H3 s3 so3=>⟨F3,ρ',s2.trans s3,so3,e⟩
    |bk ρ'=>cases e;exact λσ3 F3 H3 s3 so3=>fin σ3 F3 H3 (s2.trans s3) so3
    |rt r=>cases e;exact fin
   |false=>
    rw [if_neg As] at e;cases e;exact b5L (fin σ F2 H2 s2 (so.ext x))
def C3(n:Nat)(body:MS)(ps:List PV):Υ g5:=(body (ps.map (λp=>ξ (g5.v p))++Aq n ζ)).bind λfl=>match fl with
 | .rt r=>ξ r
 | .nx _=>ξ (.v .none)
 |_=>ζ
end
theorem b2F{K:AD}{F H:Hp}{ps:List PV}{vs:List V}(n:Nat)(s:m3 F H)(r:m7 K F ps vs):SOk K F H F H (vs.map ξ++Aq n ζ) (ps.map (λp=>ξ (g5.v p))++Aq n ζ):=by
 have hl:=r.length;have key:∀(i:Nat) (q:g5),(ps.map (λp=>ξ (g5.v p))++Aq n ζ)[i]?=ξ (ξ q)->∃p v,q= .v p/\(vs.map ξ++Aq n ζ)[i]?=ξ (ξ v)/\A3 K F p v:=by
  intro i q e
  by_cases h:i<ps.length
  ·rw [BC (by simpa using h),Ak] at e
   rw [BC (by rw [AN,hl];exact h),Ak]
   cases q':ps[i]? with
   |none=>rw [q'] at e;cases e
   |some p=>
    rw [q'] at e;cases e;obtain⟨v,h1,h2⟩:=r.get q';exact⟨p,v,rfl,by rw [h1];rfl,h2⟩
  ·rw [List.getElem?_append_right (by simpa using h),List.getElem?_replicate] at e
   split at e<;>cases e
 refine⟨R5.refl s,⟨s,by simp [hl],λi q e=> ?_,λi qs e=> ?_,λi j qs _ a _ e=> ?_⟩,λi qs a e=> ?_⟩
 ·obtain⟨p,v,rfl,h1,h2⟩:=key i q e;exact⟨v,h1,h2⟩
 ·obtain⟨p,v,z,_⟩:=key i _ e;cases z
 ·obtain⟨p,v,z,_⟩:=key i _ e;cases z
 ·obtain⟨p,v,z,_⟩:=key i _ e;cases z
theorem c1q{P:AS}{w:AL}{K:AD}{mg:Str->Υ AA}{base:Heap}{x qual:Str}{st:Stmt}{f:AB}{fd:FuncData}{N ps:List Str}{k:Nat}{m:MS}(F:Fun K x qual st f fd)(S:j6 N ps (f6 st))
 (hb:∀(cdv:AA) (A:AU) (outer:List Env) (s:AE) (H:Hp) (E:XK),G8 k (A.deeper (envOfC qual (f6 st) s.heap.objs.size f cdv))->ESs (a2w CX0 P w K mg base N qual (f6 st) f cdv A outer s H E).nox (B2 st) m):
 R3 P w K mg base CX0 (k+1) f fd ps (spP K ps.length (C3 (N.length - ps.length) m)):=by
 refine F.ok S (λvs H Q E h=> ?_) (λcdv A outer s H vs Q E hr h=> ?_)
 ·obtain⟨_,qs,_,_,r,h2,_⟩:=h
  rw [r.length,h2]
 ·obtain⟨F1,qs,r,s1,rl,hl,e,k⟩:=h
  refine⟨_,hb cdv A outer s H E hr, ?_⟩
  obtain⟨fl,e1,e2⟩:=bind_some e
  have hv:vs.length=ps.length:=by rw [rl.length,hl]
  refine⟨F1,H,F1,_,fl, ?_,e1, ?_⟩
  ·have:=b2F (N.length - ps.length) s1 rl
   unfold L2.a2a
   rw [hv]
   exact this
  ·cases fl with
   |rt q=>cases e2;exact λv F' H' o=>k v F' H' o
   |nx ρ=>cases e2;exact λσ' F' H' _ so=>k .non F' H' (w8.val so.x rfl)
   |bk ρ=>cases e2
   |ct ρ=>cases e2
section
variable {X:Cx}
def rC1(K:AD)(g:g5->Υ g5):List V->Hp->VK->Prop:=λxs H Q=>∃F x rx rz,xs=[x]/\m3 F H/\M5 K F H x rx/\g rx=ξ rz/\∀v F' H',w8 K F H F' H' v rz->Q v H'
def rC2(K:AD)(g:g5->g5->Υ g5):List V->Hp->VK->Prop:=λxs H Q=>∃F x y rx ry rz,xs=[x,y]/\m3 F H/\M5 K F H x rx/\M5 K F H y ry/\g rx ry=ξ rz/\∀v F' H',w8 K F H F' H' v rz->Q v H'
def m1(g:g5->Υ g5)(m:M):M:=λρ=>(m ρ).bind g
theorem b8y(h:tM X.K (m1 g m) σ H Q):tCB (rC1 X.K g) (b2H (tM X.K m) c0Z) σ H Q:=by
 obtain⟨F,ρ,r,he,hm,k⟩:=h;obtain⟨rx,e1,hm⟩:=bind_some hm;exact⟨F,ρ,rx,he,e1,λv F1 H1 o1=>⟨F1,v,rx,r,rfl,o1.x.fh,o1.rep,hm,λz F2 H2 o2=>k z F2 H2 (w8.trans o1.x o2)⟩⟩
theorem c06(h:tM X.K (m2 g m n) σ H Q):tCB (rC2 X.K g) (b2H (tM X.K m) (b2H (tM X.K n) c0Z)) σ H Q:=by
 obtain⟨F,ρ,r,he,hm,k⟩:=h;obtain⟨rx,e1,hm⟩:=bind_some hm;obtain⟨ry,e2,hm⟩:=bind_some hm;exact⟨F,ρ,rx,he,e1,λv F1 H1 o1=>⟨F1,ρ,ry,he.ext o1.x,e2,λu F2 H2 o2=>⟨F2,v,u,rx,ry,r,rfl,o2.x.fh,o1.rep.ext o2.x,o2.rep,hm,λz F3 H3 o3=>k z F3 H3 (w8.trans (o1.x.trans o2.x) o3)⟩⟩⟩
theorem B3{id:String}{x:Str}{p pos:Pos}{e:AO}{g:g5->Υ g5}{m:M}(hc:E4 X (.builtin id) (rC1 X.K g))(hg:Gl X x)(hm:X.mg x=ζ)(hv:bootBuiltins x=ξ (.builtin id))(ha:EE X e m)(hn:x≠"__name__":=by decide)(hdb:Δ x:=by decide)
 (he:AJ [e] X.env=(false,eval e X.env)::AJ [] X.env:=by rfl) (hpl:(backTo pos (AJ [] X.env)).any (·.1)=false:=by rfl):EE X (.Call (.Name x p) [e] [] pos) (m1 g m):=
 u5 (a2V hc hg hm hv (y0 ha O3 he) hn hdb he hpl) λ_ _ _ h=>b8y h
theorem b4d{id:String}{x:Str}{p pos:Pos}{e e2:AO}{g:g5->g5->Υ g5}{m n:M}(hc:E4 X (.builtin id) (rC2 X.K g))(hg:Gl X x)(hm:X.mg x=ζ)(hv:bootBuiltins x=ξ (.builtin id))(ha:EE X e m)(hb:EE X e2 n)(hn:x≠"__name__":=by decide)(hdb:Δ x:=by decide)
 (he:AJ [e,e2] X.env=(false,eval e X.env)::AJ [e2] X.env:=by rfl) (he2:AJ [e2] X.env=(false,eval e2 X.env)::AJ [] X.env:=by rfl) (hpl:(backTo pos (AJ [e2] X.env)).any (·.1)=false:=by rfl):EE X (.Call (.Name x p) [e,e2] [] pos) (m2 g m n):=
 u5 (a2V hc hg hm hv (y0 ha (y0 hb O3 he2) he) hn hdb he hpl) λ_ _ _ h=>c06 h
theorem a9H(hc:E4 X (.type T) (rC1 X.K g))(hg:Gl X x)(hm:X.mg x=ζ)(hv:bootBuiltins x=ξ (.type T))(ha:EE X e m)(hn:x≠"__name__":=by decide)(hdb:Δ x:=by decide)
 (he:AJ [e] X.env=(false,eval e X.env)::AJ [] X.env:=by rfl) (hpl:(backTo pos (AJ [] X.env)).any (·.1)=false:=by rfl):EE X (.Call (.Name x p) [e] [] pos) (m1 g m):=
 u5 (a5S hc hg hm hv (y0 ha O3 he) hn hdb he hpl) λ_ _ _ h=>b8y h
def z9(x:g5):Υ g5:=match x.rd with
 | .str z=>if z.length<=AQ then ξ (.v (.int z.length)) else ζ
 |p=>match PyData.items? p with
  |some ps=>ξ (.v (.int ps.length))
  |none=>ζ
theorem A6:E4 X (.builtin "len") (rC1 X.K z9):=by
 ext b
 unfold z9 at h2;split at h2
 ·rename_i z ez;split at h2
  ·rename_i c;cases h2;have rr:=h1.rd s0;rw [ez] at rr;cases rr;exact b0t pins s σ H _ us Q I rv ⟨z,rfl,c,k _ F H (w8.here s0 rfl)⟩
  ·cases h2
 ·split at h2
  ·rename_i ps e;cases h2;obtain⟨a,xs,rfl,hq,r⟩:=G5 s0 h1 e;refine b0s pins s σ H _ us Q I rv ⟨a,xs,rfl,hq, ?_⟩;rw [r.length];exact k _ F H (w8.here s0 rfl)
  ·cases h2
theorem b65(hc:X.calm=true):E4 X (.builtin "min") (rC2 X.K (gI λi j=> .int (if j<i then j else i))):=by
 intro pins s σ H xs us Q I rv h;obtain⟨F,x,y,rx,ry,rz,rfl,s0,h1,h2,h3,k⟩:=h;obtain⟨i,j,rfl,rfl,rfl⟩:=b4q h3;cases h1;cases h2;exact b5g hc pins s σ H _ us Q I rv ⟨i,j,rfl,k _ F H (w8.here s0 rfl)⟩
def X6(x:g5):Υ g5:=match PyData.items? x.rd with
 |some ps=>ξ (.v (.tuple ps))
 |none=>ζ
theorem b5N(s0:m3 F H)(h:M5 X.K F H v r)(e:PyData.items? r.rd=ξ ps):∃a xs,v= .ref a/\(SqL X.K H a xs\/(SqT X.K H a xs/\A3 X.K F (.tuple ps) v))/\m7 X.K F ps xs:=by
 cases r with
 |v p=>
  cases p with
  |list qs=>cases e;obtain⟨a,xs,rfl,hq,r⟩:=h;exact⟨a,xs,rfl,.inl (B9 s0 hq),r⟩
  |tuple qs=>cases e;obtain⟨a,xs,rfl,hq,r⟩:=h;exact⟨a,xs,rfl,.inr ⟨C0 s0 hq.sq,⟨a,xs,rfl,hq,r⟩⟩,r⟩
  |_=>cases e
 |ow c=>cases c<;>cases e;obtain⟨a,xs,rfl,_,hq,r⟩:=h;exact⟨a,xs,rfl,.inl (SqL.of hq),r⟩
 |bo c=>cases c<;>cases e;obtain⟨a,xs,rfl,_,hq,r⟩:=h;exact⟨a,xs,rfl,.inl (SqL.of hq),r⟩
theorem a2v:E4 X (.type "tuple") (rC1 X.K X6):=by
 ext b
 unfold X6 at h2;split at h2
 ·rename_i ps e;cases h2;obtain⟨a,xs,rfl,hq,r⟩:=b5N s0 h1 e;refine a8U pins s σ H _ us Q I rv ⟨a,xs,rfl, ?_⟩;rcases hq with hq|⟨hq,rp⟩
  ·exact .inl ⟨hq,λl hl=>k _ _ _ (w8.tup s0 hl r)⟩
  ·exact .inr ⟨hq,k _ F H (w8.here s0 rp)⟩
 ·cases h2
def b7C(x:g5):Υ g5:=match PyData.items? x.rd with
 |some ps=>ξ (.own ps)
 |none=>ζ
theorem b9R:E4 X (.type "list") (rC1 X.K b7C):=by
 ext b
 unfold b7C at h2;split at h2
 ·rename_i ps e;cases h2;obtain⟨a,xs,rfl,hq,r⟩:=G5 s0 h1 e;exact b0u pins s σ H _ us Q I rv ⟨a,xs,rfl,hq,λl hl=>k _ _ _ (w8.lst s0 hl r)⟩
 ·cases h2
noncomputable def kindOf:PV->String
 | .none=>"NoneType"
 | .bool _=>"bool"
 | .int _=>"int"
 | .str _=>"str"
 | .list _=>"list"
 | .tuple _=>"tuple"
 | .dict _=>"dict"
def X7(T:String)(p:PV):Bool:=kindOf p==T||(kindOf p=="bool" && T=="int")
def isFn:PV->Bool
 | .dict ((.str _,_)::_)=>true
 |_=>false
def a4H(T:String)(x:g5):Υ g5:=bif isFn x.rd then ζ else ξ (.v (.bool (X7 T x.rd)))
def b6F(T:String):Prop:=T="int"\/T="bool"\/T="str"\/T="list"\/T="tuple"\/T="dict"
theorem b5S{K:AD}{T:String}(h:b6F T):∀p:PV,PySem.W.kitOne K (.type (kindOf p)) (.type T)=ξ (X7 T p):=by
 intro p;rcases h with rfl|rfl|rfl|rfl|rfl|rfl<;>cases p<;>kernel_rfl
theorem a01{T:String}{e:AO}{m:M}{p p2 pos:Pos}(kt:b6F T)(hg:Gl X "isinstance")(hm:X.mg "isinstance"=ζ)(ha:EE X e m)(hT:PE X (.Name (AR T) p2) (tC (.ty T)))
 (he:AJ [e,.Name (AR T) p2] X.env=(false,eval e X.env)::AJ [.Name (AR T) p2] X.env:=by rfl) (he2:AJ [.Name (AR T) p2] X.env=(false,eval (.Name (AR T) p2) X.env)::AJ [] X.env:=by rfl) (hpl:(backTo pos (AJ [.Name (AR T) p2] X.env)).any (·.1)=false:=by rfl)
 (hv:bootBuiltins "isinstance"=ξ (.builtin "isinstance"):=by rfl):
 EE X (.Call (.Name "isinstance" p) [e,.Name (AR T) p2] [] pos) (m1 (a4H T) m):=by
 have hc:E4 X (.builtin "isinstance") (λxs H Q=>∃F x rx,xs=[x,.ty T]/\m3 F H/\M5 X.K F H x rx/\isFn rx.rd=false/\Q (.bl (X7 T rx.rd)) H):=by
  intro pins s σ H xs us Q I rv h;obtain⟨F,x,rx,rfl,s0,h1,nf,q⟩:=h;obtain⟨u,u2,rfl,ru,ru2⟩:∃u1 u2,us=[u1,u2]/\m8 x u1/\m8 (.ty T) u2:=by
   cases rv with
   |cons p q=>
    cases q with
    |cons p' q'=>
     cases q';exact⟨_,_,rfl,p,p'⟩
  cases ru2;have rr:=h1.rd s0;have kk:=b5S (K:=X.K) kt rx.rd;have fin:∀tk,EP X pins σ Q (.bool (X7 T rx.rd)) {s with toks:=tk}:=λtk=>⟨.bl _,H,I.tok tk,rfl,q⟩
  cases hp:rx.rd with
  |none=>rw [hp] at rr kk fin;cases rr;cases ru;exact PySem.W.kia_one PySem.W.kitx_none I.kIn True.intro kk (λz=>nomatch z) fin
  |bool b=>rw [hp] at rr kk fin;cases rr;cases ru;exact PySem.W.kia_one PySem.W.kitx_bool I.kIn True.intro kk (λz=>nomatch z) fin
  |int b=>rw [hp] at rr kk fin;cases rr;obtain⟨t,rfl⟩:=ru;exact PySem.W.kia_one PySem.W.kitx_int I.kIn True.intro kk (λz=>nomatch z) fin
  |str b=>rw [hp] at rr kk fin;cases rr;obtain⟨t,rfl⟩:=ru;exact PySem.W.kia_one PySem.W.kitx_str I.kIn True.intro kk (λz=>nomatch z) fin
  |list ps=>
   rw [hp] at rr kk fin;obtain⟨a,ys,rfl,hq,_⟩:=rr;cases ru;obtain⟨its,_,⟨o,n,e1,e2,_⟩,_⟩:=I.list hq;exact PySem.W.kia_one PySem.W.kitx_list I.kIn ⟨o,e1,e2⟩ kk (λz=>nomatch z) fin
  |tuple ps=>
   rw [hp] at rr kk fin;obtain⟨a,ys,rfl,hq,_⟩:=rr;cases ru;obtain⟨its,_,⟨o,e1,e2,_⟩,_⟩:=I.tuple hq.sq;exact PySem.W.kia_one PySem.W.kitx_tuple I.kIn ⟨o,e1,e2⟩ kk (λz=>nomatch z) fin
  |dict ps=>
   rw [hp] at rr kk fin nf;rcases rr with⟨a,_,rfl,hq,_⟩|⟨a,_,rfl,hq,_⟩|⟨x,_,rfl,_⟩|⟨x,m,fs,_,hf⟩
   ·ext af
   ·ext af
   ·cases nf
   ·cases ps with
    |nil=>cases hf
    |cons f ps=>obtain⟨k,p⟩:=f;obtain⟨_,_,_,_,z,_⟩:=hf;subst z;cases nf
 exact u5 (a2V hc hg hm hv (y0 ha (y0 hT O3 he2) he) (by decide) (by decide) he hpl) λσ H Q h0=>u0 h0 λF ρ r h1 h2 k=>by
  obtain⟨rx,e1,h2⟩:=bind_some h2;unfold a4H at h2;cases nf:isFn rx.rd with
  |true=>rw [nf] at h2;cases h2
  |false=>
   rw [nf] at h2;cases h2;exact⟨F,ρ,rx,h1,e1,λv F1 H1 o=>⟨F1,v,rx,rfl,o.x.fh,o.rep,nf,k _ F1 H1 (w8.val o.x rfl)⟩⟩
theorem SOk.putC{K:AD}{F0 H0 F H:Hp}{σ:L2.St}{ρ:d5}{i:Nat}{c d:a0T}{a:AB}{o:HO}(s:SOk K F0 H0 F H σ ρ)(e:ρ[i]?=ξ (ξ (.ow c)))(ea:σ[i]?=ξ (ξ (.ref a)))(r:F a=ζ->a2h K F (n5 H a o) (.ref a) d):
 SOk K F0 H0 F (n5 H a o) σ (ρ.set i (ξ (.ow d))):=by
 obtain⟨v,h1,rr0⟩:=s.e.at_ i _ e
 obtain⟨a',xs,rfl,fa,ha⟩:=a2h.at_ rr0
 rw [ea] at h1;cases h1
 have na:=s.nw i c a e ea
 have hi:=(Al.mp e).1
 refine⟨⟨s.x.f,λb o z=>by rw [f9 (j8 z na)];exact s.x.h _ _ z,λb o z=>by rw [f9 (j8 z fa)];exact s.x.fh _ _ z,s.x.nw,s.x.nf⟩,⟨λb o z=>by rw [f9 (j8 z fa)];exact s.e.fh _ _ z,by simp [s.e.len],λj q ej=> ?_,λj z ej=> ?_,λj k z1 z2 c' hjk e1 e2 e3 e4=> ?_⟩,λj z c' e1 e2=> ?_⟩
 ·rw [List.getElem?_set] at ej
  by_cases hij:i=j
  ·subst hij
   rw [if_pos rfl,if_pos hi] at ej
   cases ej
   exact⟨.ref a,ea,r fa⟩
  ·rw [if_neg hij] at ej
   obtain⟨v,h1,rr⟩:=s.e.at_ j q ej
   refine⟨v,h1, ?_⟩
   cases q with
   |v p=>exact rr
   |bo z=>exact absurd ej (s.e.nb j z)
   |ow z=>
    have key:∀b,v= .ref b->b≠a:=λb hb hab=>by subst hab;subst hb;exact s.e.ap i j c z b hij e ej ea h1
    cases z with
    |lst z=>
     obtain⟨b,zs,rfl,fb,hb,rz⟩:=rr
     exact⟨b,zs,rfl,fb,by rw [f9 (key b rfl)];exact hb,rz⟩
    |dct z=>
     obtain⟨b,zs,rfl,fb,hb,rz⟩:=rr
     exact⟨b,zs,rfl,fb,by rw [f9 (key b rfl)];exact hb,rz⟩
    |txt z=>
     obtain⟨b,zs,rfl,fb,hb,rz⟩:=rr
     exact⟨b,zs,rfl,fb,by rw [f9 (key b rfl)];exact hb,rz⟩
 ·rw [List.getElem?_set] at ej
  by_cases hij:i=j
  ·subst hij;rw [if_pos rfl,if_pos hi] at ej;cases ej
  ·rw [if_neg hij] at ej;exact s.e.nb j z ej
 ·have own_at:∀(j:Nat) (z:a0T),(ρ.set i (ξ (g5.ow d)))[j]?=ξ (ξ (g5.ow z))->∃z':a0T,ρ[j]?=ξ (ξ (g5.ow z')):=λj z h=>by
   rw [List.getElem?_set] at h
   by_cases hij:i=j
   ·subst hij;exact⟨c,e⟩
   ·rw [if_neg hij] at h;exact⟨z,h⟩
  obtain⟨y1,h1⟩:=own_at j z1 e1;obtain⟨y2,h2⟩:=own_at k z2 e2;exact s.e.ap j k y1 y2 c' hjk h1 h2 e3 e4
 ·rw [List.getElem?_set] at e1
  by_cases hij:i=j
  ·subst hij;rw [ea] at e2;cases e2;exact na
  ·rw [if_neg hij] at e1;exact s.nw j z c' e1 e2
theorem SOk.put{K:AD}{F0 H0 F H:Hp}{σ:L2.St}{ρ:d5}{i:Nat}{ps qs:List PV}{a:AB}{ys:List V}(s:SOk K F0 H0 F H σ ρ)(e:ρ[i]?=ξ (ξ (.own ps)))(ea:σ[i]?=ξ (ξ (.ref a)))(r:m7 K F qs ys):
 SOk K F0 H0 F (n5 H a (.lst ys)) σ (ρ.set i (ξ (.own qs))):=s.putC e ea λfa=>⟨a,ys,rfl,fa,g8,r⟩
theorem SOk.putT{K:AD}{F0 H0 F H:Hp}{σ:L2.St}{ρ:d5}{i:Nat}{ps qs:Γ}{a:AB}{ys:List (k4×V)}(s:SOk K F0 H0 F H σ ρ)(e:ρ[i]?=ξ (ξ (.ow (.txt ps))))(ea:σ[i]?=ξ (ξ (.ref a)))(r:v9 K F qs (ys.map s1)):
 SOk K F0 H0 F (n5 H a (.dK ys)) σ (ρ.set i (ξ (.ow (.txt qs)))):=s.putC e ea λfa=>⟨a,ys,rfl,fa,g8,r⟩
theorem SOk.putD{K:AD}{F0 H0 F H:Hp}{σ:L2.St}{ρ:d5}{i:Nat}{ps qs:Γ}{a:AB}{ys:List (List k4×V)}(s:SOk K F0 H0 F H σ ρ)(e:ρ[i]?=ξ (ξ (.dct ps)))(ea:σ[i]?=ξ (ξ (.ref a)))(r:v9 K F qs ys):
 SOk K F0 H0 F (n5 H a (.dT ys)) σ (ρ.set i (ξ (.dct qs))):=s.putC e ea λfa=>⟨a,ys,rfl,fa,g8,r⟩
noncomputable def J6(i:Nat)(m:M):MS:=λρ=>(m ρ).bind λr=>r.toVal.bind λp=>match ρ[i]? with
 |some (ξ (.ow (.lst ps)))=>if ps.length<AQ then ξ (.nx (ρ.set i (ξ (.own (ps++[p]))))) else ζ
 |_=>ζ
theorem O6(i:Nat){x:Str}{p apos cpos pos:Pos}{e:AO}{m:M}(hx:PE X (.Name x p) (G9 i))(ha:EE X e m)
 (hbase:attributeBase (.Name x p) "append" X.env (eval (.Name x p) X.env)=eval (.Name x p) X.env:=by rfl)
 (hfew:((backTo cpos (AJ [e] X.env)).all (λx=> !x.1)&&(backToKw cpos (keywordEach [] X.env)).all (λx=>x.1.isSome)
  && decide ([e].length+([]:List Keyword).length+(if([]:List Keyword).isEmpty then 0 else 1)<30))=true:=by rfl)
 (hline:(apos.endLine==cpos.line)=true:=by rfl) (hs:AJ [e] X.env=(false,eval e X.env)::AJ [] X.env:=by rfl) (hplain:(backTo cpos (AJ [] X.env)).any (·.1)=false:=by rfl)
 (hsw:swapsWith (.Call (.Attribute (.Name x p) "append" apos) [e] [] cpos) ζ pos.line X.env=pure false:=by rfl):
 ES X (.Expr (.Call (.Attribute (.Name x p) "append" apos) [e] [] cpos) pos) (J6 i m):=
 B0 (b1g (b8F PySem.F.plainAttrs_list PySem.F.slot_list_append PySem.F.type_list_append a90 hx (y0 ha O3 hs) hbase hfew hline hs hplain) hsw) λD σ H h0=>D9 h0 λF0 H0 F ρ fl so e fin=>by
  obtain⟨r,e1,e⟩:=bind_some e;obtain⟨q,e2,e⟩:=bind_some e;split at e
  ·rename_i ps eo;split at e
   ·rename_i c;cases e;obtain⟨v,h1,a,xs,rfl,fa,ha',rl⟩:=so.e.at_ i _ eo;refine⟨.ref a,h1,.inl ⟨rfl,xs,SqL.of ha'⟩,F,ρ,r,so.e,e1,λw F1 H1 o=> ?_⟩;obtain⟨F2,o2⟩:=o.toVal e2;have so2:=so.ext o2.x;refine⟨a,xs,w,rfl,rfl,o.x.h _ _ ha',by rw [rl.length];exact c, ?_⟩
    exact fin σ F2 _ o2.x.f (so2.put eo h1 ((m7.mono o2.x.f _ rl).append ⟨w,[],rfl,o2.rep,rfl⟩))
   ·cases e
  ·cases e
def b8c(i:Nat)(g:g5->g5->Υ g5)(m:M):MS:=λρ=>match ρ[i]? with
 |some (ξ (.v x))=>(m ρ).bind λy=>(g (.v x) y).bind λz=>if z.nb=true then ξ (.nx (ρ.set i (ξ z))) else ζ
 |_=>ζ
theorem c14(hN:X.N.Nodup)(he:EE X e m)(ho:OpM X (inplaceOp op) g)(hi:X.N[i]?=ξ x:=by rfl)(hx:Loc X.env.scope x:=by exact Or.inl rfl)(hf:X.fn x=true\/X.env.scope.names.lookup x=ξ .local:=by first|exact .inl rfl|exact .inr rfl|assumption):
 ES X (.AugAssign (.Name x pos') op e pos) (b8c i g m):=
 B0 (c21 hN hi hx he ho hf) λD σ H h0=>D9 h0 λF0 H0 F ρ fl so e fin=>by
  unfold b8c at e;split at e
  ·rename_i p ep;obtain⟨y,e1,e⟩:=bind_some e;obtain⟨z,e2,e⟩:=bind_some e;split at e
   ·rename_i c;cases e;obtain⟨v,h1,rv⟩:=so.e.at_ i _ ep;exact⟨v,h1,F,ρ,y,so.e,e1,λu F1 H1 o=>⟨F1,.v p,y,z,o.x.fh,rv.ext o.x,o.rep,e2,λt F2 H2 o2=>fin _ F2 H2 (o.x.f.trans o2.x.f) ((so.ext o.x).set o2 c i)⟩⟩
   ·cases e
  ·cases e
theorem b8B:OpM X (inplaceOp .Add) (gI λi j=> .int (i+j)):=c1u c0e λ_ _ _=>rfl
def a2b(i:Nat)(n:MS):MS:=λρ=>match ρ[i]? with
 |some (ξ (.ow (.lst ps)))=>n (ρ.set i (ξ (.v (.list ps))))
 |_=>n ρ
theorem SOk.frz{K:AD}{F0 H0 F H:Hp}{σ:L2.St}{ρ:d5}{i:Nat}{ps:List PV}(s:SOk K F0 H0 F H σ ρ)(e:ρ[i]?=ξ (ξ (.own ps))):∃F',m3 F F'/\SOk K F0 H0 F' H σ (ρ.set i (ξ (.v (.list ps)))):=by
 obtain⟨v,h1,a,xs,rfl,fa,ha,rl⟩:=s.e.at_ i _ e;have na:H0 a=ζ:=s.nw i _ a e h1;have hi:i<ρ.length:=(Al.mp e).1;have up:m3 F (n5 F a (.lst xs)):=B1 fa;have fh:m3 (n5 F a (.lst xs)) H:=λb o z=>by
  by_cases hb:b=a
  ·subst hb;rw [g8] at z;cases z;exact ha
  ·rw [f9 hb] at z;exact s.e.fh _ _ z
 refine⟨n5 F a (.lst xs),up,⟨⟨s.x.f.trans up,s.x.h,fh,λb o z y t=>by rw [f9 (j8 y na)];exact s.x.nw b o z y t,b8v s.x.nf⟩,⟨fh,by simp [s.e.len],λj q ej=> ?_,λj z ej=> ?_,λj k z1 z2 c hjk e1 e2 e3 e4=> ?_⟩,λj z c e1 e2=> ?_⟩⟩
 ·rw [List.getElem?_set] at ej
  by_cases hij:i=j
  ·subst hij;rw [if_pos rfl,if_pos hi] at ej;cases ej;exact⟨.ref a,h1,a,xs,rfl,SqL.of g8,m7.mono up _ rl⟩
  ·rw [if_neg hij] at ej;obtain⟨v,h2,rr⟩:=s.e.at_ j q ej;refine⟨v,h2, ?_⟩;cases q with
   |v p=>exact A3.mono up p rr
   |bo z=>exact absurd ej (s.e.nb j z)
   |ow z=>
    have key:∀b,v= .ref b->b≠a:=λb hb hab=>by subst hab;subst hb;exact s.e.ap i j _ z b hij e ej h1 h2
    cases z with
    |lst z=>
     obtain⟨b,zs,rfl,fb,hb,rz⟩:=rr;exact⟨b,zs,rfl,by rw [f9 (key b rfl)];exact fb,hb,m7.mono up _ rz⟩
    |dct z=>
     obtain⟨b,zs,rfl,fb,hb,rz⟩:=rr;exact⟨b,zs,rfl,by rw [f9 (key b rfl)];exact fb,hb,v9.mono up _ rz⟩
    |txt z=>
     obtain⟨b,zs,rfl,fb,hb,rz⟩:=rr;exact⟨b,zs,rfl,by rw [f9 (key b rfl)];exact fb,hb,v9.mono up _ rz⟩
 ·rw [List.getElem?_set] at ej
  by_cases hij:i=j
  ·subst hij;rw [if_pos rfl,if_pos hi] at ej;cases ej
  ·rw [if_neg hij] at ej;exact s.e.nb j z ej
 ·have own_at:∀(j:Nat) (z:a0T),(ρ.set i (ξ (g5.v (.list ps))))[j]?=ξ (ξ (g5.ow z))->ρ[j]?=ξ (ξ (g5.ow z)):=λj z h=>by
   rw [List.getElem?_set] at h
   by_cases hij:i=j
   ·subst hij;rw [if_pos rfl,if_pos hi] at h;cases h
   ·rw [if_neg hij] at h;exact h
  exact s.e.ap j k z1 z2 c hjk (own_at j z1 e1) (own_at k z2 e2) e3 e4
 ·rw [List.getElem?_set] at e1
  by_cases hij:i=j
  ·subst hij;rw [if_pos rfl,if_pos hi] at e1;cases e1
  ·rw [if_neg hij] at e1;exact s.nw j z c e1 e2
theorem a2D(i:Nat){st:Stmt}{n:MS}(h:ES X st n):ES X st (a2b i n):=B0 h λD σ H h0=>D9 h0 λF0 H0 F ρ fl so e fin=>by
 unfold a2b at e;split at e
 ·rename_i ps eo;obtain⟨F',s,so'⟩:=so.frz eo;exact⟨F0,H0,F',_,fl,so',e,fin.later s⟩
 ·exact⟨F0,H0,F,ρ,fl,so,e,fin⟩
end
def c3n(K:AD)(n:Nat)(a:AB):Υ (List (k4×PV)):=match K.lookup a with
 |some ⟨.type "dict",ζ,.dict es _,⟨[]⟩⟩=>(a6h es.toList).bind (a1t K n)
 |_=>ζ
def b0N(K:AD)(a:AB):List Int:=match K.lookup a with
 |some ⟨_,_,.dict es _,_⟩=>es.toList.map (·.hash)
 |_=>[]
theorem a4x{κ:Type}{K:AD}{n:Nat}:∀{kvs:List (κ×AA)} {tbl:List (κ×PV)},a1t K n kvs=ξ tbl->tbl.map (·.1)=kvs.map (·.1)
 |[],_,h=>by cases h;rfl
 |(k,u)::r,tbl,h=>by
  simp only [a1t] at h;obtain⟨q,e1,h⟩:=bind_some h;obtain⟨t,e2,h⟩:=bind_some h;cases h;rw [AI,AI,a4x e2]
theorem b8k(f:κ->γ):∀{l:List (κ×α)} {m:List (κ×β)},l.map (·.1)=m.map (·.1)->l.map (λx=>f x.1)=m.map (λx=>f x.1):=λ {l m} h=>by
 have h1:l.map (λx=>f x.1)=(l.map (·.1)).map f:=by simp [Au,Function.comp_def]
 have h2:m.map (λx=>f x.1)=(m.map (·.1)).map f:=by simp [Au,Function.comp_def]
 rw [h1,h2,h]
theorem c3p{P:AS}{w:AL}{K:AD}{a:AB}{tbl:List (k4×PV)}(n:Nat)(t:c3n K n a=ξ tbl)(h:b0N K a=tbl.map (λkv=>b5O w kv.1))(nd:(tbl.map (·.1)).Nodup):Tab P w K a tbl:=by
 unfold c3n at t;split at t
 ·rename_i es ep e;obtain⟨kvs,e1,e2⟩:=bind_some t;have hk:=a4x e2;refine⟨es,ep,kvs,n,e,e1, ?_,e2,by rw [<-hk];exact nd⟩
  unfold b0N at h;rw [e] at h;rw [<-b8k (b5O w) hk];exact h
 ·cases t
def u7(P:AS)(w:AL)(K:AD)(mg:Str->Υ AA)(base:Heap)(x:Str)(ps:List Str)(k:Nat)(g:Λ):Prop:=
 ∃f fd,R3 P w K mg base CX0 k f fd ps (spP K ps.length g)/\mg x=ξ (.ref f)/\PySem.W.keepIn K (.ref f)=true/\a07 K fd ps []
section
theorem l6
 (d:u7 X.prog X.w X.K X.mg X.base x ps k g) (hr:G8 k' X.A) (hk:k<=k') (hg:Gl X x) (hn:∀ρ qs,m ρ=ξ qs->qs.length=ps.length) (ha:EA X (e::es) m)
 (hdb:Δ x:=by decide) (he:Ψ e es X.env:=by rfl) (hpl:Φ₁ pos es X.env:=by rfl):
 EE X (.Call (.Name x p) (e::es) [] pos) (m9 g m):=by
 obtain⟨f,fd,G,h1,h2,h3⟩:=d
 exact b9Z G (hr.mono hk) hg h1 h2 h3 hn ha hdb he hpl
end
def b4Z(K:AD):Sp:=λvs H Q _=>∃(a:AB) (ns:List Int),vs=[.ref a]/\SqL K H a (ns.map V.int)/\ns.length<=63/\∀H',Q (.bl true) H'
theorem a97{K:AD}{H:Hp}:∀ns:List Int,m7 K H (ns.map PyData.int) (ns.map V.int)
 |[]=>rfl
 |n::ns=>⟨.int n,_,rfl,rfl,a97 ns⟩
theorem c0j{K:AD}{g:Λ}(h:∀ns:List Int,ns.length<=63->g [.list (ns.map .int)]=ξ (.v (.bool true))):∀vs H Q E,b4Z K vs H Q E->spP K 1 g vs H Q E:=
 λvs H Q E ⟨a,ns,e,hs,hl,k⟩=>by
  subst e;exact⟨H,[.list (ns.map .int)],_,PU.m3.refl H,⟨.ref a,[],rfl,⟨a,_,rfl,hs,a97 ns⟩,rfl⟩,rfl,h ns hl,λv F' H' o=>by
   have:=o.rep;subst this;exact k H'⟩
theorem c48{l:PySem.W.OpenLaw}{q:AS}{loose:List Str}{XP:(Str->Υ AA)->Heap->Prop}{YP:AL->Heap->Prop}{d:DefRec}{K:Params->AD}{x:Str}{k:Nat}(hk:k<=40)(hn:l.most=ξ 63)(hdf:d.params.defaults=[])
 (hY:∀(w:AL) (h:Heap),YP w h->(K w.params).In h)
 (F:∀(w:AL) (mg:Str->Υ AA) (fa:AB) (h:Heap),(K w.params).In h->h.Ns mainGlobals mg->mg d.name=ξ (.ref fa)->
  ∃fd:FuncData,(∀(s:AE) (u:AA),BindsTo s fd ⟨[u],[]⟩ [(x,u)])/\∀base:Heap,(K w.params).In base->base.Ns mainGlobals mg->R3 l.prog w (K w.params) mg base CX0 k fa fd [x] (b4Z (K w.params))):
 PySem.W.WalkO q loose XP YP l.row.toRowW d [] (λf vs=>PySem.call f vs):=
 L2.c1a hn (by decide) hdf ⟨rfl,by decide,by decide⟩ hY (λw mg fa h a b c=>let ⟨fd,h1,h2⟩:=F w mg fa h a b c;⟨fd,h1,λbase x y=>(h2 base x y).mono hk⟩) (λ_ _ a ns hl _ hS=>⟨a,ns,rfl,hS,hl,λ_=>rfl⟩) λ_ _ _ _ _ z=>z
def c4H(x y:g5):Υ g5:=K2 b1t (λi j=> .int (i*j)) x y
theorem y4(i j:Int):K8 (.v (.int i)) (.v (.int j))=ξ (.v (.int (i+j))):=ω
theorem b7x(h:i.length+j.length<=AQ):K8 (.v (.str i)) (.v (.str j))=ξ (.v (.str (i++j))):=by simp [K8,h]
theorem b4p(h:ps.length+qs.length<=AQ):K8 (.own ps) (.own qs)=ξ (.own (ps++qs)):=by simp [K8,g5.mine,h]
theorem b7y(f:Int->Int->PV)(i j:Int):gI f (.v (.int i)) (.v (.int j))=ξ (.v (f i j)):=ω
theorem b0K [∀i j,Decidable (C i j)](f:Int->Int->PV)(h:C i j):K2 C f (.v (.int i)) (.v (.int j))=ξ (.v (f i j)):=by
 show(if okC C i j=true then ξ (g5.v (f i j)) else ζ)=_
 rw [if_pos (b4K.mpr h)]
theorem c2e(h: -18446744073709551616<i/\i<18446744073709551616):c4H (.v (.int i)) (.v (.int j))=ξ (.v (.int (i*j))):=b0K _ (.inl (by lia))
theorem t5(h:0<j):K2 (λ_ j=>0<j) f (.v (.int i)) (.v (.int j))=ξ (.v (f i j)):=b0K _ h
theorem P9(h:0<j/\j<1073741824):K2 Y9 f (.v (.int i)) (.v (.int j))=ξ (.v (f i j)):=b0K _ h
theorem c2c(h:n8 x.rd 50=true/\n8 y.rd 50=true):gEq x y=ξ (.v (.bool (η x.rd y.rd))):=by simp [gEq,h]
theorem a5z(h:n8 x.rd 50=true/\n8 y.rd 50=true):gNe x y=ξ (.v (.bool (!η x.rd y.rd))):=by simp [gNe,h]
theorem S4(ps:List PV):z9 (.v (.list ps))=ξ (.v (.int ps.length)):=ω
theorem b7B(ps:List PV):z9 (.v (.tuple ps))=ξ (.v (.int ps.length)):=ω
theorem a4J(ps:List PV):z9 (.bor ps)=ξ (.v (.int ps.length)):=ω
theorem a1f(h:L2.atI ps i=ξ p):v4 (.v (.list ps)) (.v (.int i))=ξ (.v p):=by simp [v4,g5.rd,a0T.rd,PyData.items?,h]
theorem a4I(h:L2.atI ps i=ξ p):v4 (.v (.tuple ps)) (.v (.int i))=ξ (.v p):=by simp [v4,g5.rd,a0T.rd,PyData.items?,h]
theorem c0b(h:L2.atI ps i=ξ p):v4 (.own ps) (.v (.int i))=ξ (.v p):=by simp [v4,g5.rd,a0T.rd,PyData.items?,h]
theorem a0G(h:L2.atI ps i=ξ p):v4 (.bor ps) (.v (.int i))=ξ (.v p):=by simp [v4,g5.rd,a0T.rd,PyData.items?,h]
theorem V3(p:PV)(ps:List PV):v4 (.v (.tuple (p::ps))) (.v (.int 0))=ξ (.v p):=by
 refine a4I ?_;have h:(0:Int)<(((p::ps).length:Nat):Int):=by simp only [AT];lia
 ext ah
 rfl
theorem V4(p q:PV)(ps:List PV):v4 (.v (.tuple (p::q::ps))) (.v (.int 1))=ξ (.v q):=by
 refine a4I ?_;have h:(1:Int)<(((p::q::ps).length:Nat):Int):=by simp only [AT];lia
 ext ah
 rfl
theorem a7K(p q r:PV)(ps:List PV):v4 (.v (.tuple (p::q::r::ps))) (.v (.int 2))=ξ (.v r):=by
 refine a4I ?_;have h:(2:Int)<(((p::q::r::ps).length:Nat):Int):=by simp only [AT];lia
 ext ah
 rfl
theorem b7A(p q r t:PV)(ps:List PV):v4 (.v (.tuple (p::q::r::t::ps))) (.v (.int 3))=ξ (.v t):=by
 refine a4I ?_;have h:(3:Int)<(((p::q::r::t::ps).length:Nat):Int):=by simp only [AT];lia
 ext ah
 rfl
theorem h9(g:g5->g5->Υ g5)(ma mb:M)(ρ:d5):m2 g ma mb ρ=(ma ρ).bind λx=>(mb ρ).bind λy=>g x y:=ω
theorem o8(g:g5->Υ g5)(ma:M)(ρ:d5):m1 g ma ρ=(ma ρ).bind g:=ω
theorem j7(p:PV)(ρ:d5):mC p ρ=ξ (.v p):=ω
theorem d4(p:PV)(ρ:d5):c7 0 (ξ (.v p)::ρ)=ξ (.v p):=ω
theorem t8(p:List PV)(ρ:d5):c7 0 (ξ (.own p)::ρ)=ξ (.bor p):=ω
theorem e9(n:Nat)(r:Υ g5)(ρ:d5):c7 (n+1) (r::ρ)=c7 n ρ:=ω
theorem d6(ρ:d5):d9 ρ=ξ []:=ω
theorem d0(m:M)(r:MA)(ρ:d5):b9 m r ρ=((m ρ).bind g5.toVal).bind λp=>(r ρ).bind λps=>ξ (p::ps):=ω
theorem c9(p:PV):(g5.v p).toVal=ξ p:=ω
theorem E3(p:List PV):(g5.own p).toVal=ξ (.list p):=ω
theorem z0(m:MA)(ρ:d5):T6 m ρ=(m ρ).bind λps=>if ps.length<=AQ then ξ (.v (.tuple ps)) else ζ:=ω
theorem A9(m:MA)(ρ:d5):a3t m ρ=(m ρ).bind λps=>if ps.length<=AQ then ξ (.own ps) else ζ:=ω
theorem i7(g:Λ)(m:MA)(ρ:d5):m9 g m ρ=(m ρ).bind g:=ω
def b9I(i:Nat)(ρ:d5)(r:g5):Υ Fl:=if r.nb=true then ξ (.nx (ρ.set i (ξ r))) else ζ
theorem i6(i:Nat)(m:M)(ρ:d5):p9 i m ρ=(m ρ).bind (b9I i ρ):=ω
theorem o9(i:Nat)(ρ:d5)(p:PV):b9I i ρ (.v p)=ξ (.nx (ρ.set i (ξ (.v p)))):=ω
theorem M0(i:Nat)(ρ:d5)(p:List PV):b9I i ρ (.own p)=ξ (.nx (ρ.set i (ξ (.own p)))):=ω
def c3c(r:g5):Υ Fl:=if r.nb=true then ξ (.rt r) else ζ
theorem k9(m:M)(ρ:d5):z7 m ρ=(m ρ).bind c3c:=ω
theorem v8(p:PV):c3c (.v p)=ξ (.rt (.v p)):=ω
theorem a5W(p:List PV):c3c (.own p)=ξ (.rt (.own p)):=ω
def c3d(n:MS):Fl->Υ Fl
 | .nx ρ=>n ρ
 |f=>ξ f
theorem g7(m n:MS)(ρ:d5):k7 m n ρ=(m ρ).bind (c3d n):=ω
theorem i8(n:MS)(ρ:d5):c3d n (.nx ρ)=n ρ:=ω
theorem a5e(n:MS)(r:g5):c3d n (.rt r)=ξ (.rt r):=ω
def ifK(m n:MS)(ρ:d5)(b:Bool):Υ Fl:=if b=true then m ρ else n ρ
theorem l0(c:MT)(m n:MS)(ρ:d5):L4 c m n ρ=(c ρ).bind (ifK m n ρ):=ω
theorem V7(m n:MS)(ρ:d5):ifK m n ρ true=m ρ:=ω
theorem G0(m n:MS)(ρ:d5):ifK m n ρ false=n ρ:=ω
theorem m4(ρ:d5):x4 ρ=ξ (.nx ρ):=ω
def c4i:Fl->Υ g5
 | .rt r=>ξ r
 | .nx _=>ξ (.v .none)
 |_=>ζ
theorem j9(n:Nat)(b:MS)(ps:List PV):C3 n b ps=(b (ps.map (λp=>ξ (g5.v p))++Aq n ζ)).bind c4i:=ω
theorem l9(r:g5):c4i (.rt r)=ξ r:=ω
theorem Q6(m:M)(ρ:d5):mtV m ρ=(m ρ).bind tru:=ω
theorem k6(m:M)(ρ:d5):W4 m ρ=(m ρ).bind b2w:=ω
theorem n4(b:Bool):b2w (.v (.bool b))=ξ b:=ω
theorem a29(b:Bool):tru (.v (.bool b))=ξ b:=ω
theorem D8(c:MT)(ρ:d5):W5 c ρ=(c ρ).map not:=ω
def orK(d:MT)(ρ:d5)(b:Bool):Υ Bool:=if b=true then ξ true else d ρ
theorem a2S(c d:MT)(ρ:d5):a82 c d ρ=(c ρ).bind (orK d ρ):=ω
theorem b2n(d:MT)(ρ:d5):orK d ρ false=d ρ:=ω
def c3M(n:M)(ρ:d5)(r:g5):Υ g5:=(b2w r).bind λb=>if b=true then n ρ else ξ (.v (.bool false))
theorem b2b(m n:M)(ρ:d5):b8b m n ρ=(m ρ).bind (c3M n ρ):=ω
theorem b6N(n:M)(ρ:d5):c3M n ρ (.v (.bool true))=n ρ:=ω
def c35:g5->Υ g5
 | .v (.int i)=>ξ (.v (.int (-i)))
 |_=>ζ
theorem b8e(m:M)(ρ:d5):c0q m ρ=(m ρ).bind c35:=ω
theorem c2C(i:Int):c35 (.v (.int i))=ξ (.v (.int (-i))):=ω
theorem a7I(T:String)(p:PV):a4H T (.v p)=bif isFn p then ζ else ξ (.v (.bool (X7 T p))):=ω
theorem b7N(i:Str):isFn (.str i)=false:=ω
theorem a7R(ps:List PV):isFn (.list ps)=false:=ω
theorem b6U(a b:α):(bif false then a else b)=b:=ω
theorem b3L(p:PV):(g5.v p).rd=p:=ω
def c4v(tbl:List (k4×PV))(r:g5):Υ g5:=(b16 r.rd).bind λk=>(Y8 tbl k).map .v
theorem b8h(tbl:List (k4×PV))(m:M)(ρ:d5):c2z tbl m ρ=(m ρ).bind (c4v tbl):=ω
theorem c3o(tbl:List (k4×PV))(x:Str):c4v tbl (.v (.str x))=(Y8 tbl (.inr x)).map .v:=ω
def c3v(is:List Nat)(ρ:d5):g5->Υ Fl
 | .v (.tuple ps)=>if ps.length=is.length then ξ (.nx (setAll ρ is (ps.map .v))) else ζ
 |_=>ζ
theorem b8i(is:List Nat)(m:M)(ρ:d5):c0s is m ρ=(m ρ).bind (c3v is ρ):=ω
theorem c3w(i j:Nat)(ρ:d5)(p q:PV):c3v [i,j] ρ (.v (.tuple [p,q]))=ξ (.nx ((ρ.set i (ξ (.v p))).set j (ξ (.v q)))):=ω
theorem c3x(i j k:Nat)(ρ:d5)(p q r:PV):c3v [i,j,k] ρ (.v (.tuple [p,q,r]))=ξ (.nx (((ρ.set i (ξ (.v p))).set j (ξ (.v q))).set k (ξ (.v r)))):=ω
theorem n0(it:MI)(tg:PV->d5->Υ d5)(body:MS)(ρ:d5):K5 it tg body ρ=(it ρ).bind λps=>x8 body tg ps ρ:=ω
def c1x:List PV->Υ (List PV)
 |[.int j]=>if inR j=true then ξ (J9 0 j) else ζ
 |_=>ζ
theorem r9(m:MA)(ρ:d5):u9 m ρ=(m ρ).bind c1x:=ω
theorem y3(h: -4611686018427387904<=j/\j<4611686018427387904):c1x [.int j]=ξ (J9 0 j):=by
 show(if inR j=true then ξ (J9 0 j) else ζ)=_
 rw [if_pos (b0Q.mpr (by lia))]
theorem c3T(i j:Int):gNe (.v (.int i)) (.v (.int j))=ξ (.v (.bool (!(i==j)))):=ω
theorem a15(i j:Int):gEq (.v (.int i)) (.v (.int j))=ξ (.v (.bool (i==j))):=ω
theorem V5(h:n8 p 50=true):gNe (.v p) (.v p)=ξ (.v (.bool false)):=by
 rw [a5z (x:= .v p) (y:= .v p) ⟨h,h⟩,b3L,b1Z p 50 h]
 rfl
theorem sz(n:Nat):(n<=AQ)=(n<=16777216):=by rw [sizeLine_eq]
end PU
namespace L2
theorem G3:∀(names:List (Str×NameKind)) (n:Nat) (acc:List (Str×AB)),cellsFrom n names acc=cellsFrom n names []++acc
 |[],_,_=>rfl
 |(x,k)::r,n,acc=>by
  unfold cellsFrom;split
  ·rw [G3 r (n+1) ((x,n)::acc),G3 r (n+1) [(x,n)],List.append_assoc];rfl
  ·exact G3 r n acc
theorem P0:∀{names:List (Str×NameKind)} {n:Nat} {x:Str} {c:AB},(x,c)∈cellsFrom n names []->n<=c/\(x,NameKind.cell)∈names
 |[],_,_,_,h=>nomatch h
 |(y,k)::r,n,x,c,h=>by
  unfold cellsFrom at h;split at h
  ·rename_i hk;rw [G3] at h;rcases At.mp h with h|h
   ·obtain⟨a,b⟩:=P0 h;exact⟨by lia,Ag _ b⟩
   ·have e:(x,c)=(y,n):=by simpa using h
    cases e;have:k= .cell:=by simpa using hk
    subst this;exact⟨AM _,AZ⟩
  ·obtain⟨a,b⟩:=P0 h;exact⟨a,Ag _ b⟩
theorem a71{α:Type}:∀{l:List (Str×α)} {x:Str},(∀c,(x,c)∉l)->l.lookup x=ζ:=λ {l x} h=>by
 cases e:l.lookup x with
 |none=>rfl
 |some c=>exact absurd (PySem.mem_of_lookup e) (h c)
theorem a3K:∀{l r:List (Str×α)} {x:Str},l.lookup x=ζ->(l++r).lookup x=r.lookup x
 |[],_,_,_=>rfl
 |(y,v)::l,r,x,h=>by
  rw [Af,List.lookup_cons];rw [List.lookup_cons] at h;cases e:x==y with
  |true=>rw [e] at h;cases h
  |false=>rw [e] at h;exact a3K h
noncomputable def Y6(cells:List (Str×AB)):List (Str×NameKind)->List (Str×AB)->List (Str×AB)
 |[],acc=>acc
 |(x,k)::r,acc=>if k== .free then Y6 cells r ((x,(cells.lookup x).getD 0)::acc) else Y6 cells r acc
theorem a5n:∀{names:List (Str×NameKind)} {acc:List (Str×AB)} {x:Str} {c:AB},(x,c)∈Y6 cells names acc->(x,c)∈acc\/((x,NameKind.free)∈names/\c=(cells.lookup x).getD 0)
 |[],_,_,_,h=> .inl h
 |(y,k)::r,acc,x,c,h=>by
  unfold Y6 at h;split at h
  ·rename_i hk;rcases a5n h with h|⟨h1,h2⟩
   ·rcases AX.mp h with e|h
    ·cases e;have:k= .free:=by simpa using hk
     subst this;exact .inr ⟨AZ,rfl⟩
    ·exact .inl h
   ·exact .inr ⟨Ag _ h1,h2⟩
  ·rcases a5n h with h|⟨h1,h2⟩
   ·exact .inl h
   ·exact .inr ⟨Ag _ h1,h2⟩
theorem a2t:∀{names:List (Str×NameKind)} {acc:List (Str×AB)} {x:Str},x∉names.map (·.1)->(Y6 cells names acc).lookup x=acc.lookup x
 |[],_,_,_=>rfl
 |(y,k)::r,acc,x,h=>by
  have h':¬(x=y)/\x∉r.map (·.1):=by simpa using h
  unfold Y6;split
  ·rw [a2t h'.2,List.lookup_cons];have e:(x==y)=false:=by simpa using h'.1
   rw [e]
  ·exact a2t h'.2
theorem a1x:∀{names:List (Str×NameKind)} {acc:List (Str×AB)} {x:Str},(names.map (·.1)).Nodup->names.lookup x=ξ .free->(Y6 cells names acc).lookup x=ξ ((cells.lookup x).getD 0)
 |[],_,_,_,h=>by cases h
 |(y,k)::r,acc,x,nd,h=>by
  have nd':=List.nodup_cons.mp nd;rw [List.lookup_cons] at h;unfold Y6;cases e:x==y with
  |true=>
   rw [e] at h;have hk:k= .free:=by simpa using h
   subst hk;have exy:x=y:=by simpa using e
   subst exy;rw [if_pos (show(NameKind.free==NameKind.free)=true from rfl),a2t nd'.1,List.lookup_cons,e]
  |false=>
   rw [e] at h;split
   ·exact a1x nd'.2 h
   ·exact a1x nd'.2 h
theorem a0Z(f:Str×NameKind->List (Str×AB)->Sem (ForInStep (List (Str×AB))))(hf:∀x k cs,f (x,k) cs=if k== .free then(do let c<-cellOf env x;pure (.yield ((x,c)::cs))) else pure (.yield cs)):
 ∀(names:List (Str×NameKind)) (acc:List (Str×AB)),(∀x∈names,x.2= .free->(env.cells.lookup x.1).isSome=true)->forIn names acc f=pure (Y6 env.cells names acc)
 |[],acc,_=>rfl
 |(x,k)::r,acc,h=>by
  rw [List.forIn_cons,hf];unfold Y6;have hr:=λy hy=>h y (Ag _ hy);split
  ·rename_i hk;have:=h (x,k) AZ (by simpa using hk)
   obtain⟨c,hc⟩:=Option.isSome_iff_exists.mp this;unfold cellOf;rw [hc];exact a0Z f hf r _ hr
  ·exact a0Z f hf r acc hr
theorem a8V(h:∀x∈scope.names,x.2= .free->(env.cells.lookup x.1).isSome=true):closureFor scope env=pure (Y6 env.cells scope.names []):=by
 have e:=a0Z (λ(x:Str×NameKind) (cs:List (Str×AB))=>if x.2== .free then(do let c<-cellOf env x.1;pure (.yield ((x.1,c)::cs))) else pure (.yield cs)) (λ_ _ _=>rfl) scope.names [] h
 refine Eq.trans (congrArg (· >>=λr=>pure r) (Eq.trans (congrArg (forIn scope.names []) ?_) e)) rfl
 funext x cs
 cases x with
 |mk n k=>cases k<;>rfl
theorem a2X{env:Env}{x:Str}:∀{names:List (Str×NameKind)},(names.map λ(p:Str×NameKind)=>if(p.2==NameKind.free && env.scope.kind== .function && env.kindOf p.1==ξ .cell) then(p.1,NameKind.cell) else(p.1,p.2)).lookup x
 =(names.lookup x).map λk=>if(k==NameKind.free && env.scope.kind== .function && env.kindOf x==ξ .cell) then NameKind.cell else k
 |[]=>rfl
 |(n,k)::r=>by
  rw [AI];have ih:= @a2X env x r;cases hx:x==n with
  |true=>
   have e:x=n:=by simpa using hx
   subst e
   by_cases c:(k==NameKind.free && env.scope.kind== .function && env.kindOf x==ξ .cell)=true
   ·rw [if_pos c,List.lookup_cons,hx,List.lookup_cons,hx];exact congrArg ξ (if_pos c).symm
   ·rw [if_neg c,List.lookup_cons,hx,List.lookup_cons,hx];exact congrArg ξ (if_neg c).symm
  |false=>
   by_cases c:(k==NameKind.free && env.scope.kind== .function && env.kindOf n==ξ .cell)=true
   ·rw [if_pos c,List.lookup_cons,hx,List.lookup_cons,hx];exact ih
   ·rw [if_neg c,List.lookup_cons,hx,List.lookup_cons,hx];exact ih
def O5(scope:Scope)(C:AB)(env:Env):Env:=
 {scope:=relabel scope env,locals:=C,globals:=env.globals,cells:=cellsFrom (C+1) scope.names (Y6 env.cells scope.names []),qual:=env.qual,func:=ζ,code:=env.code,frame:=env.frame,builtins:=env.builtins}
def hid(ys:List Str)(x:Str):Str:=if ys.contains x=true then AR "0"++x else x
def t6(X:Cx)(N0:List Str)(scope:Scope)(ys:List Str)(C:AB)(fp:List AB)(pins:List (AB×Obj))(s₃:AE)(H₃:Hp):Cx:=
 {X with N:=N0++ys,s₀:=s₃,H₀:=H₃,env:=O5 scope C X.env,outer:=X.stack,ex:=fp,fn:=λx=>scope.names.lookup x==ξ .cell,pn:=X.pn++pins}
theorem a0b{scope:Scope}{C:AB}{env:Env}{x:Str}:(O5 scope C env).kindOf x=(scope.names.lookup x).map λk=>if(k==NameKind.free && env.scope.kind== .function && env.kindOf x==ξ .cell) then NameKind.cell else k:=
 a2X
structure C5(N N0 ys:List Str)(env:Env)(scope:Scope):Prop where
 eq:N0=N.map (hid ys)
 kind:scope.kind= .function
 nd:(scope.names.map (·.1)).Nodup
 fr:∀x∈scope.names,x.2= .free->env.kindOf x.1=ξ .cell\/env.kindOf x.1=ξ .free
 ou:∀x∈N,(ys.contains x=true->scope.names.lookup (hid ys x)=ζ)/\(ys.contains x=false->scope.names.lookup x=ζ\/scope.names.lookup x=ξ .free\/scope.names.lookup x=ξ .globalImplicit)
theorem D7:∀{l:List (Str×α)} {x:Str} {v:α},(l.map (·.1)).Nodup->(x,v)∈l->l.lookup x=ξ v
 |[],_,_,_,h=>nomatch h
 |(y,w)::r,x,v,nd,h=>by
  have nd':=List.nodup_cons.mp nd;rw [List.lookup_cons];rcases AX.mp h with e|h
  ·cases e;simp
  ·have:x≠y:=λe=>nd'.1 (by rw [<-e];exact Ae.mpr ⟨_,h,rfl⟩)
   have e:(x==y)=false:=by simpa using this
   rw [e];exact D7 nd'.2 h
section
theorem a3v
 (h:Q (newEnv scope s.heap.objs.size globals (cellsFrom (s.heap.objs.size+1) scope.names cl) qual ζ .none (ξ env) builtins) {s with heap:=pushCells (s.heap.push {cls:= .type "dict",data:= .dict #[]}) scope.names}):
 AG M A (newFunctionEnv scope globals cl [] qual ζ .none (ξ env) builtins) Q E s:=by
 simp only [newFunctionEnv,Option.isSome_some,if_true]
 refine AC (wpAny_alloc ?_)
 refine AC (wpAny_layCells _ (λname kind cells=>by cases hkc:kind==NameKind.cell<;>simp [hkc]) _ _ _ _ ?_)
 rw [show({s with heap:=s.heap.push {cls:= .type "dict",data:= .dict #[]}}:AE).heap.objs.size=s.heap.objs.size+1 from Heap.size_push ..]
 exact AC (AH (AH h))
theorem a3s(I:Nat->AE->Prop)
 (turn:∀n s,I n s->AG (model prog w) A (pyNext it) (λr s₁=>match r with
  |none=>R (.ok .next) s₁
  |some v=>AG (model prog w) A (letOwnedTupleGo target it v) (λ_ s₁'=>AG (model prog w) A (assign target env v) (λ_ s₂=>
   AG (model prog w) A (forIn ifs true λc r=>if r=true then do let ok<-isTrue c env (eval c env);pure (ForInStep.yield ok) else pure (ForInStep.yield r)) (λok s₃=>
    if ok=true then AG (model prog w) A (eval elt env) (λx s₄=>
     AG (model prog w) A (call (.builtin "list.append") [acc,x]) (λ_ s₅=>∃m,m<n/\I m s₅) (λ_ _=>False) s₄) (λ_ _=>False) s₃
    else ∃m,m<n/\I m s₃) (λ_ _=>False) s₂) (λ_ _=>False) s₁') (λ_ _=>False) s₁) (λ_ _=>False) s)
 (n:Nat) (h:I n s):
 codeAny (model prog w) A (.compLoop (.ListComp elt [⟨target,iter,ifs,0⟩] scope pos) 0 it acc env) R s:=by
 refine codeAny_loop rfl I (λn s hI=> ?_) n h
 show AG _ A ((compTurn (.ListComp elt [⟨target,iter,ifs,0⟩] scope pos) 0 it acc env).onRaise (λx=>do noteFrame x env;theTreesLotGoes x)) _ _ s
 refine wpAny_noted ?_
 rw [compTurn_list]
 refine AC (wpAny_standAt (AC (wpAny_mono (turn n s hI) (λr s₁ h₁=> ?_) λ_ _ h'=>h'.elim)))
 cases r with
 |none=>exact AH h₁
 |some v=>
  refine AC (wpAny_mono h₁ (λ_ s₁' h₁'=> ?_) λ_ _ h'=>h'.elim)
  refine AC (wpAny_mono h₁' (λ_ s₂ h₂=>AC (wpAny_mono h₂ (λok s₃ h₃=> ?_) λ_ _ h'=>h'.elim)) λ_ _ h'=>h'.elim)
  cases ok with
  |false=>exact AH ⟨rfl,h₃⟩
  |true=>
   exact AC (AC (wpAny_mono h₃ (λx s₄ h₄=>AC (wpAny_mono h₄ (λ_ s₅ h₅=>AH (AH ⟨rfl,h₅⟩)) λ_ _ h'=>h'.elim)) λ_ _ h'=>h'.elim))
end
def PCs(X:Cx)(ifs:List AO)(t:TT):Prop:=
 ∀pins s σ (H:Hp) (Q:Bool->Hp->Prop),j4 X pins σ H s->t σ H Q->
  AG (model X.prog X.w) X.A (forIn ifs true λc r=>if r=true then do let ok<-isTrue c X.env (eval c X.env);pure (ForInStep.yield ok) else pure (ForInStep.yield r)) (TP X pins σ Q) X.xe s
def c1A:TT:=λ_ H Q=>Q true H
theorem b4L:PCs X [] c1A:=λpins s σ H Q I h=>wpAny_tests_nil ⟨H,I,h⟩
theorem b4M(h:PT X c t):PCs X [c] t:=λpins s σ H Q I hq=>wpAny_tests_one (h pins s σ H Q I hq)
def b42(wi:TI)(g:TG)(tc:TT)(te:TE)(k:Nat):TE:=λσ H Q=>wi σ H λJ H1=>∀D,H1 D=ζ->∃W:Nat->Nat->List V->Hp->Prop,(∃m,W 0 m [] (n5 H1 D (.lst [])))/\∀i m xs H2,W i m xs H2->H2 D=ξ (.lst xs)->
 (J.stop i H2/\Q (.ref D) H2)\/(J.go i H2/\∀x H3,J.yld i H2 x H3->g x (σ++Aq k ζ) H3 λσ4 H4=>(∀(j:Nat) v,(σ++Aq k ζ)[j]?=ξ (ξ v)->σ4[j]?=ξ (ξ v))/\tc σ4 H4 λb H5=>if b=true then te σ4 H5 λv H6=>H6 D=ξ (.lst xs)/\xs.length<AQ/\∃m',m'<m/\W (i+1) m' (xs++[v]) (n5 H6 D (.lst (xs++[v])))
  else H5 D=ξ (.lst xs)/\∃m',m'<m/\W (i+1) m' xs H5)
section
theorem a1I(I:j4 X pins σ H s)(S:C5 X.N N0 ys X.env scope)(h:(x,NameKind.free)∈scope.names):∃c,X.env.cells.lookup x=ξ c:=I.ok.has x (S.fr _ h rfl)
theorem b25(S:C5 X.N N0 ys X.env scope)(I:j4 X pins σ H s)(hf:∀b∈fp,a5l X pins H b)(ho:∀b∈fp,∃o,s.heap.get? b=ξ o/\∀v,o.data≠.cell v):
 j4 (t6 X N0 scope ys s.heap.objs.size fp pins s H) [] (σ++Aq ys.length ζ) H {s with heap:=pushCells (s.heap.push {cls:= .type "dict",data:= .dict #[]}) scope.names}:=by
 have up:∀b o,s.heap.get? b=ξ o->(pushCells (s.heap.push {cls:= .type "dict",data:= .dict #[]}) scope.names).get? b=ξ o:=λb o e=>pushCells_keeps _ _ b o (AY _ e)
 have okc:=cellsFrom_ok scope.names (s.heap.push {cls:= .type "dict",data:= .dict #[]}) (s.heap.objs.size+1) [] ⟨λ_ _ hm=>(nomatch hm),List.Pairwise.nil⟩ (by rw [Heap.size_push];exact AM _)
 rw [Heap.size_push] at okc
 have cel:∀x c,(O5 scope s.heap.objs.size X.env).cells.lookup x=ξ c->((x,c)∈cellsFrom (s.heap.objs.size+1) scope.names []/\(x,NameKind.cell)∈scope.names/\s.heap.objs.size<c)\/(X.env.cells.lookup x=ξ c/\(x,NameKind.free)∈scope.names):=λx c e=>by
  have m:=PySem.mem_of_lookup e;have m:(x,c)∈cellsFrom (s.heap.objs.size+1) scope.names (Y6 X.env.cells scope.names []):=m;rw [G3] at m;rcases At.mp m with m|m
  ·obtain⟨h1,h2⟩:=P0 m;exact .inl ⟨m,h2,h1⟩
  ·rcases a5n m with m|⟨m,e⟩
   ·exact nomatch m
   ·obtain⟨c',hc'⟩:=a1I I S m;rw [hc'] at e;exact .inr ⟨by rw [hc',e];rfl,m⟩
 have celLt:∀x c,X.env.cells.lookup x=ξ c->c<s.heap.objs.size:=λx c e=>let ⟨_,h⟩:=I.cell x c e;h.lt
 have fpLt:∀b∈fp,b<s.heap.objs.size:=λb hb=>let ⟨_,e,_⟩:=ho b hb;Ac e
 have cellNo:∀x,(x,NameKind.cell)∉scope.names->(cellsFrom (s.heap.objs.size+1) scope.names []).lookup x=ζ:=λx hx=>a71 λc m=>hx (P0 m).2
 have look:∀x,(x,NameKind.free)∈scope.names->(O5 scope s.heap.objs.size X.env).cells.lookup x=X.env.cells.lookup x:=λx m=>by
  have hl:=D7 S.nd m;have hn:(x,NameKind.cell)∉scope.names:=λz=>by
   have:=D7 S.nd z;rw [hl] at this;cases this
  show(cellsFrom (s.heap.objs.size+1) scope.names (Y6 X.env.cells scope.names [])).lookup x=_;rw [G3,a3K (cellNo x hn),a1x S.nd hl];obtain⟨c,hc⟩:=a1I I S m;rw [hc];rfl
 have kindF:∀x,scope.names.lookup x=ξ .free->X.env.kindOf x=ξ .cell\/X.env.kindOf x=ξ .free:=λx h=>S.fr _ (PySem.mem_of_lookup h) rfl
 refine⟨⟨I.mod,S.kind,I.ok.glob,I.ok.blt,AM _,λx y c h1 h2=> ?_,λx h=> ?_,λx c h1 h2=> ?_,I.ok.hd,I.ok.frames,.inl rfl,λb hb=> ?_,I.bs,Nat.le_trans I.ok.bsz I.sz,λb o e hb=> ?_,λb hb hz=> ?_,I.stack,I.stkFree⟩,
  rfl,I.bare,Un.kept up,⟨λ_=>ζ, ?_,λi x v h1 h2 h3=> ?_⟩,λx c e=> ?_,I.hok.fresh (AM _),λx c e=> ?_,λp hp=> ?_,I.hok.kept up, ?_⟩
 ·rcases cel x c h1 with⟨a1,b1,c1⟩|⟨a1,b1⟩
  ·rcases cel y c h2 with⟨a2,b2,c2⟩|⟨a2,b2⟩
   ·exact name_of_addr okc.apart a1 a2
   ·exact absurd (Nat.lt_trans c1 (celLt y c a2)) (Nat.lt_irrefl _)
  ·rcases cel y c h2 with⟨a2,b2,c2⟩|⟨a2,b2⟩
   ·exact absurd (Nat.lt_trans c2 (celLt x c a1)) (Nat.lt_irrefl _)
   ·exact I.ok.inj x y c a1 a2
 ·have hk:(O5 scope s.heap.objs.size X.env).kindOf x=ξ .cell\/(O5 scope s.heap.objs.size X.env).kindOf x=ξ .free:=h
  rw [a0b] at hk
  cases e:scope.names.lookup x with
  |none=>rw [e] at hk;rcases hk with z|z<;>cases z
  |some k=>
   rw [e] at hk
   have hk':k= .cell\/k= .free:=by
    by_cases c:(k==NameKind.free && X.env.scope.kind== .function && X.env.kindOf x==ξ .cell)=true
    ·have:(k==NameKind.free)=true:=by
      rw [χ,χ] at c;exact c.1.1
     exact .inr (by simpa using this)
    ·simp only [BB] at hk;rw [if_neg c] at hk;rcases hk with z|z
     ·cases z;exact .inl rfl
     ·cases z;exact .inr rfl
   rcases hk' with rfl|rfl
   ·have q:=PySem.W.cellsFrom_some (x:=x) scope.names (s.heap.objs.size+1) (Y6 X.env.cells scope.names []) (.inl e)
    exact Option.isSome_iff_exists.mp q
   ·obtain⟨c,hc⟩:=a1I I S (PySem.mem_of_lookup e)
    exact⟨c,by show(O5 scope s.heap.objs.size X.env).cells.lookup x=_;rw [look x (PySem.mem_of_lookup e)];exact hc⟩
 ·rcases cel x c h2 with⟨_,_,c1⟩|⟨_,b1⟩
  ·exact BG c1
  ·have h1':(scope.names.lookup x==ξ .cell)=true:=h1
   rw [D7 S.nd b1] at h1'
   cases h1'
 ·refine⟨Aj (fpLt b hb),λx c e z=> ?_⟩
  rcases cel x c e with⟨_,_,c1⟩|⟨a1,_⟩
  ·rw [z] at c1;exact absurd (Nat.lt_trans c1 (fpLt b hb)) (Nat.lt_irrefl _)
  ·exact(hf b hb).2.2.2.2.1 x c a1 z
 ·have hb:b∈fp:=hb
  rcases(hf b hb).2.2.2.1 with z|z
  ·exact I.ok.noex b o e z
  ·have h1:=(I.ok.bs b o e).1
   have:=Ac h1
   exact absurd (BA this z) (Nat.lt_irrefl _)
 ·have hb:b∈fp:=hb
  have hz:b∈frs X.stack:=hz
  rcases AX.mp (I.stkSub b hz) with z|z
  ·exact(hf b hb).2.1 z
  ·exact(hf b hb).2.2.1 z
 ·exact(Heap.Ns.new s.heap (.type "dict")).keeps (pushCells_keeps _ _)
 ·have h1:(N0++ys)[i]?=ξ x:=h1
  rw [S.eq] at h1
  have hi:i<σ.length:=by
   by_cases hi:i<σ.length
   ·exact hi
   ·rw [List.getElem?_append_right (by lia),List.getElem?_replicate] at h2
    split at h2<;>cases h2
  rw [BC hi] at h2
  rw [BC (by rw [AN,<-I.len];exact hi),Ak] at h1
  have hvis:Vis (O5 scope s.heap.objs.size X.env).scope x:=h3
  have hkn:scope.names.lookup x=ζ->False:=λz=>by
   have hk:∀k,(O5 scope s.heap.objs.size X.env).kindOf x=ξ k->scope.names.lookup x≠ζ:=λk z e=>by
    rw [a0b,e] at z;cases z
   rcases hvis with e|e|e<;>exact absurd z (hk _ e)
  have h1:X.N[i]?=ξ x/\ys.contains x=false:=by
   cases e0:X.N[i]? with
   |none=>rw [e0] at h1;cases h1
   |some x0=>
    rw [e0] at h1;have h1:hid ys x0=x:=Option.some.inj h1;have ho:=S.ou x0 (BE e0);cases hc:ys.contains x0 with
    |true=>exact(hkn (by rw [<-h1];exact ho.1 hc)).elim
    |false=>
     have hx:x0=x:=by rw [<-h1];unfold hid;rw [if_neg (by rw [hc];exact As)]
     subst hx;exact⟨rfl,hc⟩
  obtain⟨h1,hys⟩:=h1
  have hfree:scope.names.lookup x=ξ .free:=by
   have hk:∀k,(O5 scope s.heap.objs.size X.env).kindOf x=ξ k->scope.names.lookup x≠ζ:=λk z e=>by
    rw [a0b,e] at z;cases z
   rcases(S.ou x (BE h1)).2 hys with z|z|z
   ·rcases hvis with e|e|e<;>exact absurd z (hk _ e)
   ·exact z
   ·have hg:(O5 scope s.heap.objs.size X.env).kindOf x=ξ .globalImplicit:=by
     rw [a0b,z];rfl
    rcases hvis with e|e|e
    ·have e:(O5 scope s.heap.objs.size X.env).kindOf x=ξ .local:=e;rw [hg] at e;cases e
    ·have e:(O5 scope s.heap.objs.size X.env).kindOf x=ξ .cell:=e;rw [hg] at e;cases e
    ·have e:(O5 scope s.heap.objs.size X.env).kindOf x=ξ .free:=e;rw [hg] at e;cases e
  obtain⟨m,hn,hl⟩:=I.loc
  have hv:Vis X.env.scope x:=by
   rcases kindF x hfree with z|z
   ·exact .inr (.inl z)
   ·exact .inr (.inr z)
  obtain⟨u,r,l⟩:=hl i x v h1 h2 hv
  refine⟨u,r, ?_⟩
  rcases l with⟨k,_⟩|⟨k,c,e,z⟩
  ·rcases kindF x hfree with q|q<;>rw [q] at k<;>cases k
  ·refine .inr ⟨?_,c,by show(O5 scope s.heap.objs.size X.env).cells.lookup x=_;rw [look x (PySem.mem_of_lookup hfree)];exact e,z.keeps up⟩
   show(O5 scope s.heap.objs.size X.env).kindOf x=ξ .cell\/(O5 scope s.heap.objs.size X.env).kindOf x=ξ .free
   rw [a0b,hfree]
   by_cases cc:((NameKind.free==NameKind.free)&& X.env.scope.kind== .function && X.env.kindOf x==ξ .cell)=true
   ·exact .inl (congrArg ξ (if_pos cc))
   ·exact .inr (congrArg ξ (if_neg cc))
 ·rcases cel x c e with⟨a1,_,_⟩|⟨a1,_⟩
  ·exact⟨ζ,(okc.empty x c a1).1⟩
  ·obtain⟨v,z⟩:=I.cell x c a1
   exact⟨v,z.keeps up⟩
 ·rcases cel x c e with⟨_,_,c1⟩|⟨a1,_⟩
  ·exact I.hok.fresh (BG c1)
  ·exact I.freeC x c a1
 ·have hp:p∈(X.pn++pins)++[]:=hp
  rw [An] at hp
  obtain⟨e,n,ne,nf,d⟩:=I.pin p hp
  refine⟨up _ _ e,n,Aj (Ac e),λhz=> ?_,d⟩
  have hz:p.1∈frs X.stack:=hz
  rcases AX.mp (I.stkSub p.1 hz) with z|z
  ·exact ne z
  ·exact nf z
 ·show(σ++Aq ys.length ζ).length=(N0++ys).length
  rw [Ar,List.length_replicate,Ar,S.eq,AN,I.len]
def b6E(X:Cx)(pins:List (AB×Obj))(C:AB):Prop:=C≠X.env.locals/\X.s₀.heap.objs.size<=C/\(∀x c,X.env.cells.lookup x=ξ c->c≠C)/\∀p∈X.pn++pins,p.1≠C
theorem a9A(hx:∀e s,X.xe e s->False)(hc:X.calm=true)(S:C5 X.N N0 ys X.env scope)(hi:PI X tg iter wi)
 (hg:∀C fp pins s H,PG (t6 X N0 scope ys C fp pins s H) tg g) (ht:∀C fp pins s H,PCs (t6 X N0 scope ys C fp pins s H) ifs tc) (he:∀C fp pins s H,PE (t6 X N0 scope ys C fp pins s H) elt te)
 (hs:∀x,foldedSetIterable iter X.env x=pure x) (I:j4 X pins σ H s) (h:b42 wi g tc te ys.length σ H Q)
 (fin:∀D C s' H' m,j4 X pins σ H' s'->s'.heap.Ns C m->H' C=ζ->b6E X pins C->Q (.ref D) H'->compPost (model X.prog X.w) X.A X.xe use QQ (.ref D) C (.ok .next) s'):
 AG (model X.prog X.w) X.A (comprehension (.ListComp elt [⟨tg,iter,ifs,0⟩] scope pos) scope X.env pos' (newList []) false (eval iter X.env) use) QQ X.xe s:=by
 have hcl:closureFor scope X.env=pure (Y6 X.env.cells scope.names []):=a8V λx hx' hk=>by
  obtain⟨c,e⟩:=a1I (ys:=ys) I S (x:=x.1) (by rw [<-hk];exact hx')
  rw [e];rfl
 refine wpAny_comprehension_free (use:=use) rfl hs hcl S.kind (λx hx' hk=>D7 S.nd (by rw [<-hk];exact hx')) (E2 (hi pins s σ H _ I h) λv s1 h1=>E2 h1 λitv s2 h2=> ?_)
 obtain⟨it,fp,tn,J,H2,e,I2,T,st2,f2,hW⟩:=h2
 subst e
 have hfr:=I2.hok.fresh (AM _)
 obtain⟨W,⟨m0,w0⟩,turn⟩:=hW s2.heap.objs.size hfr
 have fpLt:∀b∈fp,b<s2.heap.objs.size:=λb hb=>let ⟨_,e,_⟩:=T.obj _ _ st2 b hb;Ac e
 refine wpAny_newObj_type ?_
 have I3:j4 X pins σ (n5 H2 s2.heap.objs.size (.lst [])) {s2 with heap:=s2.heap.push {cls:= .type "list",data:= .seq ([]:List AA).toArray}}:=
  I2.laid (t':=s2.toks) (λb o e=>AY _ e) (AM _) ⟨by decide,[],0,.nil,Ao _ rfl⟩
 have up3:∀b o,s2.heap.get? b=ξ o->(s2.heap.push {cls:= .type "list",data:= .seq ([]:List AA).toArray}).get? b=ξ o:=λb o e=>AY _ e
 have st3:tn 0 (s2.heap.push {cls:= .type "list",data:= .seq ([]:List AA).toArray}):=T.keep _ _ _ st2 λb _ o e=>up3 b o e
 have f3:∀b∈fp,a5l X pins (n5 H2 s2.heap.objs.size (.lst [])) b:=λb hb=>⟨by rw [f9 (Aj (fpLt b hb))];exact(f2 b hb).1,(f2 b hb).2⟩
 generalize hs3:({s2 with heap:=s2.heap.push {cls:= .type "list",data:= .seq ([]:List AA).toArray}}:AE)=s3 at I3
 have hs3h:s3.heap=s2.heap.push {cls:= .type "list",data:= .seq ([]:List AA).toArray}:=by rw [<-hs3]
 rw [<-hs3h] at st3 up3
 refine a3v ?_
 have I4:=b25 S I3 f3 (T.obj _ _ st3)
 generalize hs4:({s3 with heap:=pushCells (s3.heap.push {cls:= .type "dict",data:= .dict #[]}) scope.names}:AE)=s4 at I4 ⊢
 have hs4h:s4.heap=pushCells (s3.heap.push {cls:= .type "dict",data:= .dict #[]}) scope.names:=by rw [<-hs4]
 have st4:tn 0 s4.heap:=T.keep _ _ _ st3 λb _ o e=>by rw [hs4h];exact pushCells_keeps _ _ b o (AY _ e)
 generalize hX:t6 X N0 scope ys s3.heap.objs.size fp pins s3 (n5 H2 s2.heap.objs.size (.lst []))=Y at I4
 have Yp:Y.prog=X.prog:=by rw [<-hX];rfl
 have Yw:Y.w=X.w:=by rw [<-hX];rfl
 have YK:Y.K=X.K:=by rw [<-hX];rfl
 have YA:Y.A=X.A:=by rw [<-hX];rfl
 have Yc:Y.calm=true:=by rw [<-hX];exact hc
 have Yx:Y.xe=X.xe:=by rw [<-hX];rfl
 have YL:Y.env.locals=s3.heap.objs.size:=by rw [<-hX];rfl
 have Yf:Y.fs=frs X.stack:=by rw [<-hX];rfl
 have Ye:Y.ex=fp:=by rw [<-hX];rfl
 have Yn:Y.pn=X.pn++pins:=by rw [<-hX];rfl
 have Ys:Y.s₀=s3:=by rw [<-hX];rfl
 have YH:Y.H₀=n5 H2 s2.heap.objs.size (.lst []):=by rw [<-hX];rfl
 have YE:Y.env=O5 scope s3.heap.objs.size X.env:=by rw [<-hX];rfl
 have hgY:PG Y tg g:=by rw [<-hX];exact hg _ _ _ _ _
 have htY:PCs Y ifs tc:=by rw [<-hX];exact ht _ _ _ _ _
 have heY:PE Y elt te:=by rw [<-hX];exact he _ _ _ _ _
 have nlen:(σ++Aq ys.length ζ).length=Y.N.length:=I4.len
 have exf:=I4.ok.exf
 have exfs:=I4.ok.exfs
 have stat:∀{H':Hp},(∀b∈fp,H' b=ζ)->∀b∈fp,a5l Y [] H' b:=λ {H'} hn b hb=>by
  have hb':b∈Y.ex:=by rw [Ye];exact hb
  refine⟨hn b hb,(exf b hb').1,exfs b hb',.inl hb',(exf b hb').2,λp hp=> ?_⟩;rw [An,Yn] at hp;exact(f2 b hb).2.2.2.2.2 p hp
 have TY:b2Y Y.prog Y.w Y.K tg J fp it tn:=by rw [Yp,Yw,YK];exact T
 have noX:∀e s,Y.xe e s->False:=λe s h=>hx e s (by rw [<-Yx];exact h)
 have loop:∀R:Result->AE->Prop,(∀s' H' m,j4 X pins σ H' s'->s'.heap.Ns s3.heap.objs.size m->H' s3.heap.objs.size=ζ->b6E X pins s3.heap.objs.size->Q (.ref s2.heap.objs.size) H'->R (.ok .next) s')->
  codeAny (model X.prog X.w) X.A (.compLoop (.ListComp elt [⟨tg,iter,ifs,0⟩] scope pos) 0 (.ref it) (.ref s2.heap.objs.size) (O5 scope s3.heap.objs.size X.env)) R s4:=by
  intro R hR
  refine a3s (λn s'=>∃i xs H' σ',j4 Y [] σ' H' s'/\(∀(j:Nat) v,(σ++Aq ys.length ζ)[j]?=ξ (ξ v)->σ'[j]?=ξ (ξ v))/\tn i s'.heap/\(∀b∈fp,H' b=ζ)/\H' s2.heap.objs.size=ξ (.lst xs)/\W i n xs H') ?_ m0
   ⟨0,[],_,_,I4,λ_ _ e=>e,st4,λb hb=>(f3 b hb).1,g8,w0⟩
  rintro n s5 ⟨i,xs,H5,σ5,I5,k5,st5,fr5,hD5,w5⟩
  have I5:j4 Y [] (σ++Aq ys.length ζ) H5 s5:=I5.weak (by rw [nlen,I5.len]) k5
  rw [<-Yp,<-Yw,<-YA]
  rcases turn i n xs H5 w5 hD5 with⟨stop,q⟩|⟨go,step⟩
  ·refine wpAny_mono (TY.done Y rfl rfl rfl Yc i [] s5 _ H5 (λ_ _=>False) I5 (stat fr5) st5 stop) (λr s6 ⟨hr,I6⟩=> ?_) λ_ _ z=>z
   subst hr
   obtain⟨m,hn,_⟩:=I6.loc
   have un:=I6.base
   rw [Yf,Ye,Ys,YH] at un
   rw [YL] at hn
   have hfC:=I6.free
   rw [YL] at hfC
   refine hR s6 H5 m (I3.call' (ch:=fp) (by rw [I6.os,Ys]) un (by have z:=I6.hok;rw [Yp,Yw] at z;exact z) I6.bare λb hb=>⟨(f3 b hb).2.2.2.1,(f3 b hb).2.1,(f3 b hb).2.2.2.2.1,(f3 b hb).2.2.2.2.2⟩) hn hfC ⟨Nat.ne_of_gt I3.lt,I3.sz,λx c e=> ?_,λp hp=> ?_⟩ q
   ·obtain⟨v,z⟩:=I3.cell x c e
    exact Aj z.lt
   ·exact Aj (Ac (I3.pin p hp).1)
  ·refine wpAny_mono (TY.item Y rfl rfl rfl Yc i [] s5 _ H5 (λ_ _=>False) I5 (stat fr5) st5 go) (λr s6 ⟨u,hr,h6⟩=> ?_) λ_ _ z=>z
   subst hr
   dsimp only
   refine wpAny_mono h6 (λ_ s7 ⟨x,H7,I7,r7,y7,st7,fr7⟩=> ?_) λ_ _ z=>z
   have I7':=I7.pinned (stat fr7) (T.obj _ _ st7)
   rw [<-YE]
   have keepT:∀{σ8:St} {H8:Hp} {s8:AE},j4 Y ([]++a8l fp s7.heap) σ8 H8 s8->tn (i+1) s8.heap/\∀b∈fp,H8 b=ζ:=λ {σ8 H8 s8} I8=>by
    refine⟨T.keep _ _ _ st7 λb hb o e=>(I8.pin (b,o) (BD _ (BD _ (a1L hb e)))).1,λb hb=> ?_⟩;obtain⟨o,e,d⟩:=T.obj _ _ st7 b hb;exact(I8.pin (b,o) (BD _ (BD _ (a1L hb e)))).2.1
   refine wpAny_mono (hgY _ s7 _ H7 x u _ I7' r7 (step x H7 y7)) (λ_ s8 h0=>o0 h0 λσ8 H8 I8 k8 q8=> ?_) λe s z=>noX e s z
   refine wpAny_mono (htY _ s8 σ8 H8 _ I8 q8) (λb s9 ⟨H9,I9,q9⟩=> ?_) λe s z=>noX e s z
   cases b with
   |false=>
    rw [if_neg As] at q9 ⊢
    obtain⟨hD9,m',lt,w9⟩:=q9
    obtain⟨t9,n9⟩:=keepT I9
    exact⟨m',lt,i+1,xs,H9,σ8,I9.pins_of (λp hp=>nomatch hp),k8,t9,n9,hD9,w9⟩
   |true=>
    rw [if_pos rfl] at q9 ⊢
    refine wpAny_mono (heY _ s9 σ8 H9 _ I9 q9) (λy s10 ⟨v,H10,I10,r10,hD10,hz,m',lt,w10⟩=> ?_) λe s z=>noX e s z
    refine wpAny_mono (a90 _ s10 σ8 H10 (.ref s2.heap.objs.size) [v] (.ref s2.heap.objs.size) [y] (λ_ H'=>H'=n5 H10 s2.heap.objs.size (.lst (xs++[v]))) I10 rfl (.cons r10 .nil) ⟨_,xs,v,rfl,rfl,hD10,hz,rfl⟩) (λ_ s11 h0=>o0 h0 λ_ H11 I11 _ e11=> ?_) λe s z=>noX e s z
    subst e11
    obtain⟨t11,n11⟩:=keepT I11
    exact⟨m',lt,i+1,xs++[v],_,σ8,I11.pins_of (λp hp=>nomatch hp),k8,t11,n11,g8,w10⟩
 show codeAny _ _ (.compStart _ 0 _ _ (O5 scope s3.heap.objs.size X.env)) _ _
 refine codeAny_compStart_list (loop _ λs' H' m a b c d e=>fin _ _ s' H' m a b c d e) (T.self _ 0 _ _ _ st4 (loop _ λs' H' m a b c d e=>fin _ _ s' H' m a b c d e))
theorem b1d(hx:∀e s,X.xe e s->False)(hc:X.calm=true)(S:C5 X.N N0 ys X.env scope)(hi:PI X tg iter wi)
 (hg:∀C fp pins s H,PG (t6 X N0 scope ys C fp pins s H) tg g) (ht:∀C fp pins s H,PCs (t6 X N0 scope ys C fp pins s H) ifs tc) (he:∀C fp pins s H,PE (t6 X N0 scope ys C fp pins s H) elt te)
 (hs:∀x,foldedSetIterable iter X.env x=pure x:=by intro _;rfl):PE X (.ListComp elt [⟨tg,iter,ifs,0⟩] scope pos) (b42 wi g tc te ys.length):=by
 intro pins s σ H Q I h
 rw [eval_ListComp]
 refine a9A hx hc S hi hg ht he hs I h λD C s' H' m I' hn hC gone q=>⟨m,hn,λh' hs'=>⟨.ref D,H', ?_,rfl,q⟩⟩
 obtain⟨g1,g2,g3,g4⟩:=gone
 exact I'.turned (t':=s'.toks) (λb o hb e=>hs'.extBut b o hb e) hC g1 (.inr g2) g3 g4
theorem c0J(hx:∀e s,X.xe e s->False)(hc:X.calm=true)(S:C5 X.N N0 ys X.env scope)(hi:PI X tg iter wi)
 (hg:∀C fp pins s H,PG (t6 X N0 scope ys C fp pins s H) tg g) (ht:∀C fp pins s H,PCs (t6 X N0 scope ys C fp pins s H) ifs tc) (he:∀C fp pins s H,PE (t6 X N0 scope ys C fp pins s H) elt te)
 (hN:X.N.Nodup) (hiy:X.N[i]?=ξ y) (hy:X.env.scope.names.lookup y=ξ .local)
 (hsw:swapsWith (.ListComp elt [⟨tg,iter,ifs,0⟩] scope pos) (ξ (.Name y py)) spos.line X.env=pure true)
 (hs:∀x,foldedSetIterable iter X.env x=pure x:=by intro _;rfl):PS X (.Assign [.Name y py] (.ListComp elt [⟨tg,iter,ifs,0⟩] scope pos) spos) (λD σ H=>b42 wi g tc te ys.length σ H λv H'=>D.nx (σ.set i (ξ v)) H'):=by
 intro pins s σ H D I h
 rw [exec_Assign_Name_used _ _ _ _ hsw]
 refine AC (wpAny_standAt (AC ?_))
 refine AC (wpAny_mono (a9A hx hc S hi hg ht he hs I h λL C s' H' m I' hn hC gone q=> ?_) (λ_ s' hq=>AH (AH hq)) λ_ _ e=>e)
 obtain⟨g1,g2,g3,g4⟩:=gone
 refine wpAny_assign_Name (b0e (v:= .ref L) I' hN hiy (.inl hy) rfl (λs2 I2 ⟨a,sb,ha⟩=> ?_) (.inr hy))
 have hCa:C≠a:=by
  rcases ha with z|z
  ·rw [z];exact g1
  ·exact λe=>g3 y a z e.symm
 refine⟨m,hn.sameBut sb hCa,λh' hs'=>⟨_,H',I2.turned (t':=s2.toks) (λb o hb e=>hs'.extBut b o hb e) hC g1 (.inr g2) g3 g4,q⟩⟩
end
end L2
namespace PU
open L2
noncomputable def a3G(c:MT)(elt:M)(tg:PV->d5->Υ d5)(ρ:d5):List PV->Υ (List PV)
 |[]=>ξ []
 |p::ps=>(tg p ρ).bind λρ1=>(c ρ1).bind λb=>if b=true then((elt ρ1).bind g5.toVal).bind λq=>(a3G c elt tg ρ ps).bind λr=>ξ (q::r) else a3G c elt tg ρ ps
def L8:MT:=λ_=>ξ true
def C4(k:Nat)(it:MI)(tg:PV->d5->Υ d5)(c:MT)(elt:M):M:=λρ=>(it ρ).bind λps=>if ps.length<=AQ then(a3G c elt tg (ρ++Aq k ζ) ps).bind λr=>ξ (.own r) else ζ
def a9k(K:AD)(n:Nat)(g:TG)(tg:PV->d5->Υ d5):Prop:=
 ∀F H σ ρ ρ1 p x (Q:L2.St->Hp->Prop),O4 K F H σ ρ->A3 K F p x->tg p ρ=ξ ρ1->(∀σ',O4 K F H σ' ρ1->(∀(j:Nat),j<n->σ'[j]?=σ[j]?)->Q σ' H)->g x σ H Q
theorem O4.set{K:AD}{F H:Hp}{σ:L2.St}{ρ:d5}{p:PV}{x:V}(e:O4 K F H σ ρ)(r:A3 K F p x)(i:Nat):O4 K F H (σ.set i (ξ x)) (ρ.set i (ξ (.v p))):=by
 refine⟨e.fh,by simp [e.len],λj q h=> ?_,λj ps h=> ?_,λj k ps qs a hjk h1 h2 h3 h4=> ?_⟩
 ·rw [List.getElem?_set] at h ⊢
  by_cases hij:i=j
  ·subst hij;rw [if_pos rfl] at h ⊢;rw [e.len];split at h
   ·rename_i c;cases h;rw [if_pos c];exact⟨x,rfl,r⟩
   ·cases h
  ·rw [if_neg hij] at h ⊢;exact e.at_ j q h
 ·rw [List.getElem?_set] at h
  by_cases hij:i=j
  ·subst hij;rw [if_pos rfl] at h;split at h<;>cases h
  ·rw [if_neg hij] at h;exact e.nb j ps h
 ·have get:∀(j:Nat) (ps:a0T),(ρ.set i (ξ (g5.v p)))[j]?=ξ (ξ (g5.ow ps))->i≠j/\ρ[j]?=ξ (ξ (g5.ow ps)):=λj ps h=>by
   rw [List.getElem?_set] at h
   by_cases hij:i=j
   ·subst hij;rw [if_pos rfl] at h;split at h<;>cases h
   ·rw [if_neg hij] at h;exact⟨hij,h⟩
  obtain⟨n1,h1⟩:=get j ps h1;obtain⟨n2,h2⟩:=get k qs h2;rw [List.getElem?_set_ne n1] at h3;rw [List.getElem?_set_ne n2] at h4;exact e.ap j k ps qs a hjk h1 h2 h3 h4
theorem u6{K:AD}{n i:Nat}(h:n<=i):a9k K n (a4K i) (g6 i):=λF H σ ρ ρ1 p x Q e r q k=>by
 cases q;exact k _ (e.set r i) λj hj=>by rw [List.getElem?_set_ne (by lia)]
theorem O4.more{K:AD}{F H:Hp}{σ:L2.St}{ρ:d5}(e:O4 K F H σ ρ)(k:Nat):O4 K F H (σ++Aq k ζ) (ρ++Aq k ζ):=by
 have key:∀(j:Nat) (q:g5),(ρ++Aq k ζ)[j]?=ξ (ξ q)->ρ[j]?=ξ (ξ q)/\(σ++Aq k ζ)[j]?=σ[j]?:=λj q h=>by
  by_cases hj:j<ρ.length
  ·rw [BC hj] at h;rw [BC (by rw [e.len];exact hj)]
   exact⟨h,rfl⟩
  ·rw [List.getElem?_append_right (by lia),List.getElem?_replicate] at h
   split at h<;>cases h
 refine⟨e.fh,by simp [e.len],λj q h=> ?_,λj ps h=>e.nb j ps (key j _ h).1,λj k' ps qs a hjk h1 h2 h3 h4=> ?_⟩
 ·obtain⟨h1,h2⟩:=key j q h;rw [h2];exact e.at_ j q h1
 ·obtain⟨a1,b1⟩:=key j _ h1;obtain⟨a2,b2⟩:=key k' _ h2;rw [b1] at h3;rw [b2] at h4;exact e.ap j k' ps qs a hjk a1 a2 h3 h4
def WC(K:AD)(F H:Hp)(D:AB)(c:MT)(elt:M)(tg:PV->d5->Υ d5)(ρ:d5)(ps r:List PV)(i m:Nat)(xs:List V)(H':Hp):Prop:=
 ∃F' done rest,i<=ps.length/\m=ps.length - i/\R5 F H F' H'/\F' D=ζ/\m7 K F' done xs/\done.length<=i/\a3G c elt tg ρ (ps.drop i)=ξ rest/\done++rest=r
theorem b5l{K:AD}{F H:Hp}{D:AB}{c:MT}{elt:M}{tg:PV->d5->Υ d5}{g:TG}{σ:L2.St}{ρ:d5}{k:Nat}{ps r:List PV}{i m:Nat}{xs:List V}{H':Hp}{p:PV}{x:V}
 (T:a9k K ρ.length g tg) (en:O4 K F H σ ρ) (hD:H D=ζ) (hsz:ps.length<=AQ) (W:WC K F H D c elt tg (ρ++Aq k ζ) ps r i m xs H') (hx:H' D=ξ (.lst xs)) (ep:ps[i]?=ξ p) (rx:A3 K F p x):
 g x (σ++Aq k ζ) H' λσ4 H4=>(∀(j:Nat) v,(σ++Aq k ζ)[j]?=ξ (ξ v)->σ4[j]?=ξ (ξ v))/\tMT K c σ4 H4 λb H5=>if b=true then tM K elt σ4 H5 λv H6=>H6 D=ξ (.lst xs)/\xs.length<AQ/\∃m',m'<m/\WC K F H D c elt tg (ρ++Aq k ζ) ps r (i+1) m' (xs++[v]) (n5 H6 D (.lst (xs++[v])))
  else H5 D=ξ (.lst xs)/\∃m',m'<m/\WC K F H D c elt tg (ρ++Aq k ζ) ps r (i+1) m' xs H5:=by
 obtain⟨F',done,rest,hi,hm,ex,fD,rl,dl,hc,hr⟩:=W
 have hk:i<ps.length:=(Al.mp ep).1
 have hd:ps.drop i=p::ps.drop (i+1):=by
  rw [List.drop_eq_getElem_cons hk]
  congr 1
  exact(Al.mp ep).2
 rw [hd] at hc
 unfold a3G at hc
 obtain⟨ρ1,e1,hc⟩:=bind_some hc
 obtain⟨b,e2,hc⟩:=bind_some hc
 have en':=(en.ext ex).more k
 refine T F' H' _ _ ρ1 p x _ en' (A3.mono ex.f _ rx) e1 λσ4 en4 keep=>⟨λj v e=> ?_, ?_⟩
 ·by_cases hj:j<ρ.length
  ·rw [keep j hj];exact e
  ·rw [List.getElem?_append_right (by rw [en.len];lia),List.getElem?_replicate] at e
   split at e<;>cases e
 refine⟨F',ρ1,b,en4,e2,λF5 H5 x5=> ?_⟩
 have ex5:=ex.trans x5
 have fD5:F5 D=ζ:=x5.nw D _ fD hx (λ_ h=>nomatch h)
 cases b with
 |false=>
  rw [if_neg As] at hc
  refine b5L ⟨x5.h _ _ hx,ps.length - (i+1),by lia,F5,done,rest,by lia,rfl,ex5,fD5,m7.mono x5.f _ rl,by lia,hc,hr⟩
 |true=>
  rw [if_pos rfl] at hc
  obtain⟨q,e3,hc⟩:=bind_some hc
  obtain⟨rt,e4,hc⟩:=bind_some hc
  cases hc
  obtain⟨re,e5,e6⟩:=bind_some e3
  refine b5M ⟨F5,ρ1,re,en4.ext x5,e5,λv F6 H6 o6=> ?_⟩
  obtain⟨F7,o7⟩:=o6.toVal e6
  have hx6:H6 D=ξ (.lst xs):=o6.x.h _ _ (x5.h _ _ hx)
  have fD7:F7 D=ζ:=o7.x.nw D _ fD5 (x5.h _ _ hx) (λ_ h=>nomatch h)
  have ex7:=ex5.trans o7.x
  have hlen:=rl.length
  refine⟨hx6,by lia,ps.length - (i+1),by lia,F7,done++[q],rt,by lia,rfl,⟨ex7.f,λa o z=> ?_,λa o z=> ?_,ex7.nw,ex7.nf⟩,fD7,m7.append (m7.mono (x5.f.trans o7.x.f) _ rl) ⟨v,[],rfl,o7.rep,rfl⟩,by simp;lia,e4,by rw [List.append_assoc];exact hr⟩
  ·rw [f9 (j8 z hD)];exact ex7.h _ _ z
  ·rw [f9 (j8 z fD7)];exact ex7.fh _ _ z
theorem b62{K:AD}{F H:Hp}{D:AB}{c:MT}{elt:M}{tg:PV->d5->Υ d5}{ρ:d5}{ps r:List PV}{m:Nat}{xs:List V}{H':Hp}(hD:H D=ζ)(W:WC K F H D c elt tg ρ ps r ps.length m xs H')(hx:H' D=ξ (.lst xs)):∃F',w8 K F H F' H' (.ref D) (.own r):=by
 obtain⟨F',done,rest,hi,hm,ex,fD,rl,dl,hc,hr⟩:=W;rw [List.drop_length] at hc;cases hc;rw [An] at hr;subst hr;exact⟨F',ex,⟨D,xs,rfl,fD,hx,rl⟩,λ_ _ _ e=>by cases e;exact hD⟩
structure Src(K:AD)(F0 F H:Hp)(J:It)(ps:List PV):Prop where
 st:∀i H',m3 H H'->ps.length<=i->J.stop i H'
 go:∀i p H',m3 H H'->ps[i]?=ξ p->J.go i H'
 yd:∀i p x H' H'',m3 H H'->ps[i]?=ξ p->J.yld i H' x H''->H''=H'/\A3 K F p x
def SI(K:AD)(mi:MI)(wi:TI):Prop:=∀F H σ ρ ps (R:It->Hp->Prop),O4 K F H σ ρ->mi ρ=ξ ps->(∀F1 H1 J,R5 F H F1 H1->Src K F F1 H1 J ps->R J H1)->wi σ H R
abbrev EI(X:Cx)(tg iter:AO)(mi:MI):Prop:=∃wi,PI X tg iter wi/\SI X.K mi wi
section
variable {X:Cx}{tg:AO}
def Q5(m:M):MI:=λρ=>(m ρ).bind λr=>PyData.items? r.rd
theorem b0E(h:EE X l m):EI X tg l (Q5 m):=⟨_,b8O h,λF H σ ρ ps R en e k=>by
 obtain⟨r,e1,e2⟩:=bind_some e;refine⟨F,ρ,r,en,e1,λv F1 H1 o1=> ?_⟩;obtain⟨a,xs,rfl,hq,rl⟩:=G5 o1.x.fh o1.rep e2;have hlen:=rl.length;rcases hq with hq|hq
 ·refine⟨a,rfl,.inl ⟨⟨xs,hq⟩,k F1 H1 _ o1.x ⟨λi H2 s h=>⟨xs,B9 s hq,by lia⟩,λi p H2 s h=> ?_,λi p x H2 H3 s h y=> ?_⟩⟩⟩
  ·obtain⟨v,ev,_⟩:=rl.get h;exact⟨xs,v,B9 s hq,ev⟩
  ·obtain⟨v,ev,rv⟩:=rl.get h;obtain⟨e,y⟩:=y;have:=y xs (B9 s hq);rw [ev] at this;cases this;exact⟨e,rv⟩
 ·refine⟨a,rfl,.inr ⟨⟨xs,hq⟩,k F1 H1 _ o1.x ⟨λi H2 s h=>⟨xs,C0 s hq,by lia⟩,λi p H2 s h=> ?_,λi p x H2 H3 s h y=> ?_⟩⟩⟩
  ·obtain⟨v,ev,_⟩:=rl.get h;exact⟨xs,v,C0 s hq,ev⟩
  ·obtain⟨v,ev,rv⟩:=rl.get h;obtain⟨e,y⟩:=y;have:=y xs (C0 s hq);rw [ev] at this;cases this;exact⟨e,rv⟩⟩
theorem c0S{K:AD}{F0 F H:Hp}{lo hi:Int}:Src K F0 F H (Itr lo (hi - lo).toNat) (J9 lo hi):=by
 have hl:=Q9 lo hi;refine⟨λi H2 s h=> ?_,λi p H2 s h=> ?_,λi p x H2 H3 s h y=> ?_⟩
 ·show(hi - lo).toNat<=i;lia
 ·have:=(Al.mp h).1;show i<(hi - lo).toNat;lia
 ·have hi':=(Al.mp h).1;rw [a8q (by lia)] at h
  cases h;obtain⟨e,y⟩:=y;exact⟨e,y⟩
theorem N5{a:AO}{m:MA}{p rp:Pos}(hgl:Gl X "range")(hm:X.mg "range"=ζ)(ha:EA X [a] m)(hst:AJ [a] X.env=[(false,eval a X.env)]:=by rfl):EI X tg (.Call (.Name "range" p) [a] [] rp) (u9 m):=⟨_,a94 hgl hm ha hst,λF H σ ρ ps R en e k=>by
 obtain⟨qs,e1,e2⟩:=bind_some e;refine⟨F,ρ,qs,en,e1,λvs F1 H1 x rl=> ?_⟩;split at e2
 ·rename_i j;split at e2
  ·rename_i c;have c:=b0Q.mp c;cases e2;obtain⟨v,r,rfl,rv,rr⟩:=rl;cases rv;cases rr;have hz:(j - 0).toNat=j.toNat:=by lia
   refine⟨j,rfl,c.1,c.2,k F1 H1 _ x ?_⟩;have z:=c0S (K:=X.K) (F0:=F) (F:=F1) (H:=H1) (lo:=0) (hi:=j);rw [hz] at z;exact z
  ·cases e2
 ·cases e2⟩
abbrev EC(X:Cx)(ifs:List AO)(c:MT):Prop:=PCs X ifs (tMT X.K c)
theorem X4:EC X [] L8:=λpins s σ H Q I ⟨F,ρ,b,en,e,k⟩=>by
 cases e;exact b4L pins s σ H Q I (k F H (R5.refl en.fh))
theorem b0B(h:ET X c mc):EC X [c] mc:=b4M h
theorem a9B{mi:MI}{wi:TI}{g:TG}{c:MT}{elt:M}{t:PV->d5->Υ d5}{N:List Str}{k:Nat}(hi:SI X.K mi wi)(T:∀n,n=N.length->a9k X.K n g t){σ:L2.St}{H:Hp}{Q:VK}(hl:σ.length=N.length)(h:tM X.K (C4 k mi t c elt) σ H Q):b42 wi g (tMT X.K c) (tM X.K elt) k σ H Q:=by
 obtain⟨F,ρ,r,en,e,kk⟩:=h;obtain⟨ps,e1,e⟩:=bind_some e;split at e
 ·rename_i hsz;obtain⟨rs,e2,e⟩:=bind_some e;cases e;refine hi F H σ ρ ps _ en e1 λF1 H1 J x1 S D hD=> ?_;have en1:=en.ext x1;have T':a9k X.K ρ.length g t:=T _ (by rw [<-en.len,hl])
  refine⟨WC X.K F1 H1 D c elt t (ρ++Aq k ζ) ps rs,⟨ps.length,F1,[],rs,Nat.zero_le _,rfl,R5.layH x1.fh hD,x1.fh.free hD,rfl,AM _,e2,rfl⟩,λi m xs H2 W hx=> ?_⟩;have W':=W;obtain⟨F',done,rest,hi',hm,ex,fD,rl,dl,hc,hr⟩:=W';have sF:=ex.h
  by_cases hlt:i<ps.length
  ·refine .inr ⟨S.go i ps[i] H2 sF (by simp [hlt]),λx H3 y=> ?_⟩
   obtain⟨e3,rx⟩:=S.yd i ps[i] x H2 H3 sF (by simp [hlt]) y
   subst e3;exact b5l T' en1 hD hsz W hx (by simp [hlt]) rx
  ·have e3:i=ps.length:=by lia
   subst e3;refine .inl ⟨S.st _ H2 sF (AM _), ?_⟩;obtain⟨F2,o⟩:=b62 hD W hx;exact kk _ F2 H2 (w8.trans x1 o)
 ·cases e
theorem N4{elt iter:AO}{ifs:List AO}{scope:Scope}{N0 ys:List Str}{mi:MI}{g:TG}{c:MT}{m:M}{t:PV->d5->Υ d5}{pos:Pos}(hx:∀e s,X.xe e s->False)(hc:X.calm=true)(S:C5 X.N N0 ys X.env scope)(hi:EI X tg iter mi)
 (hg:∀C fp pins s H,PG (t6 X N0 scope ys C fp pins s H) tg g) (T:∀n,n=X.N.length->a9k X.K n g t) (ht:∀C fp pins s H,EC (t6 X N0 scope ys C fp pins s H) ifs c) (he:∀C fp pins s H,EE (t6 X N0 scope ys C fp pins s H) elt m)
 (hs:∀x,foldedSetIterable iter X.env x=pure x:=by intro _;rfl):EE X (.ListComp elt [⟨tg,iter,ifs,0⟩] scope pos) (C4 ys.length mi t c m):=by
 obtain⟨wi,h1,h2⟩:=hi
 intro pins s σ H Q I h
 exact b1d hx hc S h1 hg ht he hs pins s σ H Q I (a9B h2 T I.len h)
theorem a6R{i:Nat}{y:Str}{elt iter:AO}{ifs:List AO}{scope:Scope}{N0 ys:List Str}{mi:MI}{g:TG}{c:MT}{m:M}{t:PV->d5->Υ d5}{pos py spos:Pos}(hN:X.N.Nodup)(hx:∀e s,X.xe e s->False)(hc:X.calm=true)(S:C5 X.N N0 ys X.env scope)(hi:EI X tg iter mi)
 (hg:∀C fp pins s H,PG (t6 X N0 scope ys C fp pins s H) tg g) (T:∀n,n=X.N.length->a9k X.K n g t) (ht:∀C fp pins s H,EC (t6 X N0 scope ys C fp pins s H) ifs c) (he:∀C fp pins s H,EE (t6 X N0 scope ys C fp pins s H) elt m)
 (hiy:X.N[i]?=ξ y:=by rfl) (hy:X.env.scope.names.lookup y=ξ .local:=by rfl) (hsw:swapsWith (.ListComp elt [⟨tg,iter,ifs,0⟩] scope pos) (ξ (.Name y py)) spos.line X.env=pure true:=by rfl)
 (hs:∀x,foldedSetIterable iter X.env x=pure x:=by intro _;rfl):ES X (.Assign [.Name y py] (.ListComp elt [⟨tg,iter,ifs,0⟩] scope pos) spos) (p9 i (C4 ys.length mi t c m)):=by
 obtain⟨wi,h1,h2⟩:=hi
 intro pins s σ H D I ⟨F0,H0,F,ρ,fl,so,e,fin⟩
 obtain⟨r,e1,e⟩:=bind_some e
 split at e
 ·rename_i c
  cases e
  exact c0J hx hc S h1 hg ht he hN hiy hy hsw hs pins s σ H D I (a9B h2 T I.len ⟨F,ρ,r,so.e,e1,λv F' H' o=>fin _ F' H' o.x.f (so.set o c i)⟩)
 ·cases e
end
def Y3:List PV->Υ (List Str)
 |[]=>ξ []
 | .str x::r=>(Y3 r).map (x::·)
 |_=>ζ
theorem a4o:∀xs:List Str,Y3 (xs.map .str)=ξ xs
 |[]=>rfl
 |x::xs=>by rw [AI];simp only [Y3,a4o xs,BB]
theorem a1U{K:AD}{H:Hp}:∀{ps:List PV} {ys:List Str} {xs:List V} {us:List AA},Y3 ps=ξ ys->m7 K H ps xs->t0 xs us->StrsAre us ys
 |[],_,_,_,h,r,v=>by cases h;cases r;cases v;exact .nil
 |p::ps,ys,_,_,h,⟨x,r,e,hp,t⟩,v=>by
  subst e;cases p with
  |str z=>
   simp only [Y3] at h;cases q:Y3 ps with
   |none=>rw [q] at h;cases h
   |some zs=>
    rw [q] at h;cases h;cases hp;cases v with
    |cons a b=>
     obtain⟨tk,rfl⟩:=a;exact .cons z tk (a1U q t b)
  |_=>simp [Y3] at h
def Y7(x y:g5):Υ g5:=match x with
 | .v (.str z)=>(match PyData.items? y.rd with
   |some ps=>(Y3 ps).bind λys=>if(ys.map (·.length)).sum+ys.length*z.length<=16777216 then ξ (.v (.str (Txt.join z ys))) else ζ
   |none=>ζ)
 |_=>ζ
section
theorem c0t:MtR X "str.join" (λx xs H Q=>∃F y rx ry rz,xs=[y]/\m3 F H/\M5 X.K F H x rx/\M5 X.K F H y ry/\Y7 rx ry=ξ rz/\∀v F' H',w8 X.K F H F' H' v rz->Q v H'):=by
 intro pins s σ H x xs v us Q I rx rv h;obtain⟨F,y,ra,rb,rz,rfl,s0,h1,h2,h3,k⟩:=h;obtain⟨u,rfl,ru⟩:=a0R rv;unfold Y7 at h3;split at h3
 ·rename_i z;split at h3
  ·rename_i ps e;obtain⟨ys,e2,h3⟩:=bind_some h3;split at h3
   ·rename_i c;cases h3;cases h1;obtain⟨t,rfl⟩:=rx;obtain⟨a,xs,rfl,hq,r⟩:=G5 s0 h2 e;cases ru;rcases hq with hq|hq
    ·obtain⟨its,rv,pl,hz⟩:=I.list hq;exact join_list pl.isList (by simpa using a1U e2 r rv) c λt' k'=>⟨.str _,H,I.tok _,⟨_,rfl⟩,k _ F H (w8.here s0 rfl)⟩
    ·obtain⟨its,rv,pl,hz⟩:=I.tuple hq;exact join_tuple pl (by simpa using a1U e2 r rv) c λt' k'=>⟨.str _,H,I.tok _,⟨_,rfl⟩,k _ F H (w8.here s0 rfl)⟩
   ·cases h3
  ·cases h3
 ·cases h3
theorem a1D(ho:EE X o m)(ha:EE X e n)
 (hbase:attributeBase o "join" X.env (eval o X.env)=eval o X.env:=by rfl)
 (hfew:((backTo cpos (AJ [e] X.env)).all (λx=> !x.1)&&(backToKw cpos (keywordEach [] X.env)).all (λx=>x.1.isSome)
  && decide ([e].length+([]:List Keyword).length+(if([]:List Keyword).isEmpty then 0 else 1)<30))=true:=by rfl)
 (hline:(apos.endLine==cpos.line)=true:=by rfl) (hs:AJ [e] X.env=(false,eval e X.env)::AJ [] X.env:=by rfl) (hplain:(backTo cpos (AJ [] X.env)).any (·.1)=false:=by rfl):
 EE X (.Call (.Attribute o "join" apos) [e] [] cpos) (m2 Y7 m n):=
 u5 (b8F PySem.F.plainAttrs_str PySem.F.slot_str_join PySem.F.type_str_join c0t ho (y0 ha O3 hs) hbase hfew hline hs hplain) λσ H Q h0=>u0 h0 λF ρ r he hm k=>by
  ext f
  unfold Y7 at hm;split at hm
  ·cases o1.rep;rfl
  ·cases hm
end
def cut(xs:List α)(lo hi:Υ Int):List α:=(xs.drop (HT.sIx xs.length 0 lo)).take (HT.sIx xs.length xs.length hi - HT.sIx xs.length 0 lo)
theorem b1N(n d:Nat)(hd:d<=n)(o:Υ Int):(match o with|none=>(d:Int)|some i=>max 0 (min (if i<0 then i+n else i) n))=((HT.sIx n d o:Nat):Int):=by
 cases o with
 |none=>rfl
 |some i=>unfold HT.sIx;dsimp only;split<;>lia
theorem a9c(items:Array AA)(lo hi:Υ Int):slicePick items lo hi ζ=(cut items.toList lo hi).toArray:=by
 have hz:items.toList.length=items.size:=by simp
 unfold slicePick cut;rw [hz];have key:∀a b:Int,a=((HT.sIx items.size 0 lo:Nat):Int)->b=((HT.sIx items.size items.size hi:Nat):Int)->(List.filterMap (items[·]?) (sliceRange a b 1)).toArray=((items.toList.drop (HT.sIx items.size 0 lo)).take (HT.sIx items.size items.size hi - HT.sIx items.size 0 lo)).toArray:=λa b ha hb=>by rw [ha,hb,sliceRange_one,pick_run]
 refine key _ _ ?_ ?_
 ·cases lo with
  |none=>rfl
  |some i=>exact b1N items.size 0 (Nat.zero_le _) (ξ i)
 ·cases hi with
  |none=>rfl
  |some i=>exact b1N items.size items.size (AM _) (ξ i)
theorem m7.cut{K:AD}{H:Hp}{ps:List PV}{xs:List V}(r:m7 K H ps xs)(lo hi:Υ Int):m7 K H (PU.cut ps lo hi) (PU.cut xs lo hi):=by
 unfold PU.cut;rw [r.length];exact(r.drop _).take _
theorem a6Q(xs:List α)(lo hi:Υ Int):(cut xs lo hi).length<=xs.length:=by
 unfold cut;rw [List.length_take,List.length_drop];lia
section
theorem c3e:SlR X (λx lo hi H Q=>∃a xs,x= .ref a/\SqL X.K H a xs/\∀p,H p=ζ->Q (.ref p) (n5 H p (.lst (PU.cut xs lo hi)))):=by
 intro pins s σ H x v vl vu lo hi sl Q I rx hs pl pu h;obtain⟨a,xs,rfl,hx,q⟩:=h;cases rx;obtain⟨its,r,pl',hz⟩:=I.list hx;have hlen:=r.length;refine⟨"list",_,list_getitem_lookup,pl'.isList.typeIs, ?_⟩;refine wpAny_getItem_list_slice pl'.isList hs pl pu .none (by simp) ?_ (by rw [Az];lia)
 rw [a9c];refine⟨.ref s.heap.objs.size,_,I.laid (t':=s.toks) (λb ob q=>AY _ q) (AM _) ?_,rfl,q _ (I.hok.fresh (AM _))⟩;refine⟨Nat.le_trans (a6Q xs lo hi) hz,PU.cut its lo hi,0, ?_,Ao _ rfl⟩;unfold PU.cut;rw [hlen];exact(r.drop _).take _
def gSl(x:g5)(lo hi:Υ Int):Υ g5:=match x with
 | .v (.list ps)=>ξ (.own (cut ps lo hi))
 | .ow (.lst ps)=>ξ (.own (cut ps lo hi))
 | .bo (.lst ps)=>ξ (.own (cut ps lo hi))
 |_=>ζ
def rSl(K:AD):V->Υ Int->Υ Int->Hp->VK->Prop:=λx lo hi H Q=>∃F rx rz,m3 F H/\M5 K F H x rx/\gSl rx lo hi=ξ rz/\∀v F' H',w8 K F H F' H' v rz->Q v H'
theorem slm:SlR X (rSl X.K):=by
 intro pins s σ H x v vl vu lo hi sl Q I rx hs pl pu h;obtain⟨F,ra,rz,s0,h1,h2,k⟩:=h;have lst:∀ps,PyData.items? ra.rd=ξ ps->(∃a xs,x= .ref a/\SqL X.K H a xs/\m7 X.K F ps xs)->rz= .own (cut ps lo hi)->∃T id,typeLookup (.type T) "__getitem__"=pure (ξ (.builtin id))/\s.TypeIs v T/\AG (model X.prog X.w) X.A (getItem v (.ref sl)) (EP X pins σ Q) X.xe s:=λps e ⟨a,xs,e1,hq,rl⟩ e2=>by
  subst e2;exact c3e pins s σ H x v vl vu lo hi sl Q I rx hs pl pu ⟨a,xs,e1,hq,λp hp=>k _ _ _ (w8.lst s0 hp (rl.cut lo hi))⟩
 unfold gSl at h2;split at h2
 ·rename_i ps;cases h2;obtain⟨a,xs,e1,hq,rl⟩:=h1;exact lst ps rfl ⟨a,xs,e1,B9 s0 hq,rl⟩ rfl
 ·rename_i ps;cases h2;obtain⟨a,xs,e1,_,hq,rl⟩:=h1;exact lst ps rfl ⟨a,xs,e1,SqL.of hq,rl⟩ rfl
 ·rename_i ps;cases h2;obtain⟨a,xs,e1,_,hq,rl⟩:=h1;exact lst ps rfl ⟨a,xs,e1,SqL.of hq,rl⟩ rfl
 ·cases h2
abbrev MO:=d5->Υ (Υ Int)
def tMO(K:AD)(m:MO):TO:=λσ H Q=>∃F ρ o,O4 K F H σ ρ/\m ρ=ξ o/\∀F' H',R5 F H F' H'->Q o H'
abbrev EO(X:Cx)(e:Υ AO)(m:MO):Prop:=PO X e (tMO X.K m)
def a76:MO:=λ_=>ξ ζ
def b4v:g5->Υ (Υ Int)
 | .v (.int i)=>ξ (ξ i)
 |_=>ζ
def a38(m:M):MO:=λρ=>(m ρ).bind b4v
theorem b0G:EO X ζ a76:=λpins s σ H Q I ⟨F,ρ,o,en,e,k⟩=>by
 cases e;exact c0G pins s σ H Q I (k F H (R5.refl en.fh))
theorem a4E(h:EE X e m):EO X (ξ e) (a38 m):=λpins s σ H Q I ⟨F,ρ,o,en,e1,k⟩=>by
 obtain⟨r,e2,e3⟩:=bind_some e1;refine c0H h pins s σ H Q I ⟨F,ρ,r,en,e2,λv F1 H1 o1=> ?_⟩;unfold b4v at e3;split at e3
 ·cases e3;exact⟨_,o1.rep,k F1 H1 o1.x⟩
 ·cases e3
def a5K(m:M)(lo hi:MO):M:=λρ=>(m ρ).bind λr=>(lo ρ).bind λl=>(hi ρ).bind λh=>gSl r l h
theorem a4D{e:AO}{lo hi:Υ AO}{m:M}{ml mh:MO}{pos p2:Pos}(he:EE X e m)(hl:EO X lo ml)(hh:EO X hi mh):EE X (.Subscript e (.Slice lo hi ζ p2) pos) (a5K m ml mh):=
 u5 (b8M slm he hl hh) λσ H Q h0=>u0 h0 λF ρ r en e k=>by
  obtain⟨ra,e1,e⟩:=bind_some e;obtain⟨l,e2,e⟩:=bind_some e;obtain⟨h,e3,e⟩:=bind_some e;exact⟨F,ρ,ra,en,e1,λv F1 H1 o1=>⟨F1,ρ,l,en.ext o1.x,e2,λF2 H2 x2=>⟨F2,ρ,h,(en.ext o1.x).ext x2,e3,λF3 H3 x3=>⟨F3,ra,r,x3.fh,(o1.rep.ext x2).ext x3,e,λz F4 H4 o4=>k z F4 H4 (w8.trans ((o1.x.trans x2).trans x3) o4)⟩⟩⟩⟩
end
def Its(x:Str):It:=⟨λi _=>i<x.cps.size,λi H v H'=>H'=H/\∃c,x.cps[i]?=ξ c/\v= .str ⟨#[c]⟩,λi _=>x.cps.size<=i⟩
section
structure b2W(K:AD)(F:Hp)(J:It)(ps:List PV):Prop where
 st:∀i H',m3 F H'->ps.length<=i->J.stop i H'
 go:∀i p H',m3 F H'->ps[i]?=ξ p->J.go i H'
 yd:∀i p x H' H'',m3 F H'->ps[i]?=ξ p->J.yld i H' x H''->H''=H'/\A3 K F p x
end
def a32:g5->g5->Υ g5
 | .v (.int i),.v (.int j)=>ξ (.v (.bool (decide (i<j))))
 |_,_=>ζ
section
theorem b1b:OpM X (compareOp .Lt) a32:=by
 ext e
 unfold a32 at h3;split at h3
 ·cases h3;cases h1;cases h2;exact c38 pins s σ H _ _ v u Q I rx ry ⟨_,_,rfl,rfl,k _ F H (w8.here s0 rfl)⟩
 ·cases h3
def a8X(neg:Bool)(x y:g5):Υ g5:=gIn neg x y
theorem a43(hu:X.A.units+64<cLine):OpM X (compareOp .In) (a8X false):=c2N hu
def c3S(neg:Bool)(x y:g5):Υ g5:=c2d neg x y
theorem c0A:OpM X (compareOp .Is) (c3S false):=c0B
def b3e(x:g5):Υ g5:=b7C x
theorem b64(hc:X.calm=true):E4 X (.type "list") (rC1 X.K b3e):=b9R
def R6:g5->g5->Υ g5:=K2 b1t λi j=> .int (i*j)
theorem B8:OpM X (binaryOp .Mult) R6:=c0C
def c0D(i j:Nat)(ρ:d5):List PV->Υ Fl
 |[p,q]=>ξ (.nx (setAll ρ [i,j] [.v p,.v q]))
 |_=>ζ
def c2y(i j:Nat)(m:MA):MS:=λρ=>(m ρ).bind (c0D i j ρ)
theorem c15(i j:Nat){kt k2 pt2}(hN:X.N.Nodup)(hc:X.calm=true)(ha:EA X [a,b] m)(hij:i≠j:=by decide)(hi:X.N[i]?=ξ x:=by rfl)(hj:X.N[j]?=ξ y:=by rfl)
 (hx:X.env.scope.names.lookup x=ξ .local:=by rfl) (hy:X.env.scope.names.lookup y=ξ .local:=by rfl)
 (hw:swappedStores [.Tuple [.Name x px,.Name y py] kt pt] (.Tuple [a,b] k2 pt2) X.env=pure (ξ [x,y]):=by rfl)
 (hs:swapsWithSole [.Tuple [.Name x px,.Name y py] kt pt] (.Tuple [a,b] k2 pt2) pos.line X.env=pure false:=by rfl):
 ES X (.Assign [.Tuple [.Name x px,.Name y py] kt pt] (.Tuple [a,b] k2 pt2) pos) (c2y i j m):=
 B0 (c22 hc hN hi hj hij hx hy ha hw hs) λD σ H h0=>D9 h0 λF0 H0 F ρ fl so e fin=>by
  obtain⟨ps,e1,e⟩:=bind_some e;unfold c0D at e;split at e
  ·rename_i p q;cases e;refine⟨F,ρ,_,so.e,e1,λvs F' H' x rl=> ?_⟩;obtain⟨v,t,rfl,hp,w,t2,rfl,hq,rfl⟩:=id rl;exact⟨v,w,rfl,fin _ F' H' x.f ((so.ext x).setAll (is:=[i,j]) rl)⟩
  ·cases e
theorem b8g(i j:Nat)(m:MA)(ρ:d5):c2y i j m ρ=(m ρ).bind (c0D i j ρ):=ω
theorem c2O(i j:Nat)(ρ:d5)(p q:PV):c0D i j ρ [p,q]=ξ (.nx ((ρ.set i (ξ (.v p))).set j (ξ (.v q)))):=ω
end
noncomputable def p7(kvs:Γ)(k:List k4):Υ PV:=(kvs.find? λkv=>decide (kv.1=k)).map (·.2)
noncomputable def G2(kvs:Γ)(k:List k4)(v:PV):Γ:=
 if(kvs.any λkv=>decide (kv.1=k))=true then kvs.map (λkv=>if kv.1=k then(kv.1,v) else kv) else kvs++[(k,v)]
theorem v9.length{K:AD}{H:Hp}:∀{kvs:Γ} {ys:List (List k4×V)},v9 K H kvs ys->ys.length=kvs.length
 |[],_,h=>by cases h;rfl
 |(k,p)::r,_,⟨v,t,e,q,h⟩=>by subst e;rw [AT,AT,v9.length h]
theorem v9.any{K:AD}{H:Hp}{k:List k4}:∀{kvs:Γ} {ys:List (List k4×V)},v9 K H kvs ys->(ys.any λkv=>decide (kv.1=k))=(kvs.any λkv=>decide (kv.1=k))
 |[],_,h=>by cases h;rfl
 |(k',p)::r,_,⟨v,t,e,q,h⟩=>by subst e;rw [List.any_cons,List.any_cons,v9.any h]
theorem v9.val{K:AD}{H:Hp}{k:List k4}:∀{kvs:Γ} {ys:List (List k4×V)},v9 K H kvs ys->(∀p,p7 kvs k=ξ p->∃v,U0 ys k=ξ v/\A3 K H p v)/\(p7 kvs k=ζ->U0 ys k=ζ)
 |[],_,h=>by cases h;exact⟨λp e=>(nomatch e),λ_=>rfl⟩
 |(k',p)::r,_,⟨v,t,e,q,h⟩=>by
  subst e
  by_cases c:k'=k
  ·have e1:p7 ((k',p)::r) k=ξ p:=by simp [p7,List.find?_cons,c]
   have e2:U0 ((k',v)::t) k=ξ v:=a1r c;rw [e1,e2];exact⟨λp' e'=>(by cases e';exact⟨v,rfl,q⟩),λe'=>(nomatch e')⟩
  ·have e1:p7 ((k',p)::r) k=p7 r k:=by simp [p7,List.find?_cons,c]
   have e2:U0 ((k',v)::t) k=U0 t k:=a1q c;rw [e1,e2];exact v9.val h
theorem v9.repl{K:AD}{H:Hp}{k:List k4}{p:PV}{v:V}(hp:A3 K H p v):∀{kvs:Γ} {ys:List (List k4×V)},v9 K H kvs ys->v9 K H (kvs.map λkv=>if kv.1=k then(kv.1,p) else kv) (ys.map λkv=>if kv.1=k then(kv.1,v) else kv)
 |[],_,h=>by cases h;exact rfl
 |(k',p')::r,_,⟨v',t,e,q,h⟩=>by
  subst e
  by_cases c:k'=k
  ·rw [AI,AI];simp only [if_pos c];exact⟨v,_,rfl,hp,v9.repl hp h⟩
  ·rw [AI,AI];simp only [if_neg c];exact⟨v',_,rfl,q,v9.repl hp h⟩
theorem v9.snoc{K:AD}{H:Hp}{k:List k4}{p:PV}{v:V}(hp:A3 K H p v):∀{kvs:Γ} {ys:List (List k4×V)},v9 K H kvs ys->v9 K H (kvs++[(k,p)]) (ys++[(k,v)])
 |[],_,h=>by cases h;exact⟨v,[],rfl,hp,rfl⟩
 |(k',p')::r,_,⟨v',t,e,q,h⟩=>by subst e;exact⟨v',_,rfl,q,v9.snoc hp h⟩
theorem v9.put{K:AD}{H:Hp}{k:List k4}{p:PV}{v:V}{kvs:Γ}{ys:List (List k4×V)}(r:v9 K H kvs ys)(hp:A3 K H p v):v9 K H (G2 kvs k p) (a1O ys k v):=by
 unfold G2 a1O;rw [r.any];split
 ·exact r.repl hp
 ·exact r.snoc hp
theorem w8.dct{K:AD}{F H:Hp}{a:AB}(s:m3 F H)(n:H a=ζ):w8 K F H F (n5 H a (.dT [])) (.ref a) (.dct []):=
 ⟨R5.layH s n,⟨a,[],rfl,s.free n,g8,rfl⟩,λ_ _ _ e=>by cases e;exact n⟩
section
def a4T:M:=λ_=>ξ (.dct [])
theorem a3d{pos:Pos}:EE X (.Dict [] [] pos) a4T:=
 u5 b8L λσ H Q h0=>u0 h0 λF ρ r en e k=>by
  cases e;exact λd hd=>k _ _ _ (w8.dct en.fh hd)
def a7B(i:Nat)(ρ:d5)(p:PV)(k:List k4):Υ Fl:=match ρ[i]? with
 |some (ξ (.ow (.dct kvs)))=>if kvs.length<AQ then ξ (.nx (ρ.set i (ξ (.dct (G2 kvs k p))))) else ζ
 |_=>ζ
def b2c(i:Nat)(mk:MA)(mv:M):MS:=λρ=>((mv ρ).bind g5.toVal).bind λp=>(mk ρ).bind λks=>if ks.length<=AQ then(keysOf ks).bind (a7B i ρ p) else ζ
theorem b93(i:Nat){x:Str}{p tp tp2 pos:Pos}{es:List AO}{e:AO}{x1}{mk:MA}{mv:M}(hu:X.A.units+64<cLine)(hx:PE X (.Name x p) (G9 i))(hi:EA X es mk)(he:EE X e mv)
 (hs:swapsWith e (ξ (.Subscript (.Name x p) (.Tuple es x1 tp) tp2)) pos.line X.env=pure false:=by rfl):ES X (.Assign [.Subscript (.Name x p) (.Tuple es x1 tp) tp2] e pos) (b2c i mk mv):=
 B0 (b1f (by lia) hx (b1e hi) he hs) λD σ H h0=>D9 h0 λF0 H0 F ρ fl so e fin=>by
  obtain⟨q,e1,e⟩:=bind_some e;obtain⟨r,e2,e3⟩:=bind_some e1;obtain⟨ks,e4,e⟩:=bind_some e;split at e
  ·rename_i hz;obtain⟨k,e5,e⟩:=bind_some e;refine⟨F,ρ,r,so.e,e2,λv F1 H1 o=> ?_⟩;obtain⟨F2,o2⟩:=o.toVal e3;have so2:=so.ext o2.x;unfold a7B at e;split at e
   ·rename_i kvs eo;split at e
    ·ext ad
     refine⟨.ref a,hw1,F2,ρ,ks,so2.e,e4,λvs F3 H3 x3 rl3=>⟨by rw [rl3.length];exact hz,λb hb=> ?_⟩⟩
     have ev:=T4 e5 rl3;have so3:=(so2.ext x3).ext (R5.lay (o:= .tup vs) x3.fh hb);have ha3:=x3.h _ _ ha';have hne:a≠b:=λh=>by subst h;rw [hb] at ha3;cases ha3
     have ha4:n5 H3 b (.tup vs) a=ξ (.dT xs):=by rw [f9 hne];exact ha3
     refine⟨a,_,rfl,b0l.t (k:=k) ha4 (by rw [g8,ev]) (by rw [rl.length];exact hl), ?_⟩
     have up:m3 F2 (n5 F3 b (.tup vs)):=x3.f.trans (B1 (x3.fh.free hb));exact fin σ _ _ (o2.x.f.trans up) (so3.putD eo hw1 ((v9.mono up _ rl).put (A3.mono up _ o2.rep)))
    ·cases e
   ·cases e
  ·cases e
def b4a(i:Nat)(ρ:d5)(k:List k4):Υ g5:=match ρ[i]? with
 |some (ξ (.ow (.dct kvs)))=>(p7 kvs k).map .v
 |_=>ζ
def a9W(i:Nat)(mk:MA):M:=λρ=>(mk ρ).bind λks=>if ks.length<=AQ then(keysOf ks).bind (b4a i ρ) else ζ
theorem b0C(i:Nat){x1}(hu:X.A.units+64<cLine)(hx:PE X (.Name x p) (G9 i))(hi:EA X es mk)(hs:b5d (.Tuple es x1 tp):=by intro _ _;rfl):EE X (.Subscript (.Name x p) (.Tuple es x1 tp) pos) (a9W i mk):=
 u5 (a44 (by lia) hx (b1e hi) hs) λσ H Q h0=>u0 h0 λF ρ r en e k=>by
  obtain⟨ks,e4,e⟩:=bind_some e;split at e
  ·rename_i hz;obtain⟨kk,e5,e⟩:=bind_some e;unfold b4a at e;split at e
   ·rename_i kvs eo;cases hv:p7 kvs kk with
    |none=>rw [hv] at e;cases e
    |some q=>
     rw [hv] at e;cases e;obtain⟨w,hw1,a,xs,rfl,fa,ha',rl⟩:=en.at_ i _ eo;obtain⟨y,hy,ry⟩:=(rl.val (k:=kk)).1 q hv;refine⟨.ref a,hw1,F,ρ,ks,en,e4,λvs F3 H3 x3 rl3=>⟨by rw [rl3.length];exact hz,λb hb=> ?_⟩⟩
     have ev:=T4 e5 rl3;have ha3:=x3.h _ _ ha';have hne:a≠b:=λh=>by subst h;rw [hb] at ha3;cases ha3
     have ha4:n5 H3 b (.tup vs) a=ξ (.dT xs):=by rw [f9 hne];exact ha3
     ext ae
   ·cases e
  ·cases e
end
def b7M:AA->Bool
 | .int _ _=>true
 |_=>false
theorem b3r{K:AD}{a:AB}{o:Obj}:K.lookup a=ξ o->∃b,(b,o)∈K:=by
 induction K with
 |nil=>intro h;cases h
 |cons p r ih=>
  intro h;obtain⟨b,u⟩:=p;rw [List.lookup_cons] at h;split at h
  ·cases h;exact⟨b,AZ ..⟩
  ·obtain⟨c,hc⟩:=ih h;exact⟨c,Ag _ hc⟩
theorem b34:∀{k:List k4} {us:List AA},t0 (k.map kV) us->k.any Sum.isLeft=true->us.any b7M=true
 |[],_,_,h=>by cases h
 |k::ks,_,r,h=>by
  rw [AI] at r;cases r with
  |cons r1 r2=>
   rw [List.any_cons] at h ⊢;cases k with
   |inl i=>obtain⟨t,rfl⟩:=(show ∃t,_=Value.int i t from r1);rfl
   |inr x=>
    have:=b34 r2 (by simpa using h)
    rw [this,Bool.or_true]
theorem v9.isSome{K:AD}{H:Hp}{k:List k4}{kvs:Γ}{ys:List (List k4×V)}(r:v9 K H kvs ys):(U0 ys k).isSome=(p7 kvs k).isSome:=by
 cases hv:p7 kvs k with
 |none=>rw [(r.val).2 hv];rfl
 |some p=>
  obtain⟨v,e,_⟩:=(r.val).1 p hv;rw [e];rfl
section
variable {X:Cx}
def b5r(neg:Bool)(i:Nat)(ρ:d5)(k:List k4):Υ g5:=match ρ[i]? with
 |some (ξ (.ow (.dct kvs)))=>ξ (.v (.bool (if neg then !(p7 kvs k).isSome else(p7 kvs k).isSome)))
 |_=>ζ
theorem c4n{t:TE}{m:M}(i:∀σ H Q,tM X.K m σ H Q->t σ H Q){σ:L2.St}{H:Hp}{Q:Bool->Hp->Prop}(h:tMT X.K (W4 m) σ H Q):tB t σ H Q:=by
 obtain⟨F,ρ,b,h1,h2,k⟩:=h;obtain⟨r,e1,e2⟩:=bind_some h2;exact i _ _ _ ⟨F,ρ,r,h1,e1,λv F1 H1 o=>⟨b,a46 o.rep e2,k F1 H1 o.x⟩⟩
def b0S(r:g5):Υ Str:=match r with
 | .v (.str x)=>ξ x
 |_=>ζ
end
theorem b0T(x:Str):b0S (.v (.str x))=ξ x:=ω
noncomputable def b5I(x:Str):List Str->List Str
 |[]=>[x]
 |y::r=>if y.cps.toList<x.cps.toList then y::b5I x r else x::y::r
def a0v:List Str->List Str
 |[]=>[]
 |x::r=>b5I x (a0v r)
theorem a5D(x:Str):∀l:List Str,(b5I x l).Perm (x::l)
 |[]=>List.Perm.refl _
 |y::r=>by
  unfold b5I;split
  ·exact((a5D x r).cons y).trans (List.Perm.swap x y r)
  ·exact List.Perm.refl _
theorem E8:∀l:List Str,(a0v l).Perm l
 |[]=>List.Perm.refl _
 |x::r=>(a5D x (a0v r)).trans ((E8 r).cons x)
def leS(a b:Str):Prop:=¬b.cps.toList<a.cps.toList
theorem a7Y(h:leS a b)(g:leS b a):a=b:=by
 have e:=List.le_antisymm h g;cases a;cases b;simp at e ⊢;exact e
theorem a5H(h:leS a b)(g:leS b c):leS a c:=List.le_trans h g
theorem a6l(x:Str):∀{l:List Str},l.Pairwise leS->(b5I x l).Pairwise leS
 |[],_=>List.pairwise_singleton _ _
 |y::r,h=>by
  unfold b5I;have h':=List.pairwise_cons.mp h;split
  ·rename_i c;refine List.pairwise_cons.mpr ⟨λz hz=> ?_,a6l x h'.2⟩;rcases AX.mp ((a5D x r).mem_iff.mp hz) with e|e
   ·subst e;exact List.lt_asymm c
   ·exact h'.1 z e
  ·rename_i c;refine List.pairwise_cons.mpr ⟨λz hz=> ?_,h⟩;rcases AX.mp hz with e|e
   ·subst e;exact c
   ·exact a5H c (h'.1 z e)
theorem L5:∀l:List Str,(a0v l).Pairwise leS
 |[]=>List.Pairwise.nil
 |x::r=>a6l x (L5 r)
theorem a0P:∀{l m:List Str},l.Pairwise leS->m.Pairwise leS->l.Perm m->l=m
 |[],m,_,_,p=>(List.Perm.nil_eq p)
 |a::l,[],_,_,p=>by have:=p.length_eq;simp at this
 |a::l,b::m,hl,hm,p=>by
  have hl':=List.pairwise_cons.mp hl;have hm':=List.pairwise_cons.mp hm;have e:a=b:=by
   have m1:=p.mem_iff.mp AZ;have m2:=p.mem_iff.mpr AZ;rcases AX.mp m1 with e|e
   ·exact e
   ·rcases AX.mp m2 with g|g
    ·exact g.symm
    ·exact a7Y (hl'.1 b g) (hm'.1 a e)
  subst e;rw [a0P hl'.2 hm'.2 (List.Perm.cons_inv p)]
theorem a98:∀{p:Str} {l:List Str},risingS p l=true->(p::l).Pairwise leS
 |p,[],_=>List.pairwise_singleton _ _
 |p,x::r,h=>by
  unfold risingS at h;rw [χ] at h;have ih:=a98 h.2;have h1:leS p x:=by
   have:=h.1;rw [ltCps_eq] at this;unfold leS
   simpa using this
  refine List.pairwise_cons.mpr ⟨λz hz=> ?_,ih⟩;rcases AX.mp hz with e|e
  ·subst e;exact h1
  ·exact a5H h1 ((List.pairwise_cons.mp ih).1 z e)
theorem a8G:∀{l:List Str},sortedS l=true->l.Pairwise leS
 |[],_=>List.Pairwise.nil
 |x::r,h=>a98 h
section
theorem b3R(hT:T="list"\/T="tuple")(ho:s.heap.get? l=ξ o)(hc:o.cls= .type T)(hd:o.data= .seq vs.toArray n)(hS:StrsAre vs ss)(h64:vs.length<64)
 (h:∀(h1 h':Heap) (e:Nat) (us:List AA),(∀b o',s.heap.get? b=ξ o'->h1.get? b=ξ o')->(∀b o',h1.get? b=ξ o'->h'.get? b=ξ o')->StrsAre us (a0v ss)->h'.get? h1.objs.size=ξ (seqObj "list" us.toArray e)->Q (.ref h1.objs.size) {s with heap:=h'}):
 AG (model prog w) A (call (.builtin "sorted") [.ref l]) Q E s:=by
 refine Calls.call_function_entry kind_sorted plain_sorted entry_sorted (args_sorted1 _) ?_
 unfold Builtin.«sorted»
 refine AC (m:=checkCount "sorted" 1 1 _) (AH ?_)
 refine AC (wpAny_collect_seq l hT ho hc hd (λh1 k1=> ?_) (by rw [Az,sizeLine_eq];lia))
 have ev:vs.toArray.toList=vs:=by simp
 rw [ev]
 refine AC (wpAny_newList ?_)
 have hoL:(h1.push (seqObj "list" vs.toArray 0)).get? h1.objs.size=ξ (seqObj "list" vs.toArray 0):=Ao _ rfl
 refine AC (wpAny_holding (wpAny_call_entry slot_list_sort ⟨_,hoL,rfl⟩ entry_list_sort (list_sort_treeK strKind_oneLt hoL hS.keysOf (λv₁ v₂ rest e=>keyKind_strs (by rw [<-e];exact hS)) h64 λst' a1 a2=>⟨_,rfl, ?_⟩) (args_list_sort _)))
 obtain⟨ss',g1,g2,g3⟩:=sorted_out_str hS a1 a2
 have e1:ss'=a0v ss:=a0P (a8G g3) (L5 ss) (g2.trans (E8 ss).symm)
 subst e1
 obtain⟨e,he⟩:=sortedHeap_at (out:=(arrOf st').map (·.2)) hoL
 refine AH ⟨_,rfl,h h1 _ e _ k1 (λb o' hb1=> ?_) g1 (by rw [Array.toArray_toList];exact he)⟩
 have hlt:=Ac hb1
 rw [sortedHeap_old (Aj hlt) (by rw [size_push'];exact Nat.lt_succ_of_lt hlt),Heap.get?_push_ne _ _ _ (Aj hlt)]
 exact hb1
end
theorem a3r:∀{us:List AA} {ss:List Str},StrsAre us ss->t0 (ss.map V.str) us
 |_,_,.nil=> .nil
 |_,_,.cons x t h=>by rw [AI];exact .cons ⟨t,rfl⟩ (a3r h)
theorem a8J:∀{us:List AA} {ss:List Str},StrsAre us ss->us.length=ss.length
 |_,_,.nil=>rfl
 |_,_,.cons x t h=>by rw [AT,AT,a8J h]
theorem a3q{K:AD}{H:Hp}:∀ss:List Str,m7 K H (ss.map PyData.str) (ss.map V.str)
 |[]=>rfl
 |x::r=>⟨_,_,rfl,rfl,a3q r⟩
def b0M(x:g5):Υ g5:=match PyData.items? x.rd with
 |some ps=>(Y3 ps).bind λss=>if ss.length<64 then ξ (.own ((a0v ss).map .str)) else ζ
 |none=>ζ
section
theorem b66:E4 X (.builtin "sorted") (rC1 X.K b0M):=by
 ext b
 unfold b0M at h2;split at h2
 ·rename_i ps e;obtain⟨ss,e1,h2⟩:=bind_some h2;split at h2
  ·ext o
   have fin:∀(its:List AA) (T:String) (o:Obj) (n:Nat),(T="list"\/T="tuple")->s.heap.get? a=ξ o->o.cls= .type T->o.data= .seq its.toArray n->t0 xs its->AG (model X.prog X.w) X.A (call (.builtin "sorted") [.ref a]) (EP X pins σ Q) X.xe s:=by
    intro its T o n hT ho hc hd rvv;have hS:=a1U e1 r rvv;refine b3R hT ho hc hd hS (by rw [a8J hS];exact c) λhp1 hp2 en us k1 k2 hs he=> ?_
    have I1:=I.kept (t':=s.toks) k1;have hlen:=(E8 ss).length_eq;have hf:=I1.hok.fresh (AM _);refine⟨.ref hp1.objs.size,_,I1.laid (t':=s.toks) (h':=hp2) (o:= .lst ((a0v ss).map V.str)) k2 (AM _) ⟨by rw [AN,hlen,sizeLine_eq];lia,us,en,a3r hs,he⟩,rfl,k _ F _ (w8.lst s0 hf (a3q _))⟩
   rcases hq with hq|hq
   ·ext k
   ·ext q
  ·cases h2
 ·cases h2
theorem a4Z{items}(hit:s.heap.IsTupleIter it t i)(ht:s.heap.IsTuple t items)(hx:items[i]?=ξ x)
 (hQ:∀h',h'.IsTupleIter it t (i+1)->Heap.SameBut it s.heap h'->Q x {s with heap:=h'}):AG (model prog w) A (Builtin.SmallTypes.nextOf (.ref it)) Q E s:=by
 obtain⟨o,ho,hc,hd⟩:=id hit
 obtain⟨ol,hol,_,nl,hdl⟩:=ht
 refine AC (wpAny_callSpecial?_slot hit.typeIs F.slot_tuple_iterator_next
  (wpAny_call_entry F.slot_tuple_iterator_next hit.typeIs F.entry_tuple_iterator_next ?_ (F.args_tuple_iterator_next_1 _)))
 show AG _ _ (field (.ref it) 0>>=_) _ _ s
 refine AC (wpAny_field ho hd (x:= .ref t) rfl ?_)
 rw [if_neg (show ¬((Value.ref t==Value.none)=true) from As)]
 refine AC (wpAny_field ho hd rfl ?_)
 refine AC (wpAny_seqItems hol hdl ?_)
 simp only [BH,hx]
 refine AC (wpAny_setField ho hd (by simp) (AH ⟨x,rfl,AH (hQ _ ?_ (Heap.SameBut.update ..))⟩))
 exact⟨_,Heap.get?_update_self _ ho (Obj.isFreed_of_fields (Obj.data_mapFields hd _)),(Obj.cls_mapFields ..).trans hc,by
  rw [Obj.data_mapFields hd];simp [rawInt]⟩
theorem a1j{items}(hh:A.handled=ζ)(hit:s.heap.IsTupleIter it t i)(ht:s.heap.IsTuple t items)(hx:items[i]?=ζ)
 (hE:∀h' e,Heap.ExtBut it s.heap h'->(∃o,h'.get? e=ξ o/\o.cls= .type "StopIteration")->E (.ref e) {s with heap:=h'}):AG (model prog w) A (Builtin.SmallTypes.nextOf (.ref it)) Q E s:=by
 obtain⟨o,ho,hc,hd⟩:=id hit
 obtain⟨ol,hol,_,nl,hdl⟩:=ht
 refine AC (wpAny_callSpecial?_slot hit.typeIs F.slot_tuple_iterator_next
  (wpAny_call_entry F.slot_tuple_iterator_next hit.typeIs F.entry_tuple_iterator_next ?_ (F.args_tuple_iterator_next_1 _)))
 show AG _ _ (field (.ref it) 0>>=_) _ _ s
 refine AC (wpAny_field ho hd (x:= .ref t) rfl ?_)
 rw [if_neg (show ¬((Value.ref t==Value.none)=true) from As)]
 refine AC (wpAny_field ho hd rfl ?_)
 refine AC (wpAny_seqItems hol hdl ?_)
 simp only [BH,hx]
 refine AC (wpAny_rule (AC (wpAny_setField ho hd (by simp) ?_)))
 refine AC ?_
 simp only [newExc,newTuple]
 refine AC (wpAny_newObj_type ?_ (by size_fits))
 refine AC (wpAny_of_eq (by first|rfl|(simp only [firstArgMember];rfl)) ?_)
 refine wpAny_newObj_type ?_ (by size_fits)
 simp only [raiseNew]
 refine AC (wpAny_handled ?_)
 first|rw [show A.in1.handled=ζ from hh]|rw [hh]
 refine AC (AH (wpAny_throw ?_))
 exact hE _ _ (((Heap.SameBut.update ..).extBut.push _).push _) ⟨_,Ao _ rfl,rfl⟩
end
theorem b1U(hh:A.handled=ζ)(it l:AB)(hne:l≠it)(items:Array AA):
 Draws prog w A it [it,l] items.size (λi v=>items[i]?=ξ v) (λi h=>h.IsTupleIter it l i/\h.IsTuple l items) where
 live:=λ_ _ st=>let ⟨o,ho,_⟩:=st.1;⟨o,ho⟩
 frame:=λ_ _ _ st hk=>⟨st.1.at λo e=>hk it (by simp) o e,let ⟨o,e,r⟩:=st.2;⟨o,hk l (by simp) o e,r⟩⟩
 item:=λi s Q E hi st hQ=>by
  refine a4Z st.1 st.2 (x:=items[i]) (by simp [hi]) λh' hit' hs'=> ?_
  exact hQ _ h' s.toks (by simp [hi]) ⟨hit',let ⟨o,e,r⟩:=st.2;⟨o,(hs'.2 l hne).trans e,r⟩⟩ hs'
 done:=λs Q E st hE=>a1j hh st.1 st.2 (by simp) hE
theorem a2R(l:AB)(items:Array AA)(n:Nat)(dct:Υ AB)(sl:Array (Υ AA)):
 Meets (Builtin.«enumerate.__new__» ⟨[.type "enumerate",.ref l],[]⟩) (λ_ R s=>s.heap.get? l=ξ {cls:= .type "tuple",dict:=dct,data:= .seq items n,slots:=sl}/\
  R (.ok (.ret (.ref (s.heap.push {cls:= .type "tuple_iterator",data:= .fields #[.ref l,.int 0 0]}).objs.size)))
   {s with heap:=(s.heap.push {cls:= .type "tuple_iterator",data:= .fields #[.ref l,.int 0 0]}).push {cls:= .type "enumerate",data:= .fields #[.none,.bool false,.ref s.heap.objs.size,rawInt 0,.none,.none]}}):=
 .of_wp λprog w A R s h=>by
  obtain⟨hp,g,d,tk,os⟩:=s;obtain⟨hl,h⟩:=h;have hsub:=sub_enumerate;have hL:Heap.IsTuple (Shared.heap ⟨hp,g,d,tk,os⟩) l items:=⟨_,hl,rfl,n,rfl⟩
  wp_walk using AutoSeq1.wpAny_loadPart' hl
  refine wpAny_stack_any λst=>AH ?_;split
  ·rename_i c _ _ _ _ _;cases(c==Value.type "enumerate")
   ·wp_walk using AutoSeq1.wpAny_loadPart' hl,wpAny_pyIter_tuple hL
    exact⟨_,rfl,h⟩
   ·wp_walk using AutoSeq1.wpAny_loadPart' hl,wpAny_pyIter_tuple hL
    exact⟨_,rfl,h⟩
  ·wp_walk using AutoSeq1.wpAny_loadPart' hl,wpAny_pyIter_tuple hL
   exact⟨_,rfl,h⟩
section
theorem a2r(hL:s.heap.IsTuple l items)
 (h:∀h',IsEnum h' (s.heap.objs.size+1) s.heap.objs.size 0 .none->h'.IsTupleIter s.heap.objs.size l 0->h'.objs.size=s.heap.objs.size+2->
  (∀b o,s.heap.get? b=ξ o->h'.get? b=ξ o)->Q (.ref (s.heap.objs.size+1)) {s with heap:=h'}):
 AG (model prog w) A (call (.type "enumerate") [.ref l]) Q E s:=by
 obtain⟨⟨c,dct,dt,sl⟩,hl,hc,n,hd⟩:=hL
 replace hc:c= .type "tuple":=hc
 replace hd:dt= .seq items n:=hd
 subst hc hd
 refine callType_new F.called_enumerate (by decide) (F.typeCall_enumerate_1 _) (F.newCall_enumerate_1 _) (λobj=>F.args_object_init_2 obj _) F.entry_enumerate_new
  (a2R l items n dct sl) ⟨hl, ?_⟩
 have hz:(s.heap.push {cls:= .type "tuple_iterator",data:= .fields #[.ref l,.int 0 0]}).objs.size=s.heap.objs.size+1:=Heap.size_push ..
 rw [hz]
 have he:IsEnum ((s.heap.push {cls:= .type "tuple_iterator",data:= .fields #[.ref l,.int 0 0]}).push
  {cls:= .type "enumerate",data:= .fields #[.none,.bool false,.ref s.heap.objs.size,rawInt 0,.none,.none]}) (s.heap.objs.size+1) s.heap.objs.size 0 .none:=by
  have:=Ao (s.heap.push {cls:= .type "tuple_iterator",data:= .fields #[.ref l,.int 0 0]})
   (o:={cls:= .type "enumerate",data:= .fields #[.none,.bool false,.ref s.heap.objs.size,rawInt 0,.none,.none]}) rfl
  rw [hz] at this;exact this
 refine⟨⟨_,he,rfl⟩,h _ he ⟨_,AY _ (Ao _ rfl),rfl,rfl⟩ (by rw [Heap.size_push,hz]) λb o x=>AY _ (AY _ x)⟩
end
theorem j4.turnedTup(I:j4 X pins σ H s)(fe:a5l X pins H e)(fi:a5l X pins H it)
 (k:∀b o,b≠e->b≠it->s.heap.get? b=ξ o->h'.get? b=ξ o) (new:z8 X.prog X.w (n5 H s.heap.objs.size (.tup xs)) h' s.heap.objs.size (.tup xs)):
 j4 X pins σ (n5 H s.heap.objs.size (.tup xs)) {s with heap:=h',toks:=t'}:=by
 have hn:=I.hok.fresh (AM _)
 have nb:∀b u,H b=ξ u->b≠e/\b≠it:=λb u q=>⟨λz=>(by rw [z,fe.1] at q;cases q),λz=>(by rw [z,fi.1] at q;cases q)⟩
 refine I.step (g':=s.gens) (d':=s.drawn) (ch:=[e,it]) (λb hb=> ?_) (λb o _ _ hc q _=>k b o (λz=>hc (by simp [z])) (λz=>hc (by simp [z])) q) (λb o _ _ hc q _=>⟨o.slots,k b o (λz=>hc (by simp [z])) (λz=>hc (by simp [z])) q⟩)
  (λb o _ q n=>by rw [f9 (Aj (Ac q))];exact n) (λb o hc q=>⟨o,k b o (λz=>hc (by simp [z])) (λz=>hc (by simp [z])) q⟩)
  (λb xs q=>by rw [f9 (j8 q hn)];exact q) (λb o u q=>by rw [f9 (j8 q hn)];exact q) (λb ps q=>⟨#[],by rw [f9 (j8 q hn),q];simp⟩) (λm hm=> ?_) (λb u q=> ?_) I.bare
 ·have hb:b=e\/b=it:=by simpa using hb
  rcases hb with rfl|rfl
  ·exact⟨fe.2.2.2.1,fe.2.1,fe.2.2.2.2.1,fe.2.2.2.2.2⟩
  ·exact⟨fi.2.2.2.1,fi.2.1,fi.2.2.2.2.1,fi.2.2.2.2.2⟩
 ·obtain⟨o,es,ep,ho,r⟩:=hm
  exact⟨o,es,ep,k _ o (Ne.symm fe.2.1) (Ne.symm fi.2.1) ho,r⟩
 ·by_cases hb:b=s.heap.objs.size
  ·subst hb
   rw [g8] at q
   cases q
   exact new
  ·rw [f9 hb] at q
   refine(I.hok b u q).stay (λc v hc y=>k c v ?_ ?_ y) (λc y=>by rw [f9 (j8 y hn)];exact y) λc ys y=>by rw [f9 (j8 y hn)];exact y
   ·rcases hc with z|z
    ·rw [z];exact(nb b u q).1
    ·exact(nb c _ z).1
   ·rcases hc with z|z
    ·rw [z];exact(nb b u q).2
    ·exact(nb c _ z).2
def Ite(J:It):It:=⟨J.go,λi H v H'=>∃x t,J.yld i H x H/\H t=ζ/\v= .ref t/\H'=n5 H t (.tup [.int i,x]),J.stop⟩
structure b1y(P:AS)(w:AL)(K:AD)(J:It)(it:AB)(tn:Nat->Heap->Prop):Prop where
 obj:∀i h,tn i h->∃o,h.get? it=ξ o/\∀v,o.data≠.cell v
 keep:∀i h h',tn i h->(∀o,h.get? it=ξ o->h'.get? it=ξ o)->tn i h'
 item:∀(X:Cx),X.prog=P->X.w=w->X.K=K->X.calm=true->∀(i:Nat) (pins:List (AB×Obj)) (s:AE) (σ:L2.St) (H:Hp),j4 X pins σ H s->a5l X pins H it->tn i s.heap->J.go i H->
  ∃(fp:List AB) (n:Nat) (Pq:Nat->AA->Prop) (St:Nat->Heap->Prop),Draws P w X.A.in1 it fp n Pq St/\St i s.heap/\i<n/\(∀e old,e≠it->IsEnum s.heap e it i old->e∉fp)/\(∀v,Pq i v->∃x,m8 x v/\J.yld i H x H)/\∀h',St (i+1) h'->tn (i+1) h'
 done:∀(X:Cx),X.prog=P->X.w=w->X.K=K->X.calm=true->∀(i:Nat) (pins:List (AB×Obj)) (s:AE) (σ:L2.St) (H:Hp),j4 X pins σ H s->a5l X pins H it->tn i s.heap->J.stop i H->
   ∃(fp:List AB) (n:Nat) (Pq:Nat->AA->Prop) (St:Nat->Heap->Prop),Draws P w X.A.in1 it fp n Pq St/\St n s.heap
theorem b6v{P:AS}{w:AL}{K:AD}{J:It}{e it:AB}{tn:Nat->Heap->Prop}{elts:List AO}{x1}{pos:Pos}(D:b1y P w K J it tn)(hne:e≠it):
 b2Y P w K (.Tuple elts x1 pos) (Ite J) [e,it] e (λi h=>(∃old,IsEnum h e it i old)/\tn i h) where
 mem:=by simp
 obj:=λi h ⟨⟨old,he⟩,st⟩ b hb=>by
  have hb:b=e\/b=it:=by simpa using hb
  rcases hb with rfl|rfl
  ·exact⟨_,he,λv z=>by cases z⟩
  ·exact D.obj i h st
 keep:=λi h h' ⟨⟨old,he⟩,st⟩ k=>⟨⟨old,k e (by simp) _ he⟩,D.keep i h h' st λo q=>k it (by simp) o q⟩
 item:=by
  intro X hP hw hK hc i pins s σ H E I hf ⟨⟨old,he⟩,st⟩ hg;have fe:=hf e (by simp)
  have fi:=hf it (by simp)
  obtain⟨fp,n,Pq,St,DD,hst,hlt,hef,hy,hnx⟩:=D.item X hP hw hK hc i pins s σ H I fi st hg;subst hP hw hK;refine wpAny_pyNext_enum_itemD DD he hst hlt hne (hef e old hne he) λu h' tk hPu hout hst' htup hsz hk=>⟨_,rfl, ?_⟩;obtain⟨x,rx,yx⟩:=hy u hPu;refine wpAny_letOwnedTupleGo_enum hout λh2 he2 hs2=> ?_;have helt:e<s.heap.objs.size:=Ac he;have hilt:it<s.heap.objs.size:=by obtain⟨o,q,_⟩:=D.obj i _ st;exact Ac q
  have htup2:h2.get? s.heap.objs.size=ξ {cls:= .type "tuple",data:= .seq #[.int i tk,u]}:=(hs2.2 _ (Nat.ne_of_gt helt)).trans htup;have I2:j4 X pins σ (n5 H s.heap.objs.size (.tup [.int i,x])) {s with heap:=h2,toks:=tk+1}:=by
   refine j4.turnedTup I fe fi (λb o hbe hbi q=>(hs2.2 b hbe).trans (hk b o hbe hbi q)) ?_;exact⟨by rw [sizeLine_eq];simp,[.int i tk,u],.cons ⟨tk,rfl⟩ (.cons rx .nil),⟨_,htup2,rfl,0,rfl⟩⟩
  refine⟨.ref s.heap.objs.size,_,I2,rfl,⟨x,s.heap.objs.size,yx,I.hok.fresh (AM _),rfl,rfl⟩,⟨⟨_,by simpa using he2⟩,D.keep _ _ _ (hnx h' hst') λo q=>(hs2.2 it (Ne.symm hne)).trans q⟩,λb hb=> ?_⟩
  have hb:b=e\/b=it:=by simpa using hb
  rcases hb with rfl|rfl
  ·rw [f9 (Aj helt)];exact fe.1
  ·rw [f9 (Aj hilt)];exact fi.1
 done:=by
   intro X hP hw hK hc i pins s σ H E I hf ⟨⟨old,he⟩,st⟩ hg;have fi:=hf it (by simp)
   obtain⟨fp,n,Pq,St,DD,hst⟩:=D.done X hP hw hK hc i pins s σ H I fi st hg;subst hP hw hK;exact wpAny_pyNext_enum_endD DD he hst λh' eb=>⟨rfl,I.turned (t':=s.toks) (λb o hb q=>eb b o hb q) fi.1 fi.2.1 fi.2.2.2.1 fi.2.2.2.2.1 fi.2.2.2.2.2⟩
 self:=λ_ _ _ _ _ ⟨⟨_,he⟩,_⟩ h=>wpAny_pyIter_enum he h
theorem a5u{prog:AS}{w:AL}{A:AU}{it:AB}{fp:List AB}{i:Nat}{S0:Heap->Prop}(lv:∀h,S0 h->∃o,h.get? it=ξ o)(fr:∀h h',S0 h->(∀b∈fp,∀o,h.get? b=ξ o->h'.get? b=ξ o)->S0 h')
 (en:∀(s:AE) (Q:AA->AE->Prop) (E:AA->AE->Prop),S0 s.heap->(∀h' e,Heap.ExtBut it s.heap h'->(∃o,h'.get? e=ξ o/\o.cls= .type "StopIteration")->E (.ref e) {s with heap:=h'})->AG (model prog w) A (Builtin.SmallTypes.nextOf (.ref it)) Q E s):
 Draws prog w A it fp i (λ_ _=>True) (λk h=>k=i/\S0 h) where
 live:=λ_ h st=>lv h st.2
 frame:=λ_ h h' st k=>⟨st.1,fr h h' st.2 k⟩
 item:=λk s Q E hk st _=>by have:=st.1;lia
 done:=λs Q E st hE=>en s Q E st.2 hE
theorem b1X{P:AS}{w:AL}{K:AD}(a it:AB):b1y P w K (Itt K a) it (λi h=>h.IsTupleIter it a i) where
 obj:=λi h st=>by
  ext d
 keep:=λi h h' st k=>st.at λo e=>k o e
 item:=by
  ext g
  obtain⟨xs,x,hq,hx⟩:=hg;obtain⟨its,rv,p,hz⟩:=I.tuple hq;obtain⟨u,hu,ru⟩:=rv.get hx;have p':=p;have hai:a≠it:=λz=>by
   subst z;obtain⟨o,e,c,_⟩:=p';obtain⟨o2,e2,c2,_⟩:=st;rw [e] at e2;cases e2;rw [c] at c2;injection c2 with c2
   exact absurd c2 (by decide)
  refine⟨_,_,_,_,b1U (prog:=X.prog) (w:=X.w) (A:=X.A.in1) (show X.A.in1.handled=ζ from I.ok.hd hc) it a hai its.toArray,⟨st,p'⟩, ?_,λe old hne he hm=> ?_,λv hv=> ?_,λh' z=>z.1⟩
  ·have:=(Al.mp hu).1
   simpa using this
  ·have hm:e=it\/e=a:=by simpa using hm
   rcases hm with rfl|rfl
   ·exact hne rfl
   ·obtain⟨o,q,c,_⟩:=p';rw [he] at q;cases q;injection c with c
    exact absurd c (by decide)
  ·have hv:its[i]?=ξ v:=by simpa using hv
   rw [hu] at hv;cases hv;exact⟨x,ru,rfl,λys hy=>by rw [I.tuple_inj hy hq];exact hx⟩
 done:=by
   ext g
   obtain⟨xs,hq,hx⟩:=hg;obtain⟨its,rv,p,hz⟩:=I.tuple hq;have p':=p;have hl:=rv.length;exact⟨_,_,_,_,a5u (prog:=X.prog) (w:=X.w) (A:=X.A.in1) (it:=it) (fp:=[it,a]) (i:=i) (S0:=λh=>h.IsTupleIter it a i/\h.IsTuple a its.toArray) (λh z=>let ⟨o,ho,_⟩:=z.1;⟨o,ho⟩)
    (λh h' z k=>⟨z.1.at λo e=>k it (by simp) o e,let ⟨o,e,r⟩:=z.2;⟨o,k a (by simp) o e,r⟩⟩)
    (λs Q E z hE=>a1j (show X.A.in1.handled=ζ from I.ok.hd hc) z.1 z.2 (by simp;lia) hE),rfl,st,p'⟩
theorem b3a{P:AS}{w:AL}{K:AD}(a it:AB):b1y P w K (Itl K a) it (λi h=>h.IsListIter it a i) where
 obj:=λi h st=>by
  ext d
 keep:=λi h h' st k=>st.at λo e=>k o e
 item:=by
  ext g
  obtain⟨xs,x,hq,hx⟩:=hg;obtain⟨its,rv,p,hz⟩:=I.list hq;obtain⟨u,hu,ru⟩:=rv.get hx;have p':=p.isList;have hai:a≠it:=λz=>by
   subst z;obtain⟨o,e,c,_⟩:=p';obtain⟨o2,e2,c2,_⟩:=st;rw [e] at e2;cases e2;rw [c] at c2;injection c2 with c2
   exact absurd c2 (by decide)
  refine⟨_,_,_,_,Draws.list (prog:=X.prog) (w:=X.w) (A:=X.A.in1) (show X.A.in1.handled=ζ from I.ok.hd hc) it a hai its.toArray,⟨st,p'⟩, ?_,λe old hne he hm=> ?_,λv hv=> ?_,λh' z=>z.1⟩
  ·have:=(Al.mp hu).1
   simpa using this
  ·have hm:e=it\/e=a:=by simpa using hm
   rcases hm with rfl|rfl
   ·exact hne rfl
   ·obtain⟨o,q,c,_⟩:=p';rw [he] at q;cases q;injection c with c
    exact absurd c (by decide)
  ·have hv:its[i]?=ξ v:=by simpa using hv
   rw [hu] at hv;cases hv;exact⟨x,ru,rfl,λys hy=>by rw [I.list_inj hy hq];exact hx⟩
 done:=by
   ext g
   obtain⟨xs,hq,hx⟩:=hg;obtain⟨its,rv,p,hz⟩:=I.list hq;have p':=p.isList;have hl:=rv.length;exact⟨_,_,_,_,a5u (prog:=X.prog) (w:=X.w) (A:=X.A.in1) (it:=it) (fp:=[it,a]) (i:=i) (S0:=λh=>h.IsListIter it a i/\h.IsList a its.toArray) (λh z=>let ⟨o,ho,_⟩:=z.1;⟨o,ho⟩)
    (λh h' z k=>⟨z.1.at λo e=>k it (by simp) o e,z.2.at λo e=>k a (by simp) o e⟩)
    (λs Q E z hE=>wpAny_nextOf_list_end (show X.A.in1.handled=ζ from I.ok.hd hc) z.1 z.2 (by simp;lia) hE),rfl,st,p'⟩
theorem b5u{P:AS}{w:AL}{K:AD}(it:AB)(x:Str)(t:Tok):b1y P w K (Its x) it (λi h=>h.IsStrIter it (strIterType x) x t i) where
 obj:=λi h st=>by
  ext d
 keep:=λi h h' st k=>let ⟨o,e,r⟩:=st;⟨o,k o e,r⟩
 item:=by
  ext g
  have yl:∀v,(∃c u,x.cps[i]?=ξ c/\v=Value.str ⟨#[c]⟩ u)->∃y,m8 y v/\(Its x).yld i H y H:=λv ⟨c,u,h1,h2⟩=>⟨.str ⟨#[c]⟩,⟨u,h2⟩,rfl,c,h1,rfl⟩;cases ha:x.cps.all (· <128) with
  |true=>
   have et:strIterType x="str_ascii_iterator":=by simp [strIterType,ha]
   rw [et] at st ⊢;exact⟨_,_,_,_,Draws.strAscii (prog:=X.prog) (w:=X.w) (A:=X.A.in1) (show X.A.in1.handled=ζ from I.ok.hd hc) it x t,st,hg,λe old hne he hm=>hne (by simpa using hm),yl,λh' z=>z⟩
  |false=>
   have et:strIterType x="str_iterator":=by simp [strIterType,ha]
   rw [et] at st ⊢;exact⟨_,_,_,_,Draws.strWide (prog:=X.prog) (w:=X.w) (A:=X.A.in1) (show X.A.in1.handled=ζ from I.ok.hd hc) it x t,st,hg,λe old hne he hm=>hne (by simpa using hm),yl,λh' z=>z⟩
 done:=by
   ext g
   have hg:x.cps.size<=i:=hg;have hx:x.cps[i]?=ζ:=by simp [hg]
   refine⟨_,_,_,_,a5u (prog:=X.prog) (w:=X.w) (A:=X.A.in1) (it:=it) (fp:=[it]) (i:=i) (S0:=λh=>h.IsStrIter it (strIterType x) x t i) (λh z=>let ⟨o,ho,_⟩:=z;⟨o,ho⟩)
    (λh h' z k=>let ⟨o,e,r⟩:=z;⟨o,k it (by simp) o e,r⟩) (λs Q E z hE=> ?_),rfl,st⟩
   cases ha:x.cps.all (· <128) with
   |true=>
    have et:strIterType x="str_ascii_iterator":=by simp [strIterType,ha]
    rw [et] at z;exact wpAny_nextOf_ascii_end (show X.A.in1.handled=ζ from I.ok.hd hc) z hx hE
   |false=>
    have et:strIterType x="str_iterator":=by simp [strIterType,ha]
    rw [et] at z;exact wpAny_nextOf_wide_end (show X.A.in1.handled=ζ from I.ok.hd hc) z hx hE
theorem a7u:bootBuiltins "enumerate"=ξ (.type "enumerate"):=by decide+kernel
section
variable {X:Cx}
def iEn(K:AD)(ta:TA):TI:=λσ H R=>ta σ H λvs H1=>(∃a xs,vs=[.ref a]/\SqT K H1 a xs/\R (Ite (Itt K a)) H1)\/(∃a xs,vs=[.ref a]/\SqL K H1 a xs/\R (Ite (Itl K a)) H1)\/∃z,vs=[.str z]/\R (Ite (Its z)) H1
theorem b7n{tg:AO}{pins:List (AB×Obj)}{σ:L2.St}{H:Hp}{s:AE}{R:It->Hp->Prop}{E:AA->AE->Prop}{J:It}{h':Heap}{tn:Nat->Heap->Prop}{elts:List AO}{x1}{tpos:Pos}(htg:tg= .Tuple elts x1 tpos)(I:j4 X pins σ H s)(D:b1y X.prog X.w X.K J s.heap.objs.size tn)
 (he:IsEnum h' (s.heap.objs.size+1) s.heap.objs.size 0 .none) (st:tn 0 h') (hk:∀b o,s.heap.get? b=ξ o->h'.get? b=ξ o) (q:R (Ite J) H):
 AG (model X.prog X.w) X.A (pyIter (.ref (s.heap.objs.size+1))) (PIE X pins σ tg R) E {s with heap:=h'}:=by
 subst htg
 refine wpAny_pyIter_enum he ?_
 refine⟨s.heap.objs.size+1,[s.heap.objs.size+1,s.heap.objs.size],_,_,H,rfl,I.kept (t':=s.toks) hk,b6v D (Nat.succ_ne_self _),⟨⟨_,he⟩,st⟩,λb hb=> ?_,q⟩
 have hb:b=s.heap.objs.size+1\/b=s.heap.objs.size:=by simpa using hb
 rcases hb with rfl|rfl
 ·exact I.fpOk (Nat.le_succ _) (I.hok.fresh (Nat.le_succ _))
 ·exact I.fpOk (AM _) (I.hok.fresh (AM _))
theorem b4N{a:AO}{ta:TA}{p pos tpos:Pos}{elts:List AO}{x1}(hg:Gl X "enumerate")(hm:X.mg "enumerate"=ζ)(ha:PA X [a] ta)(hs:AJ [a] X.env=[(false,eval a X.env)]:=by rfl):
 PI X (.Tuple elts x1 tpos) (.Call (.Name "enumerate" p) [a] [] pos) (iEn X.K ta):=by
 intro pins s σ H R I h
 refine Call_ (a7X I hg hm a7u (PyProof.Rows.callWith_type1 (E2 (ha pos pins s σ H _ I h) λus s1 h0=>o0 h0 λvs H1 I1 r1 q1=> ?_) hs rfl))
 rcases q1 with⟨b,xs,rfl,hq,q⟩|⟨b,xs,rfl,hq,q⟩|⟨z,rfl,q⟩
 ·cases r1 with
  |cons r rr=>
   cases rr
   cases r
   obtain⟨its,rv,p',hz⟩:=I1.tuple hq
   exact a2r (show s1.heap.IsTuple b its.toArray from p') λh' he hit hsz hk=>b7n rfl I1 (b1X b _) he hit hk q
 ·cases r1 with
  |cons r rr=>
   cases rr
   cases r
   obtain⟨its,rv,p',hz⟩:=I1.list hq
   exact call_enumerate_list p'.isList λh' he hit hsz hk=>b7n rfl I1 (b3a b _) he hit hk q
 ·cases r1 with
  |cons r rr=>
   cases rr
   obtain⟨t,rfl⟩:=r
   exact call_enumerate_str λh' he hit hsz hk=>b7n rfl I1 (b5u _ z t) he hit hk q
def B4(ps:List PV):List PV:=ps.zipIdx.map λq=> .tuple [.int ((q.2:Nat):Int),q.1]
theorem a3e(ps:List PV)(k:Nat):(B4 ps)[k]?=ps[k]?.map λp=> .tuple [.int ((k:Nat):Int),p]:=by
 unfold B4;rw [Ak,List.getElem?_zipIdx];cases ps[k]? with
 |none=>rfl
 |some p=>simp
theorem a3f(ps:List PV):(B4 ps).length=ps.length:=by unfold B4;simp
def b3m(p:PV):Υ (List PV):=match p with
 | .str z=>ξ (z.cps.toList.map λc=> .str ⟨#[c]⟩)
 |p=>PyData.items? p
def a6p(m:MA):MI:=λρ=>(m ρ).bind λas=>match as with
 |[p]=>(b3m p).map B4
 |_=>ζ
theorem b3s{K:AD}{F0 H0 F1:Hp}{body:MS}{tg:PV->d5->Υ d5}{g:TG}{ps:List PV}{fl:Fl}{D:R8}{k:Nat}{p:PV}{x:V}{t:AB}{σ:L2.St}{H:Hp}(T:a7l K g tg)(fin:Fin K F0 H0 F1 D fl)(ep:ps[k]?=ξ p)
 (hp:PvL K F0 H0 F1 body tg (B4 ps) fl k σ H) (hn:H t=ζ) (rx:A3 K F1 p x):
 g (.ref t) σ (n5 H t (.tup [.int k,x])) λσ2 H2=>tMS K body {D with nx:=PvL K F0 H0 F1 body tg (B4 ps) fl (k+1),ct:=PvL K F0 H0 F1 body tg (B4 ps) fl (k+1),bk:=D.nx} σ2 H2:=by
 obtain⟨F,ρ,s,so,e⟩:=hp
 have eq:(B4 ps)[k]?=ξ (.tuple [.int ((k:Nat):Int),p]):=by rw [a3e,ep];rfl
 have hk:k<(B4 ps).length:=(Al.mp eq).1
 have hd:(B4 ps).drop k= .tuple [.int ((k:Nat):Int),p]::(B4 ps).drop (k+1):=by
  rw [List.drop_eq_getElem_cons hk]
  congr 1
  exact(Al.mp eq).2
 rw [hd] at e
 obtain⟨ρ1,f1,e1,e2,e3⟩:=a9I e
 have xl:R5 F H (n5 F t (.tup [.int k,x])) (n5 H t (.tup [.int k,x])):=R5.lay so.e.fh hn
 have up:m3 F1 (n5 F t (.tup [.int k,x])):=s.trans xl.f
 refine T F0 H0 _ _ σ ρ ρ1 _ (.ref t) _ (so.ext xl) (show A3 K (n5 F t (.tup [.int k,x])) (.tuple [.int ((k:Nat):Int),p]) (.ref t) from⟨t,[.int k,x],rfl,TqT.of g8,⟨_,_,rfl,rfl,⟨_,_,rfl,A3.mono up _ rx,rfl⟩⟩⟩) e1 λσ' so'=>⟨F0,H0,_,ρ1,f1,so',e2, ?_⟩
 cases f1 with
 |nx ρ'=>exact λσ2 F2 H2 s2 so2=>⟨F2,ρ',up.trans s2,so2,e3⟩
 |ct ρ'=>exact λσ2 F2 H2 s2 so2=>⟨F2,ρ',up.trans s2,so2,e3⟩
 |bk ρ'=>cases e3;exact λσ2 F2 H2 s2 so2=>fin σ2 F2 H2 (up.trans s2) so2
 |rt r=>cases e3;exact fin
theorem b7u{K:AD}{F0 H0 F1:Hp}{body:MS}{tg:PV->d5->Υ d5}{g:TG}{ps:List PV}{fl:Fl}{D:R8}{σ:L2.St}{H:Hp}{J:It}(S:b2W K F1 J ps)(T:a7l K g tg)(fin:Fin K F0 H0 F1 D fl)(h0:PvL K F0 H0 F1 body tg (B4 ps) fl 0 σ H):
 ∃W:Nat->Nat->L2.St->Hp->Prop,(∃m,W 0 m σ H)/\∀i m σ H,W i m σ H->
  ((Ite J).stop i H/\D.nx σ H)\/((Ite J).go i H/\∃N:L2.St->Hp->Prop,(∀σ' H',N σ' H'->∃m',m'<m/\W (i+1) m' σ' H')/\∀x H',(Ite J).yld i H x H'->g x σ H' λσ2 H2=>tMS K body {D with nx:=N,ct:=N,bk:=D.nx} σ2 H2):=by
 refine⟨λi m σ H=>m=ps.length - i/\i<=ps.length/\PvL K F0 H0 F1 body tg (B4 ps) fl i σ H,⟨ps.length,by simp,Nat.zero_le _,h0⟩, ?_⟩
 rintro i m σ H ⟨rfl,hi,pv⟩
 have sm:=let ⟨_,_,s,so,_⟩:=pv;s.trans so.e.fh
 by_cases hlt:i<ps.length
 ·have ep:ps[i]?=ξ ps[i]:=by simp [hlt]
  refine .inr ⟨S.go i _ H sm ep,PvL K F0 H0 F1 body tg (B4 ps) fl (i+1),λσ' H' p'=>⟨ps.length - (i+1),by lia,rfl,hlt,p'⟩,λv H' y=> ?_⟩
  obtain⟨x,t,yx,hn,rfl,rfl⟩:=y
  exact b3s T fin ep pv hn (S.yd i _ x H H sm ep yx).2
 ·have ei:i=ps.length:=by lia
  refine .inl ⟨S.st i H sm (by lia), ?_⟩
  rw [ei,<-a3f ps] at pv
  exact a4S fin pv
theorem b2D(hq:SqT X.K F1 a xs)(rl:m7 X.K F1 ps xs):b2W X.K F1 (Itt X.K a) ps:=by
 have hlen:=rl.length;refine⟨λi H2 s h=>⟨xs,C0 s hq,by lia⟩,λi p H2 s h=> ?_,λi p x H2 H3 s h y=> ?_⟩
 ·obtain⟨v,ev,_⟩:=rl.get h;exact⟨xs,v,C0 s hq,ev⟩
 ·obtain⟨e,y⟩:=y;have:=y xs (C0 s hq);obtain⟨v,ev,rv⟩:=rl.get h;rw [this] at ev;cases ev;exact⟨e,rv⟩
theorem b2B(hq:SqL X.K F1 a xs)(rl:m7 X.K F1 ps xs):b2W X.K F1 (Itl X.K a) ps:=by
 have hlen:=rl.length;refine⟨λi H2 s h=>⟨xs,B9 s hq,by lia⟩,λi p H2 s h=> ?_,λi p x H2 H3 s h y=> ?_⟩
 ·obtain⟨v,ev,_⟩:=rl.get h;exact⟨xs,v,B9 s hq,ev⟩
 ·obtain⟨e,y⟩:=y;have:=y xs (B9 s hq);obtain⟨v,ev,rv⟩:=rl.get h;rw [this] at ev;cases ev;exact⟨e,rv⟩
theorem b2C(z:Str):b2W X.K F1 (Its z) (z.cps.toList.map λc=> .str ⟨#[c]⟩):=by
 refine⟨λi H2 s h=> ?_,λi p H2 s h=> ?_,λi p x H2 H3 s h y=> ?_⟩
 ·have h:z.cps.size<=i:=by simpa using h
  exact h
 ·have:=(Al.mp h).1;have h:i<z.cps.size:=by simpa using this
  exact h
 ·obtain⟨e,c,hc,rfl⟩:=y;refine⟨e, ?_⟩;rw [Ak,Array.getElem?_toList,hc] at h;cases h
  rfl
theorem b4g{a:AO}{body:List Stmt}{m:MA}{g:TG}{t:PV->d5->Υ d5}{b:MS}{p rp pos tpos:Pos}{elts:List AO}{x1}(hp:PassesOwn (model X.prog X.w) X.A X.env X.xe)(hc:X.calm=true)(hgl:Gl X "enumerate")(hm:X.mg "enumerate"=ζ)(ha:EA X [a] m)(hg:PG X (.Tuple elts x1 tpos) g)(T:a7l X.K g t)(hb:ESs X body b)
 (hst:AJ [a] X.env=[(false,eval a X.env)]:=by rfl) (hs:∀x,foldedSetIterable (.Call (.Name "enumerate" p) [a] [] rp) X.env x=pure x:=by intro _;rfl):ES X (.For (.Tuple elts x1 tpos) (.Call (.Name "enumerate" p) [a] [] rp) body [] pos) (K5 (a6p m) t b):=
 B0 (b1h hp hc (b4N hgl hm ha hst) hg hb hs) λD σ H h0=>D9 h0 λF0 H0 F ρ fl so e fin=>by
  obtain⟨es,e1,e⟩:=bind_some e;obtain⟨as,e1,e2⟩:=bind_some e1;split at e2
  ·rename_i q;refine⟨F,ρ,_,so.e,e1,λvs F1 H1 x rl=> ?_⟩;obtain⟨v,r,rfl,rq,rr⟩:=rl;cases rr;have fin1:=fin.later x.f;cases hi:b3m q with
   |none=>rw [hi] at e2;cases e2
   |some ps=>
    rw [hi] at e2;cases e2;have core:∀J,b2W X.K F1 J ps->_:=λJ S=>b7u S T fin1 ⟨F1,ρ,PU.m3.refl F1,so.ext x,e⟩;cases q with
    |tuple qs=>
     cases hi;obtain⟨a,xs,rfl,hq,rl⟩:=rq;exact .inl ⟨a,xs,rfl,C0 x.fh hq.sq,core _ (b2D hq.sq rl)⟩
    |list qs=>
     cases hi;obtain⟨a,xs,rfl,hq,rl⟩:=rq;exact .inr (.inl ⟨a,xs,rfl,B9 x.fh hq,core _ (b2B hq rl)⟩)
    |str z=>
     cases hi;cases rq;exact .inr (.inr ⟨z,rfl,core _ (b2C z)⟩)
    |_=>cases hi
  ·cases e2
end
def S(l:List Nat):Str:=⟨l.toArray⟩
theorem c3I(a b:List Nat):S a++S b=S (a++b):=by
 show Str.append (S a) (S b)=_;simp [Str.append,S]
theorem a57(a:List Nat):(S a).length=a.length:=by simp [S,Str.length]
theorem a1V(a:List Nat):(S a).cps.toList=a:=by simp [S]
theorem b6I(h:S a=S b):a=b:=by
 have:=congrArg (λz:Str=>z.cps.toList) h
 simpa [S] using this
theorem c3J(a b:List Nat):(S a==S b)=(a==b):=by
 rw [Bool.eq_iff_iff];simp only [beq_iff_eq];exact⟨b6I,λh=>by rw [h]⟩
def a7N(sep:List Nat):List (List Nat)->List Nat
 |[]=>[]
 |[x]=>x
 |x::y::r=>x++sep++a7N sep (y::r)
theorem a9L(sep:List Nat):∀(ls:List (List Nat)) (acc:List Nat),(ls.foldl (λa p=>a++sep++p) acc)=if ls=[] then acc else acc++sep++a7N sep ls
 |[],acc=>rfl
 |[x],acc=>by simp [a7N]
 |x::y::r,acc=>by
  rw [List.foldl_cons,a9L sep (y::r)];simp [a7N]
theorem b4o(sep:List Nat):∀(ls:List (List Nat)) (acc:List Nat),(ls.map S).foldl (λa (p:Str)=>a++(S sep).cps++p.cps) acc.toArray=(ls.foldl (λa p=>a++sep++p) acc).toArray
 |[],acc=>rfl
 |x::r,acc=>by
  rw [AI,List.foldl_cons,List.foldl_cons];have:acc.toArray++(S sep).cps++(S x).cps=(acc++sep++x).toArray:=by simp [S]
  rw [this];exact b4o sep r (acc++sep++x)
theorem c2m(sep:List Nat)(ls:List (List Nat)):Txt.join (S sep) (ls.map S)=S (a7N sep ls):=by
 cases ls with
 |nil=>rfl
 |cons x r=>
  show(⟨((r.map S).foldl (λacc (p:Str)=>acc++(S sep).cps++p.cps) (S x).cps)⟩:Str)=_;rw [show(S x).cps=x.toArray from rfl,b4o,a9L];cases r with
  |nil=>rfl
  |cons y r=>rw [if_neg (by simp)];simp [S,a7N]
theorem a4N:∀ls:List (List Nat),a7N [] ls=ls.flatten
 |[]=>rfl
 |[x]=>by simp [a7N]
 |x::y::r=>by simp [a7N,a4N (y::r)]
theorem a2E:∀cs:List Nat,(cs.map λc=>[c]).flatten=cs
 |[]=>rfl
 |c::cs=>by simp [a2E cs]
theorem S1(h:0<=i):L2.atI xs i=xs[i.toNat]?:=by
 unfold L2.atI L2.ixN;rw [if_pos h]
 by_cases c:i<xs.length
 ·rw [if_pos c];rfl
 ·rw [if_neg c];have:xs.length<=i.toNat:=by lia
  rw [List.getElem?_eq_none_iff.mpr this];rfl
theorem b1E{α:Type}{xs:List α}{k:Nat}:L2.atI xs (k:Int)=xs[k]?:=by
 rw [S1 (by lia)];simp
theorem c1s(hl:l.length<=16777216)(h:L2.atI l i=ξ c):v4 (.v (.str (S l))) (.v (.int i))=ξ (.v (.str (S [c]))):=by
 have hs:(S l).length<=AQ:=by rw [a57,sizeLine_eq];exact hl
 unfold v4;simp only [g5.rd,a1V,h,BB,if_pos hs]
 rfl
theorem c2b(h:l.length+k.length<=16777216):K8 (.v (.str (S l))) (.v (.str (S k)))=ξ (.v (.str (S (l++k)))):=by
 rw [b7x (by rw [a57,a57,sizeLine_eq];exact h),c3I]
theorem a6S(h:l.length<16777216):K8 (.v (.str (S l))) (.v (.str (S [c])))=ξ (.v (.str (S (l++[c])))):=c2b (by simp only [AT,Ai];lia)
theorem a5y(i j:Int):a32 (.v (.int i)) (.v (.int j))=ξ (.v (.bool (decide (i<j)))):=ω
theorem U5(h: -18446744073709551616<i/\i<18446744073709551616):R6 (.v (.int i)) (.v (.int j))=ξ (.v (.int (i*j))):=c2e h
abbrev row(l:List Nat):PV:= .str (S l)
def a6g(rows:List (List Nat)):PV:= .tuple (rows.map row)
theorem b92(a b:List Nat):η (row a) (row b)=(a==b):=by
 rw [show η (.str (S a)) (.str (S b))=(S a==S b) by simp only [η],c3J]
theorem b1Y(a:List Nat)(n:Nat):n8 (row a) n=true:=by cases n<;>rfl
theorem b9H:AR "abcdefghijklmnopqrstuvwxyz"=S ((AK 26).map (97+·)):=by decide+kernel
theorem b6M(h0:0<=i)(h1:i<26):v4 (.v (.str (AR "abcdefghijklmnopqrstuvwxyz"))) (.v (.int i))=ξ (.v (row [97+i.toNat])):=by
 rw [b9H];exact c1s (by decide) (by rw [S1 h0,Ak,List.getElem?_range (by lia)];rfl)
theorem b12{body:MS}{tg:PV->d5->Υ d5}{I:Nat->d5->Prop}:∀{ps:List PV} {ρ:d5} (k:Nat),(∀(i:Nat) p,ps[i]?=ξ p->∀ρ,I (k+i) ρ->∃ρ1 ρ2,tg p ρ=ξ ρ1/\(body ρ1=ξ (.nx ρ2)\/body ρ1=ξ (.ct ρ2))/\I (k+i+1) ρ2)->I k ρ->∃ρ',x8 body tg ps ρ=ξ (.nx ρ')/\I (k+ps.length) ρ'
 |[],ρ,k,_,h=>⟨ρ,rfl,h⟩
 |p::ps,ρ,k,s,h=>by
  obtain⟨ρ1,ρ2,h1,h2,h3⟩:=s 0 p rfl ρ h;obtain⟨ρ',h4,h5⟩:=b12 (k+1) (λi q hq ρ hi=>by
   have e:k+1+i=k+(i+1):=by lia
   rw [e] at hi ⊢;exact s (i+1) q (by simpa using hq) ρ hi) h3
  refine⟨ρ', ?_,by rw [AT];have e:k+(ps.length+1)=k+1+ps.length:=by lia
                   rw [e];exact h5⟩
  unfold x8;rw [h1];show(body ρ1).bind _=_;rcases h2 with h2|h2<;>rw [h2]<;>exact h4
theorem z5(I:Nat->d5->Prop)(s:∀(i:Nat) p,ps[i]?=ξ p->∀ρ,I i ρ->∃ρ1 ρ2,tg p ρ=ξ ρ1/\(body ρ1=ξ (.nx ρ2)\/body ρ1=ξ (.ct ρ2))/\I (i+1) ρ2)(h:I 0 ρ):∃ρ',x8 body tg ps ρ=ξ (.nx ρ')/\I ps.length ρ':=by
 obtain⟨ρ',a,b⟩:=b12 0 (λi p hp ρ hi=>by rw [Nat.zero_add] at hi ⊢;exact s i p hp ρ hi) h
 rw [Nat.zero_add] at b;exact⟨ρ',a,b⟩
theorem V0{body:MS}{tg:PV->d5->Υ d5}{I:d5->Prop}{p:PV}{ρ ρ1 ρ2:d5}(h1:tg p ρ=ξ ρ1)(h2:body ρ1=ξ (.nx ρ2))(h3:I ρ2):∃ρ1 ρ2,tg p ρ=ξ ρ1/\(body ρ1=ξ (.nx ρ2)\/body ρ1=ξ (.ct ρ2))/\I ρ2:=⟨ρ1,ρ2,h1,.inl h2,h3⟩
theorem Z7{lo hi:Int}{i:Nat}{p:PV}(h:(J9 lo hi)[i]?=ξ p):p= .int (lo+i)/\lo+i<hi:=by
 have hi':=(Al.mp h).1;rw [Q9] at hi';rw [a8q hi'] at h;cases h;exact⟨rfl,by lia⟩
theorem a67(n:Nat):J9 0 (n:Int)=(AK n).map λk=> .int (k:Nat):=by
 unfold J9;have e:((n:Int) - 0).toNat=n:=by lia
 rw [e];exact List.map_congr_left λk _=>by simp
theorem a9V(k:Nat)(it:MI)(tg:PV->d5->Υ d5)(c:MT)(elt:M)(ρ:d5):C4 k it tg c elt ρ=(it ρ).bind λps=>if ps.length<=AQ then(a3G c elt tg (ρ++Aq k ζ) ps).bind λr=>ξ (.own r) else ζ:=ω
theorem a9z:∀{xs:List α},(∀x∈xs,∃ρ1,tg (ι x) ρ=ξ ρ1/\(elt ρ1).bind g5.toVal=ξ (f x))->a3G L8 elt tg ρ (xs.map ι)=ξ (xs.map f)
 |[],_=>rfl
 |x::xs,h=>by
  obtain⟨ρ1,h1,h2⟩:=h x AZ;rw [AI,AI];unfold a3G;rw [h1,AF];show((elt ρ1).bind g5.toVal).bind _=_;rw [h2,AF,a9z λy hy=>h y (Ag _ hy),AF]
theorem G6(xs:List α)(h1:it ρ=ξ (xs.map ι))(h2:xs.length<=16777216)
 (h:∀x∈xs,∃ρ1,tg (ι x) (ρ++Aq k ζ)=ξ ρ1/\(elt ρ1).bind g5.toVal=ξ (f x)):C4 k it tg L8 elt ρ=ξ (.own (xs.map f)):=by
 rw [a9V,h1,AF,if_pos (by rw [AN,sizeLine_eq];exact h2),a9z h,AF]
theorem a4C:∀{xs:List α},(∀x∈xs,∃ρ1,tg (ι x) ρ=ξ ρ1/\c ρ1=ξ (q x)/\(q x=true->(elt ρ1).bind g5.toVal=ξ (f x)))->a3G c elt tg ρ (xs.map ι)=ξ ((xs.filter q).map f)
 |[],_=>rfl
 |x::xs,h=>by
  obtain⟨ρ1,h1,h2,h3⟩:=h x AZ;have ih:=a4C λy hy=>h y (Ag _ hy);rw [AI];unfold a3G;rw [h1,AF,h2,AF];cases e:q x with
  |true=>rw [if_pos rfl,h3 e,AF,ih,AF,List.filter_cons_of_pos (by rw [e])];rfl
  |false=>rw [if_neg As,ih,List.filter_cons_of_neg (by rw [e];exact As)]
theorem T2(ps:List PV):PyData.items? (.list ps)=ξ ps:=ω
theorem x9(m:M)(ρ:d5):O1 m ρ=((m ρ).bind g5.toVal).bind PyData.items?:=ω
theorem O2(m:M)(lo hi:MO)(ρ:d5):a5K m lo hi ρ=(m ρ).bind λr=>(lo ρ).bind λl=>(hi ρ).bind λh=>gSl r l h:=ω
theorem T8(m:M)(ρ:d5):a38 m ρ=(m ρ).bind b4v:=ω
theorem a0n(ρ:d5):a76 ρ=ξ ζ:=ω
theorem a3l(i:Int):b4v (.v (.int i))=ξ (ξ i):=ω
theorem a0M(h:m ρ=ξ r)(h2:PyData.items? r.rd=ξ ps):Q5 m ρ=ξ ps:=by
 unfold Q5;rw [h,AF,h2]
theorem T5(h:m ρ=ξ (.v (.int n)))(hn:n<4611686018427387904):u9 (b9 m d9) ρ=ξ ((AK n).map λk=> .int (k:Nat)):=by
 have e:b9 m d9 ρ=ξ [.int n]:=by rw [d0,h];rfl
 rw [r9,e,AF,y3 ⟨by lia,by lia⟩,a67]
theorem a31(h:PyData.items? y.rd=ξ (rows.map row))(hl:(rows.map (·.length)).sum+rows.length*sep.length<=16777216):Y7 (.v (.str (S sep))) y=ξ (.v (row (a7N sep rows))):=by
 have e1:Y3 (rows.map row)=ξ (rows.map S):=by
  have:rows.map row=(rows.map S).map PyData.str:=by rw [Au];rfl
  rw [this,a4o]
 have e2:((rows.map S).map (·.length))=rows.map (·.length):=by rw [Au];exact List.map_congr_left λa _=>a57 a
 unfold Y7;simp only [h,e1,AF,e2,AN,a57,if_pos hl,c2m]
theorem a1G(ps:List PV):X6 (.own ps)=ξ (.v (.tuple ps)):=ω
theorem b3g(ps:List PV):X6 (.bor ps)=ξ (.v (.tuple ps)):=ω
theorem B7(h1:m ρ=ξ r)(h2:r.toVal=ξ p)(h3:ρ[i]?=ξ (ξ (.own ps)))(h:ps.length<16777216):J6 i m ρ=ξ (.nx (ρ.set i (ξ (.own (ps++[p]))))):=by
 unfold J6;rw [h1,AF,h2,AF,h3];simp only [sizeLine_eq,if_pos h]
theorem a1J(p:g5)(ρ:d5):a1i 0 (ξ p::ρ)=ξ (.rt p):=ω
theorem a1K(n:Nat)(r:Υ g5)(ρ:d5):a1i (n+1) (r::ρ)=a1i n ρ:=ω
theorem L6(k:List k4)(v:PV)(D:Γ)(k':List k4):p7 ((k,v)::D) k'=if k=k' then ξ v else p7 D k':=by
 unfold p7;rw [List.find?_cons]
 by_cases h:k=k'
 ·simp [h]
 ·simp [h]
theorem b2N(k:List k4)(v:PV)(k':List k4):∀D:Γ,p7 (D++[(k,v)]) k'=if(p7 D k').isSome=true then p7 D k' else if k=k' then ξ v else ζ
 |[]=>by rw [Ad,L6];rfl
 |(a,b)::D=>by
  rw [Af,L6,L6,b2N k v k' D]
  by_cases h:a=k'
  ·simp [h]
  ·simp [h]
theorem a6N(k:List k4):∀D:Γ,(D.any λkv=>decide (kv.1=k))=(p7 D k).isSome
 |[]=>rfl
 |(a,b)::D=>by
  rw [List.any_cons,a6N k D,L6]
  by_cases h:a=k
  ·simp [h]
  ·simp [h]
theorem b0h(k:List k4)(v:PV)(k':List k4):∀D:Γ,p7 (D.map λkv=>if kv.1=k then(kv.1,v) else kv) k'=if k=k' then(p7 D k').map (λ_=>v) else p7 D k'
 |[]=>by simp [p7]
 |(a,b)::D=>by
  rw [AI];have ih:=b0h k v k' D
  by_cases h:a=k
  ·simp only [h,if_true];rw [L6,L6,ih]
   by_cases h2:k=k'
   ·simp [h2]
   ·simp [h2]
  ·simp only [h,if_false];rw [L6,L6,ih]
   by_cases h2:a=k'
   ·have:¬k=k':=λz=>h (h2.trans z.symm);simp [h2,this]
   ·simp [h2]
theorem a1p(D:Γ)(k:List k4)(v:PV)(k':List k4):p7 (G2 D k v) k'=if k=k' then ξ v else p7 D k':=by
 unfold G2;rw [a6N];cases h:(p7 D k).isSome with
 |true=>
  rw [if_pos rfl,b0h]
  by_cases h2:k=k'
  ·subst h2;rw [if_pos rfl,if_pos rfl];obtain⟨x,hx⟩:=Option.isSome_iff_exists.mp h;rw [hx];rfl
  ·rw [if_neg h2,if_neg h2]
 |false=>
  rw [if_neg As,b2N]
  by_cases h2:k=k'
  ·subst h2;rw [h];simp
  ·simp only [if_neg h2];cases h3:p7 D k'<;>simp
theorem W6(D:Γ)(k:List k4)(v:PV):(G2 D k v).length<=D.length+1:=by
 unfold G2;split
 ·rw [AN];lia
 ·rw [Ar,List.length_singleton];lia
theorem P6(h:ρ[i]?=ξ (ξ (.ow (.dct D))))(hl:D.length<16777216):a7B i ρ p k=ξ (.nx (ρ.set i (ξ (.ow (.dct (G2 D k p)))))):=by
 unfold a7B;rw [h];show(if D.length<AQ then _ else ζ)=_
 rw [if_pos (by rw [sizeLine_eq];exact hl)]
theorem b67(h:ρ[i]?=ξ (ξ (.ow (.dct D))))(hv:p7 D k=ξ p):b4a i ρ k=ξ (.v p):=by
 unfold b4a;rw [h];show(p7 D k).map _=_;rw [hv];rfl
theorem a2A(neg:Bool)(D:Γ)(ρ:d5)(k:List k4):b5r neg 0 (ξ (.ow (.dct D))::ρ) k=ξ (.v (.bool (if neg then !(p7 D k).isSome else(p7 D k).isSome))):=ω
theorem a2B(neg:Bool)(i:Nat)(r:Υ g5)(ρ:d5)(k:List k4):b5r neg (i+1) (r::ρ) k=b5r neg i ρ k:=ω
theorem c0p(h1:mv ρ=ξ r)(h2:r.toVal=ξ p)(h3:ma ρ=ξ [.int a,.int b])(h:ρ[i]?=ξ (ξ (.ow (.dct D))))(hl:D.length<16777216):
 b2c i ma mv ρ=ξ (.nx (ρ.set i (ξ (.ow (.dct (G2 D [.inl a,.inl b] p)))))):=by
 unfold b2c
 rw [h1,AF,h2,AF,h3,AF,if_pos (by rw [sizeLine_eq];simp),show keysOf [.int a,.int b]=ξ [.inl a,.inl b] from rfl,AF,P6 h hl]
theorem b0Y(h3:ma ρ=ξ [.int a,.int b])(h:ρ[i]?=ξ (ξ (.ow (.dct D))))(hv:p7 D [.inl a,.inl b]=ξ p):a9W i ma ρ=ξ (.v p):=by
 unfold a9W;rw [h3,AF,if_pos (by rw [sizeLine_eq];simp),show keysOf [.int a,.int b]=ξ [.inl a,.inl b] from rfl,AF,b67 h hv]
theorem a0a(ρ:d5):a4T ρ=ξ (.ow (.dct [])):=ω
theorem W8(i:Nat)(ρ:d5)(c:a0T):b9I i ρ (.ow c)=ξ (.nx (ρ.set i (ξ (.ow c)))):=ω
theorem a9J{body:MS}{tg:PV->d5->Υ d5}{I:d5->Prop}{f:Nat->Υ g5}{n:Nat}{ρ:d5}
 (sg:∀k<n,∀ρ,I ρ->f k=ζ->∃ρ1 ρ2,tg (.int (k:Nat)) ρ=ξ ρ1/\body ρ1=ξ (.nx ρ2)/\I ρ2)
 (sb:∀k<n,∀ρ,I ρ->∀r,f k=ξ r->∃ρ1,tg (.int (k:Nat)) ρ=ξ ρ1/\body ρ1=ξ (.rt r)) (h:I ρ):
 ((AK n).findSome? f=ζ/\∃ρ',x8 body tg (J9 0 n) ρ=ξ (.nx ρ')/\I ρ')\/(∃r,(AK n).findSome? f=ξ r/\x8 body tg (J9 0 n) ρ=ξ (.rt r)):=by
 rw [a67]
 have go:∀(xs:List Nat) (ρ:d5),(∀k∈xs,k<n)->I ρ->
  (xs.findSome? f=ζ/\∃ρ',x8 body tg (xs.map λk=> .int (k:Nat)) ρ=ξ (.nx ρ')/\I ρ')\/(∃r,xs.findSome? f=ξ r/\x8 body tg (xs.map λk=> .int (k:Nat)) ρ=ξ (.rt r)):=by
  intro xs
  induction xs with
  |nil=>intro ρ _ h;exact .inl ⟨rfl,ρ,rfl,h⟩
  |cons k xs ih=>
   intro ρ hx h
   rw [List.findSome?_cons,AI]
   cases e:f k with
   |none=>
    obtain⟨ρ1,ρ2,h1,h2,h3⟩:=sg k (hx k AZ) ρ h e
    have hf:x8 body tg (.int (k:Nat)::xs.map λk=> .int (k:Nat)) ρ=x8 body tg (xs.map λk=> .int (k:Nat)) ρ2:=by
     rw [x8,h1];show(body ρ1).bind _=_;rw [h2];rfl
    rw [hf]
    exact ih ρ2 (λj hj=>hx j (Ag _ hj)) h3
   |some r=>
    obtain⟨ρ1,h1,h2⟩:=sb k (hx k AZ) ρ h r e
    refine .inr ⟨r,rfl, ?_⟩
    rw [x8,h1]
    show(body ρ1).bind _=_
    rw [h2];rfl
 exact go (AK n) ρ (λk hk=>List.mem_range.mp hk) h
theorem L3(xs:List α)(h1:it ρ=ξ (xs.map ι))(h2:xs.length<=16777216)
 (h:∀x∈xs,∃ρ1,tg (ι x) (ρ++Aq k ζ)=ξ ρ1/\c ρ1=ξ (q x)/\(q x=true->(elt ρ1).bind g5.toVal=ξ (f x))):C4 k it tg c elt ρ=ξ (.own ((xs.filter q).map f)):=by
 rw [a9V,h1,AF,if_pos (by rw [AN,sizeLine_eq];exact h2),a4C h,AF]
theorem b9e{body:MS}{tg:PV->d5->Υ d5}{I:d5->Prop}{p:PV}{ρ ρ1 ρ2:d5}(h1:tg p ρ=ξ ρ1)(h2:body ρ1=ξ (.nx ρ2))(h3:I ρ2):∃ρ1 ρ2,tg p ρ=ξ ρ1/\body ρ1=ξ (.nx ρ2)/\I ρ2:=⟨ρ1,ρ2,h1,h2,h3⟩
theorem a3a{c:MT}{body:MS}{I:Nat->d5->Prop}(s:∀m ρ,I m ρ->c ρ=ξ false\/(c ρ=ξ true/\∃ρ' m',body ρ=ξ (.nx ρ')/\m'<m/\I m' ρ')):∀(n m:Nat) (ρ:d5),m<n->I m ρ->∃ρ' m',U1 c body n ρ=ξ (.nx ρ')/\I m' ρ'/\c ρ'=ξ false
 |0,m,ρ,h,_=>by lia
 |n+1,m,ρ,h,hi=>by
  rcases s m ρ hi with hc|⟨hc,ρ',m',h1,h2,h3⟩
  ·refine⟨ρ,m, ?_,hi,hc⟩;unfold U1;rw [hc];rfl
  ·obtain⟨ρ2,m2,g1,g2,g3⟩:=a3a s n m' ρ' (by lia) h3
   refine⟨ρ2,m2, ?_,g2,g3⟩;unfold U1;rw [hc];rw [h1];exact g1
theorem a4F(h:∀p∈ps,n8 p n=true):w4 ps n=true:=by
 induction ps with
 |nil=>rfl
 |cons p ps ih=>simp [w4,h p AZ,ih λq hq=>h q (Ag _ hq)]
theorem a6T(a b:List Nat):gNe (.v (row a)) (.v (row b))=ξ (.v (.bool (!(a==b)))):=by
 rw [a5z (x:= .v (row a)) (y:= .v (row b)) ⟨b1Y a 50,b1Y b 50⟩,b3L,b3L,b92]
def a4r(A:AU)(s:AE)(u v:AA)(b:Bool):Prop:=∀(prog:AS) (w:AL) (E:AA->AE->Prop) (Q:AA->AE->Prop),Q (.bool b) s->AG (model prog w) A (richCompare .Lt u v) Q E s
section
open PySem.AutoSeq1 (wpAny_loadPart')
theorem b1n(l b:AB)(xs ys:Array AA)(n n2:Nat)(dd dd2:Υ AB)(sl sl2:Array (Υ AA))(e:Nat->Bool)(c:Bool):
 Meets (Builtin.«tuple.__lt__» ⟨[.ref l,.ref b],[]⟩)
  (λA R s=>(s.heap.get? l=ξ {cls:= .type "tuple",dict:=dd,data:= .seq xs n,slots:=sl}/\s.heap.get? b=ξ {cls:= .type "tuple",dict:=dd2,data:= .seq ys n2,slots:=sl2})/\
   (∀j (h1:j<xs.size) (h2:j<ys.size),SeqAt.EqAt A.in1 s xs[j] ys[j] (e j))/\(∀j (h1:j<xs.size) (h2:j<ys.size),(∀k,k<j->e k=true)->e j=false->a4r A.in1 s xs[j] ys[j] c)/\
   ((∀k,k<min xs.size ys.size->e k=true)->c=decide (xs.size<ys.size))/\R (.ok (.ret (.bool c))) s):=
 .of_wp λprog w A R s h=>by
  obtain⟨hp,g,d,tk,os⟩:=s;obtain⟨⟨hl,hb⟩,he,hlt,hce,h⟩:=h;have f2:=AutoSeq1.sub_tuple_tuple;have hZ:(xs.toList.zip ys.toList).length=min xs.size ys.size:=by simp
  wp_walk using wpAny_loadPart' hl,wpAny_loadPart' hb,wpAny_forIn_list _ (λrest b s'=>b.1=ζ/\s'=⟨hp,g,d,tk,os⟩/\∃i,i<=min xs.size ys.size/\rest=(xs.toList.zip ys.toList).drop i/\∀k,k<i->e k=true) _
  case turn=>
   rintro⟨y,x⟩ rest b s' ⟨hb',rfl,i,hi,hz,hR⟩;have hlt':i<(xs.toList.zip ys.toList).length:=by
    rcases Nat.lt_or_ge i (xs.toList.zip ys.toList).length with h'|h'
    ·exact h'
    ·rw [List.drop_of_length_le h'] at hz;cases hz
   have h1:i<xs.size:=by lia
   have h2:i<ys.size:=by lia
   rw [List.drop_eq_getElem_cons hlt'] at hz;injection hz with hyx hrest
   have hy:y=xs[i]:=by simpa using congrArg Prod.fst hyx
   have hx:x=ys[i]:=by simpa using congrArg Prod.snd hyx
   subst hy hx;refine AC (he i h1 h2 prog w _ _ ?_);cases hq:e i with
   |true=>
    wp_walk
    exact⟨rfl,rfl,i+1,by lia,hrest,λk hk=>by
     rcases Nat.lt_or_ge k i with h'|h'
     ·exact hR k h'
     ·rw [show k=i by lia];exact hq⟩
   |false=>
    have hl3:=hlt i h1 h2 hR hq;show AG _ A.in1 (rule _>>=λ_=>richCompare .Lt xs[i] ys[i]>>=λv=>ret v>>=λq=>pure (ForInStep.done (ξ q,()))) _ _ _;refine AC (wpAny_rule ?_);refine AC (hl3 prog w _ _ ?_);refine AC (AH ?_);refine AH ?_;exact AH ⟨_,rfl,h⟩
  case fin=>
   rintro⟨b1,b2⟩ s' ⟨hb',rfl,i,hi,hz,hR⟩;simp only at hb';subst hb';have hge:min xs.size ys.size<=i:=by
    rcases Nat.lt_or_ge i (xs.toList.zip ys.toList).length with h'|h'
    ·rw [List.drop_eq_getElem_cons h'] at hz;cases hz
    ·lia
   wp_walk
   refine⟨_,rfl, ?_⟩;rw [hce λk hk=>hR k (by lia)] at h
   exact h
  case h=>
   exact⟨rfl,rfl,0,by lia,rfl,λk hk=>by lia⟩
theorem a4r.tuples{l b:AB}{xs ys:Array AA}{e:Nat->Bool}{c:Bool}(hl:s.heap.IsTuple l xs)(hb:s.heap.IsTuple b ys)(hu:A.units<cLine)
 (he:∀j (h1:j<xs.size) (h2:j<ys.size),SeqAt.EqAt A.in1 s xs[j] ys[j] (e j)) (hlt:∀j (h1:j<xs.size) (h2:j<ys.size),(∀k,k<j->e k=true)->e j=false->a4r A.in1 s xs[j] ys[j] c)
 (hce:(∀k,k<min xs.size ys.size->e k=true)->c=decide (xs.size<ys.size)):a4r A s (.ref l) (.ref b) c:=λprog w E Q h=>by
 obtain⟨⟨c1,d1,t1,s1⟩,o1,e1,n1,k1⟩:=id hl
 obtain⟨⟨c2,d2,t2,s2⟩,o2,e2,n2,k2⟩:=id hb
 simp only at e1 k1 e2 k2
 subst e1 k1 e2 k2
 exact richCompare_meets_room ⟨_,o1,rfl⟩ ⟨_,o2,rfl⟩ F.slot_tuple_lt F.entry_tuple_lt (F.args_tuple_lt_2 _ _) (b1n l b xs ys n1 n2 d1 d2 s1 s2 e c)
  ⟨⟨o1,o2⟩,he,hlt,hce,show Value.bool c≠Value.notImplemented/\Q (.bool c) s from⟨(λx=>nomatch x),h⟩⟩ hu
theorem a4r.ints(a b:Int)(t u:Tok):a4r A s (.int a t) (.int b u) (decide (a<b)):=λprog w E Q h=>wpAny_lt_int h
theorem a4r.strs(a b:Str)(t u:Tok):a4r A s (.str a t) (.str b u) (decide (a.cps.toList<b.cps.toList)):=λprog w E Q h=>lt_str h
end
mutual
def ltv:PV->PV->Υ Bool
 | .int i,.int j=>ξ (decide (i<j))
 | .str i,.str j=>ξ (decide (i.cps.toList<j.cps.toList))
 | .tuple ps,.tuple qs=>a35 ps qs
 |_,_=>ζ
def a35:List PV->List PV->Υ Bool
 |[],[]=>ξ false
 |[],_::_=>ξ true
 |_::_,[]=>ξ false
 |p::ps,q::qs=>if η p q=true then a35 ps qs else ltv p q
end
theorem b0X:∀{ps qs:List PV} {c:Bool},a35 ps qs=ξ c->∀j (p q:PV),ps[j]?=ξ p->qs[j]?=ξ q->(∀k,k<j->eAt ps qs k=true)->eAt ps qs j=false->ltv p q=ξ c
 |[],_,_,_,j,p,q,h1,_,_,_=>by simp at h1
 |_::_,[],_,_,j,p,q,_,h2,_,_=>by simp at h2
 |p'::ps,q'::qs,c,h,0,p,q,h1,h2,_,he=>by
  simp only [List.getElem?_cons_zero,Option.some.injEq] at h1 h2;subst h1 h2;rw [a35] at h;have:η p' q'=false:=by simpa [eAt] using he
  rw [this] at h
  simpa using h
 |p'::ps,q'::qs,c,h,j+1,p,q,h1,h2,hk,he=>by
  simp only [List.getElem?_cons_succ] at h1 h2;have h0:η p' q'=true:=by simpa [eAt] using hk 0 (by lia)
  rw [a35,if_pos h0] at h;refine b0X h j p q h1 h2 (λk hk'=> ?_) ?_
  ·simpa [eAt] using hk (k+1) (by lia)
  ·simpa [eAt] using he
theorem a72:∀{ps qs:List PV} {c:Bool},a35 ps qs=ξ c->(∀k,k<min ps.length qs.length->eAt ps qs k=true)->c=decide (ps.length<qs.length)
 |[],[],c,h,_=>by simp [a35] at h;simp [h]
 |[],_::_,c,h,_=>by simp [a35] at h;simp [h]
 |_::_,[],c,h,_=>by simp [a35] at h;simp [h]
 |p::ps,q::qs,c,h,hk=>by
  have h0:η p q=true:=by simpa [eAt] using hk 0 (by simp)
  rw [a35,if_pos h0] at h;have:=a72 h λk hk'=>by simpa [eAt] using hk (k+1) (by simp at hk' ⊢;lia)
  simpa using this
section
theorem c2x(I:j4 X pins σ H s):∀(n:Nat) (A:AU) (p q:PV) (x y:V) (u w:AA) (c:Bool),A.units+n<cLine->n8 p n=true->n8 q n=true->ltv p q=ξ c->A3 X.K H p x->A3 X.K H q y->m8 x u->m8 y w->a4r A s u w c:=by
 intro n
 induction n with
 |zero=>
  intro A p q x y u w c hu hp hq hc rp rq rx ry;unfold ltv at hc;split at hc
  ·ext m
   exact .ints _ _ _ _
  ·ext m
   exact .strs _ _ _ _
  ·simp [n8] at hp
  ·cases hc
 |succ n ih=>
  intro A p q x y u w c hu hp hq hc rp rq rx ry;have hu0:A.units<cLine:=by lia
  have hu1:A.in1.units+n<cLine:=by rw [Z9];lia
  unfold ltv at hc;split at hc
  ·ext m
   exact .ints _ _ _ _
  ·ext m
   exact .strs _ _ _ _
  ·rename_i ps qs;obtain⟨a,xs,rfl,hs,r⟩:=rp;cases rx;obtain⟨its,rv,pl,hz⟩:=I.tuple hs.sq;have okp:w4 ps n=true:=by simpa [n8] using hp
   ext u
   have okq:w4 qs n=true:=by simpa [n8] using hq
   have hle:its.toArray.size=ps.length:=by rw [<-r.length,rv.length];simp
   have hle':its2.toArray.size=qs.length:=by rw [<-r'.length,rv'.length];simp
   have he:=a5i (A:=A.in1) (s:=s) r r' rv rv' λp q x y u w hp' hq' rp' rq' rx' ry'=>a7D I n A.in1 p q x y u w hu1 (x6 okp hp') (x6 okq hq') rp' rq' rx' ry';refine .tuples pl pl' hu0 he (λj h1 h2 hk hj=> ?_) λhk=> ?_
   ·have h1':j<its.length:=by simpa using h1
    have h2':j<its2.length:=by simpa using h2
    obtain⟨x,ex,rx⟩:=a0S rv h1';obtain⟨y,ey,ry⟩:=a0S rv' h2';obtain⟨p,ep,hp⟩:=r.getV ex;obtain⟨q,eq,hq⟩:=r'.getV ey;have:=ih A.in1 p q x y _ _ c hu1 (x6 okp (BE ep)) (x6 okq (BE eq)) (b0X hc j p q ep eq hk hj) hp hq rx ry
    simpa using this
   ·rw [hle,hle'];exact a72 hc λk hk'=>hk k (by rw [hle,hle'];exact hk')
  ·cases hc
end
end PU
namespace TS
open PySem PyProof.Rows
abbrev SM(α:Type):=StateT SortSt Sem α
def g(a:Array Keyed)(i:Nat):Keyed:=(a[i]?).getD (Value.none,Value.none)
theorem b3h(h:i<a.size):a[i]?=ξ (g a i):=by
 unfold g;rw [getElem?_pos a i h];rfl
theorem b7E(h:a[i]?=b[j]?):g a i=g b j:=by unfold g;rw [h]
theorem c3W(h:i<a.size):g a i∈a.toList:=by
 have:=b3h h;exact Array.mem_toList_iff.mpr (Array.mem_of_getElem? this)
theorem b7G(h:i<a.size):a.toList[i]?=ξ (g a i):=by
 rw [Array.getElem?_toList];exact b3h h
section
variable {prog:AS}{w:AL}{A:AU}{E:AA->AE->Prop}{s:AE}
structure Cmp(prog:AS)(w:AL)(A:AU)(E:AA->AE->Prop)(s:AE)(κ:SortKind)(S:Keyed->Prop)(R:Keyed->Keyed->Bool):Prop where
 lt:∀x y,S x->S y->∀(st:SortSt) (Q:Υ Bool->SortSt->Prop),kindOf st=κ->Q (ξ (R x y)) st->wpS (model prog w) A E s (lt' x y) Q st
 tr:∀x y z,S x->S y->S z->R y x=false->R z y=false->R z x=false
 as:∀x y,S x->S y->R x y=true->R y x=false
variable {κ:SortKind}{S:Keyed->Prop}{R:Keyed->Keyed->Bool}
theorem Cmp.rfl'(C:Cmp prog w A E s κ S R)(hx:S x):R x x=false:=by
 by_cases h:R x x=true
 ·exact C.as x x hx hx h
 ·exact eq_false_of_ne_true h
theorem b46{a:Array Keyed}{i:Nat}(h:i<a.size){Q:Keyed->SortSt->Prop}{st:SortSt}(hq:Q (g a i) st):wpS (model prog w) A E s (elem' a i) Q st:=by
 rw [elem'_eq,b3h h];exact wpS_pure hq
end
def Seg(R:Keyed->Keyed->Bool)(a:Array Keyed)(lo hi:Nat):Prop:=∀i j,lo<=i->i<=j->j<hi->R (g a j) (g a i)=false
def Ges(R:Keyed->Keyed->Bool)(a:Array Keyed)(lo hi:Nat):Prop:=∀i j,lo<=i->i<=j->j<hi->R (g a i) (g a j)=false
def Fix(lo:Nat)(a b:Array Keyed):Prop:=∀i,i<lo->g b i=g a i
theorem Fix.refl{lo:Nat}{a:Array Keyed}:Fix lo a a:=λ_ _=>rfl
theorem Fix.trans{lo:Nat}{a b c:Array Keyed}(h:Fix lo a b)(k:Fix lo b c):Fix lo a c:=λi hi=>(k i hi).trans (h i hi)
theorem a2I(hj:j<=a.size)(k:Nat):g (mirror a i j ((j - i)/ 2)) k=if i<=k/\k<j then g a (i+j - 1 - k) else g a k:=by
 have e:=getElem?_mirror_all (i:=i) hj k
 by_cases h:i<=k/\k<j
 ·rw [if_pos h] at e ⊢;exact b7E e
 ·rw [if_neg h] at e ⊢;exact b7E e
theorem a7L(hs:src<a.size)(hd:d<=src)(k:Nat):g (bubble a src d) k=if k=src - d then g a src else if src - d<k/\k<=src then g a (k - 1) else g a k:=by
 have e:=getElem?_bubble hs d hd k
 by_cases h:k=src - d
 ·rw [if_pos h] at e ⊢;exact b7E e
 ·rw [if_neg h] at e ⊢
  by_cases h2:src - d<k/\k<=src
  ·rw [if_pos h2] at e ⊢;exact b7E e
  ·rw [if_neg h2] at e ⊢;exact b7E e
structure B(κ:SortKind)(a₀:Array Keyed)(st:SortSt):Prop where
 perm:(arrOf st).Perm a₀
 kind:kindOf st=κ
 failed:failedOf st=ζ
section
variable {prog:AS}{w:AL}{A:AU}{E:AA->AE->Prop}{s:AE}
variable {κ:SortKind}{S:Keyed->Prop}{R:Keyed->Keyed->Bool}{a₀:Array Keyed}
theorem B.size{st:SortSt}(h:B κ a₀ st):(arrOf st).size=a₀.size:=h.perm.size_eq
theorem B.set{st:SortSt}(h:B κ a₀ st){xs:Array Keyed}(hp:xs.Perm (arrOf st)):B κ a₀ (setArr st xs):=⟨hp.trans h.perm,h.kind,h.failed⟩
theorem B.sg{st:SortSt}(h:B κ a₀ st)(hS:∀p∈a₀.toList,S p){i:Nat}(hi:i<a₀.size):S (g (arrOf st) i):=
 hS _ ((Array.perm_iff_toList_perm.mp h.perm).mem_iff.mp (c3W (by rw [h.size];exact hi)))
theorem a5j(C:Cmp prog w A E s κ S R)(hS:∀p∈a₀.toList,S p){st:SortSt}(hB:B κ a₀ st){i j:Nat}{Q:Υ Bool->SortSt->Prop}(hi:i<a₀.size)(hj:j<a₀.size)
 (h:Q (ξ (R (g (arrOf st) i) (g (arrOf st) j))) st):wpS (model prog w) A E s (ltAt' i j) Q st:=by
 rw [ltAt'_eq]
 refine wpS_bind (wpS_get ?_)
 exact wpS_bind (b46 (by rw [hB.size];exact hi) (wpS_bind (b46 (by rw [hB.size];exact hj) (C.lt _ _ (hB.sg hS hi) (hB.sg hS hj) st Q hB.kind h))))
theorem a8O{st:SortSt}{i j:Nat}{Q:Unit->SortSt->Prop}(h:Q () (setArr st (mirror (arrOf st) i j ((j - i)/ 2)))):wpS (model prog w) A E s (reverseSlice' i j) Q st:=by
 rw [reverseSlice'_eq];exact wpS_modify h
def up(lo a nrem:Nat):SM (Υ (Υ Nat)×Nat):=
 forIn [a:nrem] ((ζ,a):Υ (Υ Nat)×Nat) λ_ c=>do
  let t<-ltAt' (lo+c.2) (lo+c.2 - 1)
  match t with
  |some b=>if b=true then pure (.done (ζ,c.2)) else pure (.yield (ζ,c.2+1))
  |_=>pure (.done (ξ ζ,c.2))
theorem c1D(C:Cmp prog w A E s κ S R)(hS:∀p∈a₀.toList,S p){st:SortSt}{lo a nrem:Nat}{Q:Υ (Υ Nat)×Nat->SortSt->Prop}(hB:B κ a₀ st)(hn:lo+nrem<=a₀.size)(ha:1<=a)(han:a<=nrem)
 (hs:Seg R (arrOf st) lo (lo+a))
 (h:∀n,a<=n->n<=nrem->Seg R (arrOf st) lo (lo+n)->(n=nrem\/R (g (arrOf st) (lo+n)) (g (arrOf st) (lo+n - 1))=true)->Q (ζ,n) st):
 wpS (model prog w) A E s (up lo a nrem) Q st:=by
 refine wpS_forRange (I:=λx c st'=>st'=st/\c=(ζ,x)/\Seg R (arrOf st) lo (lo+x)) ?_ ?_ ⟨rfl,rfl,hs⟩
 ·rintro x c st' hax hxn ⟨rfl,rfl,hs'⟩
  dsimp only
  refine wpS_bind (a5j C hS hB (by lia) (by lia) ?_)
  cases hl:R (g (arrOf st') (lo+x)) (g (arrOf st') (lo+x - 1))
  ·simp only [Aw,if_false]
   refine wpS_pure ⟨rfl,rfl,λi j hi hij hj=> ?_⟩
   by_cases hjx:j<lo+x
   ·exact hs' i j hi hij hjx
   ·have:j=lo+x:=by lia
    subst this
    by_cases hi':i=lo+x
    ·subst hi';exact C.rfl' (hB.sg hS (by lia))
    ·exact C.tr _ (g (arrOf st') (lo+x - 1)) _ (hB.sg hS (by lia)) (hB.sg hS (by lia)) (hB.sg hS (by lia)) (hs' i (lo+x - 1) hi (by lia) (by lia)) hl
  ·simp only [if_true]
   exact wpS_pure (h x hax (by lia) hs' (.inr hl))
 ·rintro c st' ⟨rfl,rfl,hs'⟩
  rw [show max a nrem=nrem by lia] at hs' ⊢
  exact h nrem han (AM _) hs' (.inl rfl)
def dn(lo n nrem:Nat):SM (Υ (Υ Nat)×Nat×Nat):=
 forIn [n:nrem] ((ζ,n,0):Υ (Υ Nat)×Nat×Nat) λ_ c=>do
  let t<-ltAt' (lo+c.2.1) (lo+c.2.1 - 1)
  match t with
  |some b=>
   if b=true then
    if c.2.2>0 then do
     reverseSlice' (lo+c.2.1 - (c.2.2+1)) (lo+c.2.1)
     pure (.yield (ζ,c.2.1+1,0))
    else pure (.yield (ζ,c.2.1+1,0))
   else do
    let t<-ltAt' (lo+c.2.1 - 1) (lo+c.2.1)
    match t with
    |some b=>if b=true then pure (.done (ζ,c.2.1,c.2.2)) else pure (.yield (ζ,c.2.1+1,c.2.2+1))
    |_=>pure (.done (ξ ζ,c.2.1,c.2.2))
  |_=>pure (.done (ξ ζ,c.2.1,c.2.2))
theorem a1H(C:Cmp prog w A E s κ S R)(hS:∀p∈a₀.toList,S p){st:SortSt}(hB:B κ a₀ st){lo hi i j:Nat}(hh:hi<=a₀.size)(hg:Ges R (arrOf st) lo hi)(h1:lo<=i)(h2:j<=hi)(hij:i<j)
 (he:∀k,i<=k->k<j->R (g (arrOf st) (j - 1)) (g (arrOf st) k)=false):Ges R (mirror (arrOf st) i j ((j - i)/ 2)) lo hi:=by
 have hsz:j<=(arrOf st).size:=by rw [hB.size];lia
 intro k l hk hkl hl
 rw [a2I hsz,a2I hsz]
 split
 ·split
  ·rename_i p q
   refine C.tr _ (g (arrOf st) (j - 1)) _ (hB.sg hS (by lia)) (hB.sg hS (by lia)) (hB.sg hS (by lia)) (he _ (by lia) (by lia)) (hg _ _ (by lia) (by lia) (by lia))
  ·exact hg _ _ (by lia) (by lia) (by lia)
 ·split
  ·exact hg _ _ (by lia) (by lia) (by lia)
  ·exact hg _ _ (by lia) (by lia) (by lia)
theorem a0i{a:Array Keyed}{lo i j:Nat}(hj:j<=a.size)(h:lo<=i):Fix lo a (mirror a i j ((j - i)/ 2)):=λk hk=>by
 rw [a2I hj,if_neg (by lia)]
theorem c4B(C:Cmp prog w A E s κ S R)(hS:∀p∈a₀.toList,S p){st:SortSt}{lo n nrem:Nat}{Q:Υ (Υ Nat)×Nat×Nat->SortSt->Prop}(hB:B κ a₀ st)(hn:lo+nrem<=a₀.size)(h1:1<=n)(hnn:n<=nrem)
 (hs:Ges R (arrOf st) lo (lo+n))
 (h:∀m e st',B κ a₀ st'->pendingOf st'=pendingOf st->Fix lo (arrOf st) (arrOf st')->n<=m->m<=nrem->Ges R (arrOf st') lo (lo+m)->e+1<=m->
  (∀i,lo+m - (e+1)<=i->i<lo+m->R (g (arrOf st') (lo+m - 1)) (g (arrOf st') i)=false)->Q (ζ,m,e) st'):
 wpS (model prog w) A E s (dn lo n nrem) Q st:=by
 refine wpS_forRange (I:=λx c st'=>∃e,c=(ζ,x,e)/\B κ a₀ st'/\pendingOf st'=pendingOf st/\Fix lo (arrOf st) (arrOf st')/\Ges R (arrOf st') lo (lo+x)/\e+1<=x/\
  (∀i,lo+x - (e+1)<=i->i<lo+x->R (g (arrOf st') (lo+x - 1)) (g (arrOf st') i)=false)) ?_ ?_
  ⟨0,rfl,hB,rfl,Fix.refl,hs,by lia,λi a b=>by rw [show i=lo+n - 1 by lia];exact C.rfl' (hB.sg hS (by lia))⟩
 ·rintro x c st' hax hxn ⟨e,rfl,hB',hp,hf,hg,he,hq⟩
  dsimp only
  have hsz:lo+x<=(arrOf st').size:=by rw [hB'.size];lia
  refine wpS_bind (a5j C hS hB' (by lia) (by lia) ?_)
  cases hl:R (g (arrOf st') (lo+x)) (g (arrOf st') (lo+x - 1))
  ·simp only [Aw,if_false]
   refine wpS_bind (a5j C hS hB' (by lia) (by lia) ?_)
   cases hm:R (g (arrOf st') (lo+x - 1)) (g (arrOf st') (lo+x))
   ·simp only [Aw,if_false]
    refine wpS_pure ⟨e+1,rfl,hB',hp,hf,λi j hi hij hj=> ?_,by lia,λi h1 h2=> ?_⟩
    ·by_cases hjx:j<lo+x
     ·exact hg i j hi hij hjx
     ·have:j=lo+x:=by lia
      subst this
      by_cases hi':i=lo+x
      ·subst hi';exact C.rfl' (hB'.sg hS (by lia))
      ·exact C.tr _ (g (arrOf st') (lo+x - 1)) _ (hB'.sg hS (by lia)) (hB'.sg hS (by lia)) (hB'.sg hS (by lia)) hm (hg i (lo+x - 1) hi (by lia) (by lia))
    ·rw [show lo+(x+1) - 1=lo+x by lia]
     by_cases hi':i=lo+x
     ·subst hi';exact C.rfl' (hB'.sg hS (by lia))
     ·exact C.tr _ (g (arrOf st') (lo+x - 1)) _ (hB'.sg hS (by lia)) (hB'.sg hS (by lia)) (hB'.sg hS (by lia)) (hq i (by lia) (by lia)) hl
   ·simp only [if_true]
    exact wpS_pure (h x e st' hB' hp hf hax (by lia) hg he hq)
  ·simp only [if_true]
   have hg1:Ges R (arrOf st') lo (lo+(x+1)):=by
    intro i j hi hij hj
    by_cases hjx:j<lo+x
    ·exact hg i j hi hij hjx
    ·have:j=lo+x:=by lia
     subst this
     by_cases hi':i=lo+x
     ·subst hi';exact C.rfl' (hB'.sg hS (by lia))
     ·exact C.tr _ (g (arrOf st') (lo+x - 1)) _ (hB'.sg hS (by lia)) (hB'.sg hS (by lia)) (hB'.sg hS (by lia)) (C.as _ _ (hB'.sg hS (by lia)) (hB'.sg hS (by lia)) hl) (hg i (lo+x - 1) hi (by lia) (by lia))
   by_cases he0:e>0
   ·rw [if_pos he0]
    have hB2:B κ a₀ (setArr st' (mirror (arrOf st') (lo+x - (e+1)) (lo+x) ((lo+x - (lo+x - (e+1)))/ 2))):=hB'.set (mirror_perm _ _ _ _)
    refine wpS_bind (a8O (wpS_pure ⟨0,rfl,hB2,hp,hf.trans (a0i hsz (by lia)),a1H C hS hB' (by lia) hg1 (by lia) (by lia) (by lia) hq,by lia,λi a b=> ?_⟩))
    rw [show i=lo+(x+1) - 1 by lia];exact C.rfl' (hB2.sg hS (by lia))
   ·rw [if_neg he0]
    refine wpS_pure ⟨0,rfl,hB',hp,hf,hg1,by lia,λi a b=> ?_⟩
    rw [show i=lo+(x+1) - 1 by lia];exact C.rfl' (hB'.sg hS (by lia))
 ·rintro c st' ⟨e,rfl,hB',hp,hf,hg,he,hq⟩
  rw [show max n nrem=nrem by lia] at hg he hq ⊢
  exact h nrem e st' hB' hp hf hnn (AM _) hg he hq
theorem c3D(C:Cmp prog w A E s κ S R)(hS:∀p∈a₀.toList,S p){st:SortSt}{lo nrem:Nat}{Q:Υ Nat->SortSt->Prop}(hB:B κ a₀ st)(hn:lo+nrem<=a₀.size)(h1:1<=nrem)
 (h:∀m st',B κ a₀ st'->pendingOf st'=pendingOf st->Fix lo (arrOf st) (arrOf st')->1<=m->m<=nrem->Seg R (arrOf st') lo (lo+m)->Q (ξ m) st'):
 wpS (model prog w) A E s (countRun' lo nrem) Q st:=by
 rw [countRun'_eq]
 have one:Seg R (arrOf st) lo (lo+1):=λi j hi hij hj=>by
  have:i=j:=by lia
  subst this;exact C.rfl' (hB.sg hS (by lia))
 have tail:∀m st',B κ a₀ st'->pendingOf st'=pendingOf st->Fix lo (arrOf st) (arrOf st')->1<=m->m<=nrem->Ges R (arrOf st') lo (lo+m)->
  wpS (model prog w) A E s (reverseSlice' lo (lo+m)) (λ_ st2=>wpS (model prog w) A E s (up lo m nrem) (λc st3=>c.1=ζ/\Q (ξ c.2) st3) st2) st':=by
  intro m st' hB' hp hf hm1 hm2 hg
  have hsz:lo+m<=(arrOf st').size:=by rw [hB'.size];lia
  have hB2:B κ a₀ (setArr st' (mirror (arrOf st') lo (lo+m) ((lo+m - lo)/ 2))):=hB'.set (mirror_perm _ _ _ _)
  refine a8O (c1D C hS hB2 hn hm1 hm2 ?_ λn a b c _=>⟨rfl,h n _ hB2 hp (hf.trans (a0i hsz (AM _))) (by lia) b c⟩)
  intro i j hi hij hj
  show R (g (mirror (arrOf st') lo (lo+m) ((lo+m - lo)/ 2)) j) (g (mirror (arrOf st') lo (lo+m) ((lo+m - lo)/ 2)) i)=false
  rw [a2I hsz,a2I hsz,if_pos (by lia),if_pos (by lia)]
  exact hg _ _ (by lia) (by lia) (by lia)
 have desc:∀n st',B κ a₀ st'->pendingOf st'=pendingOf st->Fix lo (arrOf st) (arrOf st')->n+1<=nrem->Ges R (arrOf st') lo (lo+(n+1))->
  wpS (model prog w) A E s (dn lo (n+1) nrem) (λc st2=>c.1=ζ/\c.2.1<=nrem/\1<=c.2.1/\B κ a₀ st2/\pendingOf st2=pendingOf st/\Fix lo (arrOf st) (arrOf st2)/\c.2.2+1<=c.2.1/\Ges R (arrOf st2) lo (lo+c.2.1)/\
   (∀i,lo+c.2.1 - (c.2.2+1)<=i->i<lo+c.2.1->R (g (arrOf st2) (lo+c.2.1 - 1)) (g (arrOf st2) i)=false)) st':=by
  intro n st' hB' hp hf hnn hg
  exact c4B C hS hB' hn (by lia) hnn hg λm e st2 b1 b2 b3 b4 b5 b6 b7 b8=>⟨rfl,b5,(by lia:1<=m),b1,b2.trans hp,hf.trans b3,b7,b6,b8⟩
 refine wpS_bind (c1D C hS hB hn (AM 1) h1 one λn hn1 hn2 hsn ho=> ?_)
 dsimp only
 by_cases hnn:n=nrem
 ·rw [if_pos (by simpa using hnn)]
  exact wpS_pure (h n st hB rfl Fix.refl hn1 hn2 hsn)
 ·rw [if_neg (by simpa using hnn)]
  have hlt:=ho.resolve_left hnn
  have hl':R (g (arrOf st) (lo+n - 1)) (g (arrOf st) (lo+n))=false:=C.as _ _ (hB.sg hS (by lia)) (hB.sg hS (by lia)) hlt
  have hsz:lo+n<=(arrOf st).size:=by rw [hB.size];lia
  have ges:R (g (arrOf st) lo) (g (arrOf st) (lo+n - 1))=false->Ges R (arrOf st) lo (lo+(n+1)):=by
   intro hr i j hi hij hj;have toi:∀i,lo<=i->i<lo+n->R (g (arrOf st) i) (g (arrOf st) (lo+n - 1))=false:=λi hi hj=>
    C.tr _ (g (arrOf st) lo) _ (hB.sg hS (by lia)) (hB.sg hS (by lia)) (hB.sg hS (by lia)) hr (hsn lo i (AM _) hi hj)
   by_cases hjn:j<lo+n
   ·exact C.tr _ (g (arrOf st) (lo+n - 1)) _ (hB.sg hS (by lia)) (hB.sg hS (by lia)) (hB.sg hS (by lia)) (hsn j (lo+n - 1) (by lia) (by lia) (by lia)) (toi i hi (by lia))
   ·have:j=lo+n:=by lia
    subst this
    by_cases hi':i=lo+n
    ·subst hi';exact C.rfl' (hB.sg hS (by lia))
    ·exact C.tr _ (g (arrOf st) (lo+n - 1)) _ (hB.sg hS (by lia)) (hB.sg hS (by lia)) (hB.sg hS (by lia)) hl' (toi i hi (by lia))
  by_cases hgt:n>1
  ·rw [if_pos hgt]
   refine wpS_bind (a5j C hS hB (by lia) (by lia) ?_)
   cases hr:R (g (arrOf st) lo) (g (arrOf st) (lo+n - 1))
   ·simp only [Aw,if_false]
    have hB2:B κ a₀ (setArr st (mirror (arrOf st) lo (lo+n) ((lo+n - lo)/ 2))):=hB.set (mirror_perm _ _ _ _)
    refine wpS_bind (a8O (wpS_bind (wpS_lift (wpAny_rule ⟨rfl, ?_⟩))))
    refine wpS_bind (wpS_mono (desc n _ hB2 rfl (a0i hsz (AM _)) (by lia) (a1H C hS hB (by lia) (ges hr) (AM _) (by lia) (by lia) λk a b=>hsn k (lo+n - 1) a (by lia) (by lia))) ?_)
    rintro⟨c,m,e⟩ st2 ⟨rfl,b1,b2,b3,b4,b5,b6,b7,b8⟩
    dsimp only at*
    by_cases he:e>0
    ·rw [if_pos he]
     have hsz2:lo+m<=(arrOf st2).size:=by rw [b3.size];lia
     refine wpS_bind (a8O (wpS_bind (wpS_mono (tail m _ (b3.set (mirror_perm _ _ _ _)) b4 (b5.trans (a0i hsz2 (by lia))) b2 b1 (a1H C hS b3 (by lia) b7 (by lia) (by lia) (by lia) b8)) λ_ st3 q=>wpS_bind (wpS_mono q ?_))))
     rintro⟨c,n'⟩ st4 ⟨rfl,q⟩
     exact wpS_pure q
    ·rw [if_neg he]
     refine wpS_bind (wpS_mono (tail m _ b3 b4 b5 b2 b1 b7) λ_ st3 q=>wpS_bind (wpS_mono q ?_))
     rintro⟨c,n'⟩ st4 ⟨rfl,q⟩
     exact wpS_pure q
   ·simp only [if_true]
    exact wpS_pure (h n st hB rfl Fix.refl hn1 hn2 hsn)
  ·rw [if_neg hgt]
   have:n=1:=by lia
   subst this
   refine wpS_bind (wpS_lift (wpAny_rule ⟨rfl, ?_⟩))
   refine wpS_bind (wpS_mono (desc 1 _ hB rfl Fix.refl (by lia) (ges (by rw [show lo+1 - 1=lo by lia];exact C.rfl' (hB.sg hS (by lia))))) ?_)
   rintro⟨c,m,e⟩ st2 ⟨rfl,b1,b2,b3,b4,b5,b6,b7,b8⟩
   dsimp only at*
   by_cases he:e>0
   ·rw [if_pos he]
    have hsz2:lo+m<=(arrOf st2).size:=by rw [b3.size];lia
    refine wpS_bind (a8O (wpS_bind (wpS_mono (tail m _ (b3.set (mirror_perm _ _ _ _)) b4 (b5.trans (a0i hsz2 (by lia))) b2 b1 (a1H C hS b3 (by lia) b7 (by lia) (by lia) (by lia) b8)) λ_ st3 q=>wpS_bind (wpS_mono q ?_))))
    rintro⟨c,n'⟩ st4 ⟨rfl,q⟩
    exact wpS_pure q
   ·rw [if_neg he]
    refine wpS_bind (wpS_mono (tail m _ b3 b4 b5 b2 b1 b7) λ_ st3 q=>wpS_bind (wpS_mono q ?_))
    rintro⟨c,n'⟩ st4 ⟨rfl,q⟩
    exact wpS_pure q
theorem b3O(C:Cmp prog w A E s κ S R){a:Array Keyed}{lo k l:Nat}(hS:∀i,i<=lo+k->S (g a i))(hks:lo+k<a.size)(hlk:l<=k)(hs:Seg R a lo (lo+k))
 (hlo:∀i,i<l->R (g a (lo+k)) (g a (lo+i))=false) (hhi:∀i,l<=i->i<k->R (g a (lo+k)) (g a (lo+i))=true):Seg R (bubble a (lo+k) (lo+k - (lo+l))) lo (lo+(k+1)):=by
 intro i j hi hij hj
 rw [a7L hks (by lia),a7L hks (by lia),show lo+k - (lo+k - (lo+l))=lo+l by lia]
 have low:∀i,lo<=i->i<lo+l->R (g a (lo+k)) (g a i)=false:=λi x y=>by
  have:=hlo (i - lo) (by lia);rwa [show lo+(i - lo)=i by lia] at this
 have high:∀i,lo+l<=i->i<lo+k->R (g a i) (g a (lo+k))=false:=λi x y=>by
  have:=hhi (i - lo) (by lia) (by lia);rw [show lo+(i - lo)=i by lia] at this
  exact C.as _ _ (hS _ (AM _)) (hS _ (BG y)) this
 by_cases e1:i=lo+l
 ·subst e1
  rw [if_pos rfl]
  by_cases e2:j=lo+l
  ·rw [if_pos e2];exact C.rfl' (hS _ (AM _))
  ·rw [if_neg e2,if_pos (by lia)];exact high _ (by lia) (by lia)
 ·rw [if_neg e1]
  by_cases e3:lo+l<i
  ·rw [if_neg (by lia),if_pos (by lia),if_pos (by lia)];exact hs _ _ (by lia) (by lia) (by lia)
  ·rw [if_neg (c:=lo+l<i/\i<=lo+k) (by lia)]
   by_cases e2:j=lo+l
   ·rw [if_pos e2];exact low _ hi (by lia)
   ·rw [if_neg e2]
    by_cases e4:lo+l<j
    ·rw [if_pos (by lia)];exact hs _ _ hi (by lia) (by lia)
    ·rw [if_neg (by lia)];exact hs _ _ hi hij (by lia)
theorem c3C(C:Cmp prog w A E s κ S R)(hS:∀p∈a₀.toList,S p){st:SortSt}{lo n ok:Nat}{Q:Bool->SortSt->Prop}(hB:B κ a₀ st)(hn:lo+n<=a₀.size)(hok:ok<=n)(h1:1<=n)(hs:Seg R (arrOf st) lo (lo+ok))
 (h:∀st',B κ a₀ st'->pendingOf st'=pendingOf st->Fix lo (arrOf st) (arrOf st')->Seg R (arrOf st') lo (lo+n)->Q true st'):
 wpS (model prog w) A E s (binarySort' lo n ok) Q st:=by
 rw [binarySort'_eq]
 refine wpS_bind (wpS_mono (wpS_forRange (I:=λk c st'=>c=(ζ,())/\B κ a₀ st'/\pendingOf st'=pendingOf st/\Fix lo (arrOf st) (arrOf st')/\Seg R (arrOf st') lo (lo+k))
  (Q:=λc st'=>c=(ζ,())/\B κ a₀ st'/\pendingOf st'=pendingOf st/\Fix lo (arrOf st) (arrOf st')/\Seg R (arrOf st') lo (lo+n)) ?_ ?_ ⟨rfl,hB,rfl,Fix.refl, ?_⟩) ?_)
 ·rintro k c st' hk1 hk2 ⟨rfl,hB',hp,hf,hs'⟩
  dsimp only
  refine wpS_bind (wpS_mono (wpS_forRange (I:=λx c st2=>st2=st'/\∃l r,c=(ζ,l,r)/\l<=r/\r<=k/\r - l+x<=k/\
   (∀i,i<l->R (g (arrOf st') (lo+k)) (g (arrOf st') (lo+i))=false)/\(∀i,r<=i->i<k->R (g (arrOf st') (lo+k)) (g (arrOf st') (lo+i))=true))
   (Q:=λc st2=>st2=st'/\∃l,c=(ζ,l,l)/\l<=k/\
    (∀i,i<l->R (g (arrOf st') (lo+k)) (g (arrOf st') (lo+i))=false)/\(∀i,l<=i->i<k->R (g (arrOf st') (lo+k)) (g (arrOf st') (lo+i))=true)) ?_ ?_ ⟨rfl,0,k,rfl,by lia,by lia,by lia,λi a=>by lia,λi a b=>by lia⟩) ?_)
  ·rintro x c st2 _ hx ⟨rfl,l,r,rfl,hlr,hrk,hm,hlo,hhi⟩
   dsimp only
   by_cases hge:l>=r
   ·rw [if_pos hge]
    have:l=r:=by lia
    subst this
    exact wpS_pure ⟨rfl,l,rfl,hrk,hlo,hhi⟩
   ·rw [if_neg hge]
    obtain⟨c,hc,c1,c2⟩:∃c,(l+r)/ 2=c/\l<=c/\c<r:=⟨_,rfl,by lia,by lia⟩
    rw [hc]
    refine wpS_bind (a5j C hS hB' (by lia) (by lia) ?_)
    cases hl:R (g (arrOf st2) (lo+k)) (g (arrOf st2) (lo+c))
    ·simp only [Aw,if_false]
     refine wpS_pure ⟨rfl,c+1,r,rfl,by lia,by lia,by lia,λi a=> ?_,hhi⟩
     exact C.tr _ (g (arrOf st2) (lo+c)) _ (hB'.sg hS (by lia)) (hB'.sg hS (by lia)) (hB'.sg hS (by lia)) (hs' _ _ (by lia) (by lia) (by lia)) hl
    ·simp only [if_true]
     refine wpS_pure ⟨rfl,l,c,rfl,by lia,by lia,by lia,hlo,λi a b=> ?_⟩
     cases hi:R (g (arrOf st2) (lo+k)) (g (arrOf st2) (lo+i))
     ·exact absurd (C.tr _ (g (arrOf st2) (lo+i)) _ (hB'.sg hS (by lia)) (hB'.sg hS (by lia)) (hB'.sg hS (by lia)) (hs' (lo+c) (lo+i) (by lia) (by lia) (by lia)) hi) (by rw [hl];decide)
     ·rfl
  ·rintro c st2 ⟨rfl,l,r,rfl,hlr,hrk,hm,hlo,hhi⟩
   have:l=r:=by lia
   subst this
   exact⟨rfl,l,rfl,hrk,hlo,hhi⟩
  ·rintro c st2 ⟨rfl,l,rfl,hlk,hlo,hhi⟩
   dsimp only
   rw [moveDown'_eq]
   have hks:lo+k<(arrOf st2).size:=by rw [hB'.size];lia
   refine wpS_bind (wpS_modify (wpS_pure ⟨rfl,hB'.set (bubble_perm _ _ _),hp,hf.trans ?_, ?_⟩))
   ·intro i hi
    rw [a7L hks (by lia),if_neg (by lia),if_neg (by lia)]
   ·exact b3O C (λi hi=>hB'.sg hS (by lia)) hks hlk hs' hlo hhi
 ·rintro c st' ⟨rfl,hB',hp,hf,hs'⟩
  rw [show max (max ok 1) n=n by lia] at hs'
  exact⟨rfl,hB',hp,hf,hs'⟩
 ·by_cases hk:ok=0
  ·subst hk
   intro i j hi hij hj
   have:i=j:=by lia
   subst this;exact C.rfl' (hB.sg hS (by lia))
  ·rw [show max ok 1=ok by lia];exact hs
 ·rintro c st' ⟨rfl,hB',hp,hf,hs'⟩
  exact wpS_pure (h st' hB' hp hf hs')
theorem b00(h:n<64)(h0:0<n):minRun' n n 0=n:=by
 cases n with
 |zero=>lia
 |succ m=>
  show(if m+1<64 then m+1+0 else _)=_
  rw [if_pos h]
theorem c1b(C:Cmp prog w A E s κ S R)(hS:∀p∈a₀.toList,S p){st:SortSt}{Q:Unit->SortSt->Prop}(hB:B κ a₀ st)(hp:pendingOf st= #[])(hsm:a₀.size<64)
 (h:∀st',B κ a₀ st'->Seg R (arrOf st') 0 a₀.size->Q () st'):wpS (model prog w) A E s sortRuns' Q st:=by
 rw [sortRuns'_eq]
 refine wpS_bind (wpS_get ?_)
 dsimp only
 rw [hB.size]
 refine wpS_bind (wpS_mono (wpS_forRange
  (I:=λx c st'=>∃lo,c=(ζ,lo)/\B κ a₀ st'/\((lo=0/\pendingOf st'= #[]/\x=0)\/(lo=a₀.size/\(pendingOf st').size<=1/\Seg R (arrOf st') 0 a₀.size)))
  (Q:=λc st'=>c=(ζ,a₀.size)/\B κ a₀ st'/\(pendingOf st').size<=1/\Seg R (arrOf st') 0 a₀.size) ?_ ?_ ⟨0,rfl,hB,.inl ⟨rfl,hp,rfl⟩⟩) ?_)
 ·rintro x c st' _ hx ⟨lo,rfl,hB',hc⟩
  dsimp only
  by_cases hge:lo>=a₀.size
  ·rw [if_pos hge]
   rcases hc with⟨rfl,_,_⟩|⟨rfl,hc⟩
   ·lia
   ·exact wpS_pure ⟨rfl,hB',hc⟩
  rw [if_neg hge]
  rcases hc with⟨rfl,hpe,_⟩|⟨rfl,_⟩
  rotate_left
  ·lia
  refine wpS_bind (c3D C hS hB' (by lia) (by lia) λm st2 hB2 hp2 hf2 hm1 hm2 hs2=> ?_)
  dsimp only
  rw [b00 hsm (by lia)]
  by_cases hlt:m<a₀.size
  ·rw [if_pos hlt]
   generalize hN:min (a₀.size - 0) a₀.size=N
   have n1:N=a₀.size:=by lia
   refine wpS_bind (wpS_lift (wpAny_rule ⟨rfl, ?_⟩))
   refine wpS_bind (c3C C hS hB2 (by lia) (by lia) (by lia) hs2 λst3 b3 p3 f3 s3=> ?_)
   simp only [Bool.not_true,Aw,if_false]
   refine wpS_bind (wpS_get ?_)
   have hb:(pendingOf st3).back?=ζ:=by rw [p3,hp2,hpe];rfl
   rw [hb]
   dsimp only
   subst n1
   refine wpS_bind (wpS_modify (wpS_pure ⟨_,rfl,⟨b3.perm,b3.kind,b3.failed⟩,.inr ⟨by lia, ?_, ?_⟩⟩))
   ·show((pendingOf st3).push _).size<=1
    rw [p3,hp2,hpe];exact AM _
   ·show Seg R (arrOf st3) 0 _
    rw [Nat.zero_add] at s3;exact s3
  ·rw [if_neg hlt]
   have n1:m=a₀.size:=by lia
   refine wpS_bind (wpS_get ?_)
   have hb:(pendingOf st2).back?=ζ:=by rw [hp2,hpe];rfl
   rw [hb]
   dsimp only
   subst n1
   refine wpS_bind (wpS_modify (wpS_pure ⟨_,rfl,⟨hB2.perm,hB2.kind,hB2.failed⟩,.inr ⟨by lia, ?_, ?_⟩⟩))
   ·show((pendingOf st2).push _).size<=1
    rw [hp2,hpe];exact AM _
   ·show Seg R (arrOf st2) 0 _
    rw [Nat.zero_add] at hs2;exact hs2
 ·rintro c st' ⟨lo,rfl,hB',hc⟩
  rcases hc with⟨rfl,hpe,hx⟩|⟨rfl,hc⟩
  ·have h0:a₀.size=0:=by lia
   exact⟨by rw [h0],hB',by rw [hpe];exact Nat.zero_le _,λi j _ _ hj=>by lia⟩
  ·exact⟨rfl,hB',hc⟩
 ·rintro c st' ⟨rfl,hB',hz,hs⟩
  dsimp only
  refine wpS_bind (wpS_mono (wpS_forRange (I:=λx c st4=>c=(ζ,())/\B κ a₀ st4/\(pendingOf st4).size<=1/\Seg R (arrOf st4) 0 a₀.size)
   (Q:=λc st4=>c=(ζ,())/\B κ a₀ st4/\Seg R (arrOf st4) 0 a₀.size) ?_ ?_ ⟨rfl,hB',hz,hs⟩) ?_)
  ·rintro x c st4 _ hx ⟨rfl,b4,z4,s4⟩
   refine wpS_bind (wpS_get ?_)
   rw [if_pos z4]
   exact wpS_pure ⟨rfl,b4,s4⟩
  ·rintro c st4 ⟨rfl,b4,z4,s4⟩
   exact⟨rfl,b4,s4⟩
  ·rintro c st4 ⟨rfl,b4,s4⟩
   exact wpS_pure (h st4 b4 s4)
end
section
variable {prog:AS}{w:AL}{A:AU}{E:AA->AE->Prop}{s:AE}
variable {κ:SortKind}{S:Keyed->Prop}{R:Keyed->Keyed->Bool}
def tw(v:AA):Keyed:=(v,v)
theorem b2o(vs:List AA):(pairsOf vs).toList=vs.map tw:=by
 rw [pairsOf_toList]
 induction vs with
 |nil=>rfl
 |cons v r ih=>rw [List.zip_cons_cons,ih];rfl
theorem b8C(hp:a.Perm (pairsOf vs))(hs:Seg R a 0 (pairsOf vs).size):
 ((a.map (·.2)).toList).Perm vs/\((a.map (·.2)).toList).Pairwise λu v=>R (tw v) (tw u)=false:=by
 have hl:=Array.perm_iff_toList_perm.mp hp
 rw [b2o] at hl
 have e:a.toList=(a.map (·.2)).toList.map tw:=by
  rw [Array.toList_map,Au];have:∀p∈a.toList,(tw∘λp:Keyed=>p.2) p=p:=λp hm=>by
   obtain⟨v,_,rfl⟩:=Ae.mp (hl.mem_iff.mp hm)
   rfl
  rw [List.map_congr_left this,List.map_id']
 refine⟨?_, ?_⟩
 ·have:=hl.map (λp:Keyed=>p.2)
  rw [Au] at this
  have e2:vs.map ((λp:Keyed=>p.2)∘tw)=vs:=by
   have:((λp:Keyed=>p.2)∘tw)=id:=rfl;rw [this,List.map_id]
  rw [e2] at this
  rw [Array.toList_map];exact this
 ·have hw:a.toList.Pairwise λx y=>R y x=false:=by
   rw [List.pairwise_iff_getElem];intro i j hi hj hij;have h1:=b7G hi;have h2:=b7G hj;rw [Ax hi] at h1;rw [Ax hj] at h2;rw [Option.some.inj h1,Option.some.inj h2];exact hs i j (Nat.zero_le _) (by lia) (by rw [<-hp.size_eq];exact hj)
  rw [e,List.pairwise_map] at hw;exact hw
theorem a81(ho:s.heap.get? a=ξ (seqObj "list" vs.toArray n))(hz:vs.length<64)
 (hC:2<=vs.length->∀h',(∀b o,b≠a->s.heap.get? b=ξ o->h'.get? b=ξ o)->
  (∀Q:SortKind->AE->Prop,Q κ {s with heap:=h'}->AG (model prog w) A (keyKind' vs.toArray) Q E {s with heap:=h'})/\Cmp prog w A E {s with heap:=h'} κ S R)
 (hS:∀v∈vs,S (tw v))
 (h:∀out:Array AA,out.toList.Perm vs->(out.toList.Pairwise λu v=>R (tw v) (tw u)=false)->P (.done (.ret .none)) {s with heap:=sortedHeap s.heap a vs out}):
 AG (model prog w) A (Builtin.«list.sort» ⟨[.ref a],[]⟩) P E s:=by
 have hb:vs.toArray.size<=AQ:=by rw [Az,sizeLine_eq];lia
 rw [list_sort_plain]
 refine AC (listItems_at ho rfl (AC (listUpdate_at ho rfl ?_ hb (Nat.zero_le _))))
 obtain⟨e1,q1⟩:∃e1,(s.heap.update a (Obj.mapSeq λ_=> #[])).get? a=ξ (seqObj "list" #[] e1):=⟨_,get?_update_seq ho (λ_=> #[])⟩
 refine AC (seqEpoch_at q1 rfl (AC (wpAny_newTuple (AC (wpAny_newList (wpAny_holding ?_) (Nat.zero_le _))) (by show vs.length<=_;rw [sizeLine_eq];lia))))
 have q6:(((s.heap.update a (Obj.mapSeq λ_=> #[])).push (seqObj "tuple" vs.toArray 0)).push (seqObj "list" #[] 0)).get? a=ξ (seqObj "list" #[] e1):=
  AY _ (AY _ q1)
 have keep:∀b o,b≠a->s.heap.get? b=ξ o->(((s.heap.update a (Obj.mapSeq λ_=> #[])).push (seqObj "tuple" vs.toArray 0)).push (seqObj "list" #[] 0)).get? b=ξ o:=λb o hb e=>
  AY _ (AY _ (by rw [Heap.get?_update_ne _ _ _ _ hb];exact e))
 show AG (model prog w) A _ P E {s with heap:=((s.heap.update a (Obj.mapSeq λ_=> #[])).push (seqObj "tuple" vs.toArray 0)).push (seqObj "list" #[] 0)}
 dsimp only
 by_cases h2:vs.toArray.size<2
 ·rw [if_pos h2,if_pos h2]
  have h2':vs.length<2:=by rwa [Az] at h2
  refine AC (AH ?_)
  rw [StateT.run_pure]
  refine AC (AH ?_)
  dsimp only
  refine AC (seqEpoch_at q6 rfl (AC (listUpdate_at q6 rfl ?_ (hsz2:= ?_))))
  ·simp only [bne_self_eq_false,Aw,if_false]
   have ob:=b8C (R:=λ_ _=>false) (vs:=vs) (a:=pairsOf vs) (Array.Perm.refl _) (λi j _ hij hj=>rfl)
   refine AH (h _ ob.1 ?_)
   have hl:=ob.1.length_eq
   match(Array.map (λp:Keyed=>p.2) (pairsOf vs)).toList,hl with
   |[],_=>exact List.Pairwise.nil
   |[u],_=>exact List.pairwise_singleton _ _
   |_::_::_,hl=>simp at hl;lia
  ·rw [Array.size_map]
   show(pairsOf vs).size<=_
   rw [pairsOf_size,sizeLine_eq];lia
 ·rw [if_neg h2,if_neg h2]
  obtain⟨k1,k2⟩:=hC (by rw [Az] at h2;lia) _ keep
  refine AC (k1 _ ?_)
  have hS':∀p∈(pairsOf vs).toList,S p:=λp hp=>by
   rw [b2o] at hp;obtain⟨v,hv,rfl⟩:=Ae.mp hp;exact hS v hv
  refine AC (wpAny_mono (c1b (a₀:=pairsOf vs) k2 hS' (st:=SortSt.mk' κ (vs.toArray.zip vs.toArray) #[] 7 ζ) (Q:=λ_ st'=>B κ (pairsOf vs) st'/\Seg R (arrOf st') 0 (pairsOf vs).size) ⟨Array.Perm.refl _,rfl,rfl⟩ rfl (by rw [pairsOf_size];exact hz) λst' b1 b2=>⟨b1,b2⟩) ?_ λ_ _ e=>e)
  rintro⟨⟨⟩,st'⟩ s' ⟨rfl,b1,b2⟩
  dsimp only
  refine AC (seqEpoch_at q6 rfl (AC (listUpdate_at q6 rfl ?_ (hsz2:= ?_))))
  ·rw [b1.failed]
   simp only [bne_self_eq_false,Aw,if_false]
   have ob:=b8C b1.perm b2
   exact AH (h _ ob.1 ob.2)
  ·refine Nat.le_trans (Nat.le_of_eq ((Array.size_map ..).trans (b1.perm.size_eq.trans (pairsOf_size _)))) ?_
   rw [sizeLine_eq];lia
end
open L2 PU
section
variable {prog:AS}{w:AL}{A:AU}{E:AA->AE->Prop}{s:AE}
variable {κ:SortKind}{S:Keyed->Prop}{R:Keyed->Keyed->Bool}
theorem a8H(hT:T="list"\/T="tuple")(ho:s.heap.get? l=ξ o)(hc:o.cls= .type T)(hd:o.data= .seq vs.toArray n)(hz:vs.length<64)
 (hC:2<=vs.length->∀h',(∀b o,s.heap.get? b=ξ o->h'.get? b=ξ o)->
  (∀Q:SortKind->AE->Prop,Q κ {s with heap:=h'}->AG (model prog w) A.in1.in1 (keyKind' vs.toArray) Q (λ_ _=>False) {s with heap:=h'})/\Cmp prog w A.in1.in1 (λ_ _=>False) {s with heap:=h'} κ S R)
 (hS:∀v∈vs,S (tw v))
 (h:∀(h1 h':Heap) (e:Nat) (us:List AA),(∀b o',s.heap.get? b=ξ o'->h1.get? b=ξ o')->(∀b o',h1.get? b=ξ o'->h'.get? b=ξ o')->us.Perm vs->(us.Pairwise λu v=>R (tw v) (tw u)=false)->
  h'.get? h1.objs.size=ξ (seqObj "list" us.toArray e)->Q (.ref h1.objs.size) {s with heap:=h'}):
 AG (model prog w) A (call (.builtin "sorted") [.ref l]) Q E s:=by
 refine Calls.call_function_entry kind_sorted plain_sorted entry_sorted (args_sorted1 _) ?_
 unfold Builtin.«sorted»
 refine AC (AH ?_)
 refine AC (wpAny_collect_seq l hT ho hc hd (λh1 k1=> ?_) (by rw [Az,sizeLine_eq];lia))
 have ev:vs.toArray.toList=vs:=by simp
 rw [ev]
 refine AC (wpAny_newList ?_ (by rw [sizeLine_eq];lia))
 have q1:(h1.push (seqObj "list" vs.toArray 0)).get? h1.objs.size=ξ (seqObj "list" vs.toArray 0):=Ao _ rfl
 refine AC (wpAny_holding (wpAny_call_entry slot_list_sort ⟨_,q1,rfl⟩ entry_list_sort (wpAny_mono (a81 q1 hz (λh2 h' kp=>hC h2 h' λb o' e=>kp b o' ?_ ?_) hS λout a1 a2=>⟨_,rfl, ?_⟩) (λ_ _ e=>e) λ_ _ e=>e.elim) (args_list_sort _)))
 ·exact Aj (Ac (k1 b o' e))
 ·exact AY _ (k1 b o' e)
 ·obtain⟨e,he⟩:=sortedHeap_at q1
  refine AH ⟨_,rfl,h h1 _ e out.toList k1 (λb o' hb1=> ?_) a1 a2 (by rw [Array.toArray_toList];exact he)⟩
  have hlt:=Ac hb1
  rw [sortedHeap_old (Aj hlt) (by rw [size_push'];exact Nat.lt_succ_of_lt hlt),Heap.get?_push_ne _ _ _ (Aj hlt)]
  exact hb1
end
end TS
namespace PU
open L2
def b5H(lt:α->α->Bool)(x:α):List α->List α
 |[]=>[x]
 |y::r=>if lt y x then y::b5H lt x r else x::y::r
def a19(lt:α->α->Bool):List α->List α
 |[]=>[]
 |x::r=>b5H lt x (a19 lt r)
structure b2V{α:Type}(lt:α->α->Bool):Prop where
 tr:∀a b c,lt b a=false->lt c b=false->lt c a=false
 as:∀a b,lt a b=true->lt b a=false
 an:∀a b,lt a b=false->lt b a=false->a=b
section
variable {α:Type}{lt:α->α->Bool}
theorem a5C(x:α):∀l:List α,(b5H lt x l).Perm (x::l)
 |[]=>List.Perm.refl _
 |y::r=>by
  unfold b5H;split
  ·exact((a5C x r).cons y).trans (List.Perm.swap x y r)
  ·exact List.Perm.refl _
theorem a1T:∀l:List α,(a19 lt l).Perm l
 |[]=>List.Perm.refl _
 |x::r=>(a5C x (a19 lt r)).trans ((a1T r).cons x)
theorem a6k(L:b2V lt)(x:α):∀{l:List α},(l.Pairwise λa b=>lt b a=false)->(b5H lt x l).Pairwise λa b=>lt b a=false
 |[],_=>List.pairwise_singleton _ _
 |y::r,h=>by
  unfold b5H;have h':=List.pairwise_cons.mp h;split
  ·rename_i c;refine List.pairwise_cons.mpr ⟨λz hz=> ?_,a6k L x h'.2⟩;rcases AX.mp ((a5C x r).mem_iff.mp hz) with e|e
   ·subst e;exact L.as _ _ c
   ·exact h'.1 z e
  ·rename_i c;have c':=eq_false_of_ne_true c;refine List.pairwise_cons.mpr ⟨λz hz=> ?_,h⟩;rcases AX.mp hz with e|e
   ·subst e;exact c'
   ·exact L.tr _ _ _ c' (h'.1 z e)
theorem Z8(L:b2V lt):∀l:List α,(a19 lt l).Pairwise λa b=>lt b a=false
 |[]=>List.Pairwise.nil
 |x::r=>a6k L x (Z8 L r)
theorem a8F(L:b2V lt):∀{l m:List α},(l.Pairwise λa b=>lt b a=false)->(m.Pairwise λa b=>lt b a=false)->l.Perm m->l=m
 |[],m,_,_,p=>(List.Perm.nil_eq p)
 |a::l,[],_,_,p=>by have:=p.length_eq;simp at this
 |a::l,b::m,hl,hm,p=>by
  have hl':=List.pairwise_cons.mp hl;have hm':=List.pairwise_cons.mp hm;have e:a=b:=by
   have m1:=p.mem_iff.mp AZ;have m2:=p.mem_iff.mpr AZ;rcases AX.mp m1 with e|e
   ·exact e
   ·rcases AX.mp m2 with g|g
    ·exact g.symm
    ·exact L.an _ _ (hm'.1 a e) (hl'.1 b g)
  subst e;rw [a8F L hl'.2 hm'.2 (List.Perm.cons_inv p)]
theorem b2z(L:b2V lt)(h:l.Pairwise λa b=>lt b a=false)(p:l.Perm m):a19 lt m=l:=
 a8F L (Z8 L m) h ((a1T m).trans p.symm)
end
noncomputable def a9U:k4->k4->Bool
 | .inl a,.inl b=>decide (a<b)
 | .inr a,.inr b=>decide (a.cps.toList<b.cps.toList)
 | .inl _,.inr _=>true
 | .inr _,.inl _=>false
def R4:List k4->List k4->Bool
 |[],[]=>false
 |[],_::_=>true
 |_::_,[]=>false
 |a::r,b::t=>if a=b then R4 r t else a9U a b
theorem a6Y:b2V a9U where
 tr:=by
  intro a b c h1 h2;cases a<;>cases b<;>cases c<;>simp only [a9U,decide_eq_false_iff_not,reduceCtorEq] at h1 h2 ⊢
  ·lia
  ·exact a5H h1 h2
 as:=by
  intro a b h;cases a<;>cases b<;>simp only [a9U,decide_eq_false_iff_not,decide_eq_true_eq,reduceCtorEq] at h ⊢
  ·lia
  ·exact List.lt_asymm h
 an:=by
  intro a b h1 h2;cases a<;>cases b<;>simp only [a9U,decide_eq_false_iff_not,reduceCtorEq] at h1 h2
  ·congr 1;lia
  ·congr 1;exact a7Y h2 h1
theorem a0m:b2V R4 where
 tr:=by
  intro a
  induction a with
  |nil=>intro b c _ h2;cases c<;>rfl
  |cons x a ih=>
   intro b c h1 h2;cases b with
   |nil=>simp [R4] at h1
   |cons y b=>
    cases c with
    |nil=>simp [R4] at h2
    |cons z c=>
     unfold R4 at h1 h2 ⊢
     by_cases e1:y=x
     ·subst e1;rw [if_pos rfl] at h1
      by_cases e2:z=y
      ·subst e2;rw [if_pos rfl] at h2 ⊢;exact ih b c h1 h2
      ·rw [if_neg e2] at h2 ⊢;exact h2
     ·rw [if_neg e1] at h1
      by_cases e2:z=y
      ·subst e2;rw [if_neg e1];exact h1
      ·rw [if_neg e2] at h2
       by_cases e3:z=x
       ·subst e3;exact absurd (a6Y.an _ _ h1 h2) e1
       ·rw [if_neg e3];exact a6Y.tr _ _ _ h1 h2
 as:=by
  intro a
  induction a with
  |nil=>intro b h;cases b<;>first|rfl|(simp [R4] at h)
  |cons x a ih=>
   intro b h;cases b with
   |nil=>simp [R4] at h
   |cons y b=>
    unfold R4 at h ⊢
    by_cases e:x=y
    ·subst e;rw [if_pos rfl] at h ⊢;exact ih b h
    ·rw [if_neg e] at h;rw [if_neg (Ne.symm e)];exact a6Y.as _ _ h
 an:=by
  intro a
  induction a with
  |nil=>intro b h1 h2;cases b<;>first|rfl|(simp [R4] at h1)
  |cons x a ih=>
   intro b h1 h2;cases b with
   |nil=>simp [R4] at h2
   |cons y b=>
    unfold R4 at h1 h2
    by_cases e:x=y
    ·subst e;rw [if_pos rfl] at h1 h2;rw [ih b h1 h2]
    ·rw [if_neg e] at h1;rw [if_neg (Ne.symm e)] at h2;exact absurd (a6Y.an _ _ h1 h2) e
def kT(k:List k4):PV:= .tuple (k.map kP)
def a7U:List PV->Υ (List (List k4))
 |[]=>ξ []
 | .tuple qs::r=>(keysOf qs).bind λk=>(a7U r).map λt=>k::t
 |_::_=>ζ
def sgK:k4->Bool
 | .inl _=>false
 | .inr _=>true
def okK:List (List k4)->Bool
 |[]=>true
 |k::r=> !k.isEmpty && r.all λj=>j.map sgK==k.map sgK
open L2 PySem.W
theorem c2n:∀{a b:k4},kV a=kV b->a=b
 | .inl _,.inl _,h=>by cases h;rfl
 | .inr _,.inr _,h=>by cases h;rfl
 | .inl _,.inr _,h=>nomatch h
 | .inr _,.inl _,h=>nomatch h
theorem b4z:∀{a b:List k4},a.map kV=b.map kV->a=b
 |[],[],_=>rfl
 |[],_::_,h=>nomatch h
 |_::_,[],h=>nomatch h
 |x::a,y::b,h=>by
  rw [AI,AI] at h;obtain⟨h1,h2⟩:=List.cons.inj h;rw [c2n h1,b4z h2]
def a0X(h:Heap)(u:AA)(k:List k4):Prop:=∃(a:AB) (o:Obj) (xs:Array AA) (n:Nat),u= .ref a/\h.get? a=ξ o/\o.cls= .type "tuple"/\o.data= .seq xs n/\t0 (k.map kV) xs.toList
theorem a0X.inj(a:a0X h u k)(b:a0X h u j):k=j:=by
 obtain⟨a1,o1,x1,n1,rfl,g1,_,d1,v1⟩:=a;obtain⟨a2,o2,x2,n2,e2,g2,_,d2,v2⟩:=b;cases e2;rw [g1] at g2;cases g2;rw [d1] at d2;cases d2;exact b4z (v1.inj v2)
theorem a0X.keep(a:a0X h u k)(kp:∀b o,h.get? b=ξ o->h'.get? b=ξ o):a0X h' u k:=
 let ⟨a1,o1,x1,n1,e,g1,c,d1,v1⟩:=a;⟨a1,o1,x1,n1,e,kp _ _ g1,c,d1,v1⟩
open Classical in
def kOf(h:Heap)(u:AA):List k4:=if e:∃k,a0X h u k then e.choose else []
theorem b0R(a:a0X h u k):kOf h u=k:=by
 have e:∃k,a0X h u k:=⟨k,a⟩;unfold kOf;rw [dif_pos e];exact e.choose_spec.inj a
section
variable {prog:AS}{w:AL}{A:AU}{E:AA->AE->Prop}{s:AE}
theorem b7Q(hu:m8 (kV a) u)(hv:m8 (kV c) v)(hg:sgK a=sgK c):SeqAt.EqAt A s u v (decide (a=c)):=by
 cases a<;>cases c<;>first|(cases hg;done)|skip
 ·obtain⟨t,rfl⟩:=hu;obtain⟨t',rfl⟩:=hv;rename_i i j;have:=b7R i j;rw [this];exact SeqAt.EqAt.int_int _ _ _ _
 ·obtain⟨t,rfl⟩:=hu;obtain⟨t',rfl⟩:=hv;rename_i i j;rw [b7S i j];have:=SeqAt.EqAt.str_str (A:=A) (s:=s) i t j t';have e:(i==j)=decide (i=j):=by by_cases h:i=j<;>simp [h]
  rw [e] at this;exact this
theorem b5R(f:Bool)(hu:m8 (kV a) u)(hv:m8 (kV c) v)(hg:sgK a=sgK c)(h:Q (a9U a c) s):AG (model prog w) A (oneLt' f u v) Q E s:=by
 cases a<;>cases c<;>first|(cases hg;done)|skip
 ·obtain⟨t,rfl⟩:=hu;obtain⟨t',rfl⟩:=hv;cases f
  ·exact kat_one _ _ (a4r.ints _ _ t t' prog w E _ h)
  ·exact oneLt_int h
 ·obtain⟨t,rfl⟩:=hu;obtain⟨t',rfl⟩:=hv;cases f
  ·exact kat_one _ _ (a4r.strs _ _ t t' prog w E _ h)
  ·rw [<-keyLt'_oneType];exact kas_lt_str h
theorem a6m:∀(ks js:List k4) (us ws:List AA) (i:Nat),t0 (ks.map kV) us->t0 (js.map kV) ws->ks.map sgK=js.map sgK->Q (R4 ks js) s->KatLex prog w A b false Q (us.zip ws) i s
 |[],[],us,ws,i,h1,h2,_,h=>by
  cases h1;cases h2;exact kat_nil h
 |[],_::_,_,_,_,_,_,e,_=>nomatch e
 |_::_,[],_,_,_,_,_,e,_=>nomatch e
 |a::ks,c::js,us,ws,i,h1,h2,e,h=>by
  rw [AI] at h1 h2;cases h1 with
  |cons r1 h1=>
   cases h2 with
   |cons r2 h2=>
    rw [AI,AI] at e;obtain⟨e1,e2⟩:=List.cons.inj e;rw [List.zip_cons_cons];refine kat_cons (b7Q r1 r2 e1 prog w _ _ ?_);unfold R4 at h
    by_cases hac:a=c
    ·rw [if_pos hac] at h;rw [decide_eq_true hac];exact kat_yes (a6m ks js _ _ (i+1) h1 h2 e2 h)
    ·rw [if_neg hac] at h;rw [decide_eq_false hac];exact kat_no (b5R _ r1 r2 e1 h)
theorem b9l(kp:∀b o,h₀.get? b=ξ o->s.heap.get? b=ξ o):
 TS.Cmp prog w A E s (tuples' b) (λx=>∃k,a0X h₀ x.1 k/\k.map sgK=σk) (λx y=>R4 (kOf h₀ x.1) (kOf h₀ y.1)) where
 lt:=by
  rintro⟨x,x'⟩ ⟨y,y'⟩ ⟨k,hk,gk⟩ ⟨j,hj,gj⟩ st Q hκ h;dsimp only at*;rw [b0R hk,b0R hj] at h;rw [lt'_eq];refine wpS_bind (wpS_get ?_);rw [hκ];refine wpS_bind (wpS_lift (wpAny_attempt ?_));obtain⟨a1,o1,x1,n1,rfl,g1,c1,d1,v1⟩:=hk;obtain⟨a2,o2,x2,n2,rfl,g2,c2,d2,v2⟩:=hj;have z1:k.length=x1.size:=by have:=v1.length;rwa [AN,Array.length_toList] at this
  have z2:j.length=x2.size:=by have:=v2.length;rwa [AN,Array.length_toList] at this
  have zk:k.length=j.length:=by have:=congrArg List.length (gk.trans gj.symm);rwa [AN,AN] at this
  refine kat_lt (kp _ _ g1) d1 (kp _ _ g2) d2 ?_;have:decide (x1.size<x2.size)=false:=decide_eq_false (by rw [<-z1,<-z2,zk];exact Nat.lt_irrefl _)
  rw [this];exact a6m k j _ _ 0 v1 v2 (gk.trans gj.symm) ⟨rfl,wpS_pure h⟩
 tr:=λx y z _ _ _=>a0m.tr _ _ _
 as:=λx y _ _=>a0m.as _ _
end
theorem a8i:∀{l:List α} {m:List β},Paired R l m->∀x∈l,∃y∈m,R x y
 |_,_,.cons r t,x,h=>by
  rcases AX.mp h with rfl|h
  ·exact⟨_,AZ,r⟩
  ·obtain⟨y,hy,q⟩:=a8i t x h;exact⟨y,Ag _ hy,q⟩
theorem a4e:∀{vs:List AA} {ks:List (List k4)},Paired (a0X h) vs ks->vs.map (kOf h)=ks
 |_,_,.nil=>rfl
 |_,_,.cons r t=>by rw [AI,b0R r,a4e t]
section
variable {prog:AS}{w:AL}{A:AU}{E:AA->AE->Prop}{s:AE}
theorem a6D:∀{vs:List AA} {ks:List (List k4)},Paired (a0X h) vs ks->(∀k∈ks,k.map sgK=c::σk)->
 ∃fs:List AA,KatTups h vs fs/\fs.length=vs.length/\∀v∈fs,Looks (model prog w) h (typeOf v) (if c then Value.type "str" else Value.type "int")
 |_,_,.nil,_=>⟨[],.nil,rfl,λv hv=>nomatch hv⟩
 |_,_,.cons r t,hs=>by
  rename_i v k vs ks;obtain⟨fs,f1,f2,f3⟩:=a6D t λk hk=>hs k (Ag _ hk);have e:=hs k AZ;obtain⟨a1,o1,x1,n1,rfl,g1,c1,d1,v1⟩:=r;cases k with
  |nil=>cases e
  |cons q k=>
   rw [AI] at e v1;have e1:=(List.cons.inj e).1;generalize hx:x1.toList=xl at v1;cases v1 with
   |cons r1 v1=>
    rename_i u us;have h0:x1[0]?=ξ u:=by rw [<-Array.getElem?_toList,hx];rfl
    refine⟨u::fs,.cons g1 c1 d1 h0 f1,by rw [AT,AT,f2],λv hv=> ?_⟩
    rcases AX.mp hv with rfl|hv
    ·cases q with
     |inl i=>
      obtain⟨t',rfl⟩:=r1;have:=e1.symm;subst this;exact(.now:Looks (model prog w) h (pure (Value.type "int")) (Value.type "int"))
     |inr x=>
      obtain⟨t',rfl⟩:=r1;have:=e1.symm;subst this;exact(.now:Looks (model prog w) h (pure (Value.type "str")) (Value.type "str"))
    ·exact f3 v hv
theorem b6t(hp:Paired (a0X s.heap) vs ks)(h0:0<vs.length)(hs:∀k∈ks,k.map sgK=c::σk)(h:Q (tuples' true) s):
 AG (model prog w) A (keyKind' vs.toArray) Q E s:=by
 obtain⟨fs,f1,f2,f3⟩:=a6D hp hs
 refine kat_kind f1 (by lia) f3 ?_ ?_
 ·cases c<;>decide
 ·have:((if c=true then Value.type "str" else Value.type "int") !=Value.type "tuple")=true:=by cases c<;>decide
  rw [this];exact h
theorem a6t(kp:∀b o,h.get? b=ξ o->h'.get? b=ξ o):∀{vs:List AA} {ks:List (List k4)},Paired (a0X h) vs ks->Paired (a0X h') vs ks
 |_,_,.nil=> .nil
 |_,_,.cons r t=> .cons (r.keep kp) (a6t kp t)
theorem b2A(hT:T="list"\/T="tuple")(ho:s.heap.get? l=ξ o)(hc:o.cls= .type T)(hd:o.data= .seq vs.toArray n)(hz:vs.length<64)
 (hp:Paired (a0X s.heap) vs ks) (ok:okK ks=true)
 (h:∀(h1 h':Heap) (e:Nat) (us:List AA),(∀b o',s.heap.get? b=ξ o'->h1.get? b=ξ o')->(∀b o',h1.get? b=ξ o'->h'.get? b=ξ o')->us.Perm vs->us.map (kOf s.heap)=a19 R4 ks->
  h'.get? h1.objs.size=ξ (seqObj "list" us.toArray e)->Q (.ref h1.objs.size) {s with heap:=h'}):
 AG (model prog w) A (call (.builtin "sorted") [.ref l]) Q E s:=by
 obtain⟨c,σk,hs⟩:∃c σk,∀k∈ks,k.map sgK=c::σk:=by
  cases ks with
  |nil=>exact⟨false,[],λk hk=>nomatch hk⟩
  |cons k r=>
   unfold okK at ok;rw [χ] at ok;cases k with
   |nil=>exact nomatch ok.1
   |cons q k=>
    refine⟨sgK q,k.map sgK,λj hj=> ?_⟩;rcases AX.mp hj with rfl|hj
    ·rfl
    ·have:=List.all_eq_true.mp ok.2 j hj
     simpa using this
 refine TS.a8H (κ:=tuples' true) (S:=λx=>∃k,a0X s.heap x.1 k/\k.map sgK=c::σk) hT ho hc hd hz (λh2 h' kp=>⟨λQ' hq=> ?_,b9l kp⟩) (λv hv=> ?_)
  λh1 h' e us k1 k2 pm pw he=>h h1 h' e us k1 k2 pm ?_ he
 ·exact b6t (a6t kp hp) (by lia) hs hq
 ·obtain⟨k,hk,r⟩:=a8i hp v hv
  exact⟨k,r,hs k hk⟩
 ·symm
  refine b2z a0m (List.pairwise_map.mpr pw) ?_
  have:=pm.map (kOf s.heap)
  rw [a4e hp] at this
  exact this
end
theorem a9P:∀{qs:List PV} {k:List k4},keysOf qs=ξ k->qs=k.map kP
 |[],k,h=>by cases h;rfl
 |q::qs,k,h=>by
  obtain⟨a,h1,h⟩:=bind_some h;obtain⟨r,h2,h⟩:=bind_some h;cases h;rw [AI,<-a9P h2]
  congr 1
  unfold b16 at h1;split at h1<;>cases h1<;>rfl
def a33(x:g5):Υ g5:=match PyData.items? x.rd with
 |some ps=>(a7U ps).bind λks=>if okK ks=true/\ks.length<64 then ξ (.own ((a19 R4 ks).map kT)) else ζ
 |none=>ζ
section
variable {X:Cx}{pins:List (AB×Obj)}{σ:L2.St}{F H:Hp}{s:AE}
theorem a9Q(I:j4 X pins σ H s)(s0:m3 F H):∀{ps:List PV} {ks:List (List k4)} {xs:List V} {its:List AA},a7U ps=ξ ks->m7 X.K F ps xs->t0 xs its->
 Paired (a0X s.heap) its ks/\∀u∈its,∃k v,a0X s.heap u k/\m8 v u/\A3 X.K F (kT k) v
 |[],ks,xs,its,h,r,v=>by
  cases h;cases r;cases v;exact⟨.nil,λu hu=>nomatch hu⟩
 | .tuple qs::ps,ks,xs,its,h,r,v=>by
   obtain⟨k,h1,h⟩:=bind_some h;cases h2:a7U ps with
   |none=>rw [h2] at h;cases h
   |some t=>
    rw [h2] at h;cases h;obtain⟨x,xr,rfl,rx,rr⟩:=r;cases v with
    |cons v1 vr=>
     obtain⟨p1,p2⟩:=a9Q I s0 h2 rr vr;have rx':=rx;obtain⟨a,xs',rfl,hq,rl⟩:=rx';cases v1;obtain⟨its',rv,⟨o,ho,hc,n,hd⟩,hz⟩:=I.tuple (b4V s0 hq).sq;have ex:=T4 h1 rl;rw [ex] at rv;have tv:a0X s.heap (.ref a) k:=⟨a,o,its'.toArray,n,rfl,ho,hc,hd,by simpa using rv⟩
     refine⟨.cons tv p1,λu hu=> ?_⟩;rcases AX.mp hu with rfl|hu
     ·refine⟨k,.ref a,tv,rfl, ?_⟩;unfold kT;rw [<-a9P h1];exact rx
     ·exact p2 u hu
 | .none::_,_,_,_,h,_,_=>nomatch h
 | .bool _::_,_,_,_,h,_,_=>nomatch h
 | .int _::_,_,_,_,h,_,_=>nomatch h
 | .str _::_,_,_,_,h,_,_=>nomatch h
 | .list _::_,_,_,_,h,_,_=>nomatch h
 | .dict _::_,_,_,_,h,_,_=>nomatch h
theorem b2v:∀{us:List AA},(∀u∈us,∃k v,a0X h u k/\m8 v u/\A3 X.K F (kT k) v)->∃ys,t0 ys us/\m7 X.K F ((us.map (kOf h)).map kT) ys
 |[],_=>⟨[],.nil,rfl⟩
 |u::us,hu=>by
  obtain⟨ys,h1,h2⟩:=b2v λu' h'=>hu u' (Ag _ h');obtain⟨k,v,h3,h4,h5⟩:=hu u AZ;refine⟨v::ys,.cons h4 h1,v,ys,rfl, ?_,h2⟩;rw [b0R h3];exact h5
end
section
variable {X:Cx}
theorem b1R:E4 X (.builtin "sorted") (rC1 X.K a33):=by
 ext b
 unfold a33 at h2;split at h2
 ·rename_i ps e;obtain⟨ks,e1,h2⟩:=bind_some h2;split at h2
  ·ext o
   have fin:∀(its:List AA) (T:String) (o:Obj) (n:Nat),(T="list"\/T="tuple")->s.heap.get? a=ξ o->o.cls= .type T->o.data= .seq its.toArray n->t0 xs its->AG (model X.prog X.w) X.A (call (.builtin "sorted") [.ref a]) (EP X pins σ Q) X.xe s:=by
    intro its T o n hT ho hc hd rvv;obtain⟨p1,p2⟩:=a9Q I s0 e1 r rvv;have hlen:its.length=ks.length:=by rw [<-a4e p1,AN]
    refine b2A hT ho hc hd (by rw [hlen];exact c.2) p1 c.1 λhp1 hp2 en us k1 k2 pm ek he=> ?_
    have I1:=I.kept (t':=s.toks) k1;obtain⟨ys,v1,r1⟩:=b2v (X:=X) (F:=F) (h:=s.heap) (us:=us) λu hu=>p2 u (pm.mem_iff.mp hu);rw [ek] at r1;have hf:=I1.hok.fresh (AM _);have hyl:ys.length<=AQ:=by rw [v1.length,pm.length_eq,hlen,sizeLine_eq];exact Nat.le_trans (BG c.2) (by decide)
    exact⟨.ref hp1.objs.size,_,I1.laid (t':=s.toks) (h':=hp2) (o:= .lst ys) k2 (AM _) ⟨hyl,us,en,v1,he⟩,rfl,k _ F _ (w8.lst s0 hf r1)⟩
   rcases hq with hq|hq
   ·ext k
   ·ext q
  ·cases h2
 ·cases h2
end
def a2g(h:Heap)(d:AB)(es:Array DictEntry)(ep:Nat):Prop:=∃o,h.get? d=ξ o/\o.ExactDict/\o.data= .dict es ep
section
variable {prog:AS}{w:AL}{A:AU}{E:AA->AE->Prop}{s:AE}{it d:AB}{i ep:Nat}{es:Array DictEntry}
theorem a2g.type(h:a2g s.heap d es ep):s.TypeIs (.ref d) "dict":=let ⟨o,ho,hc,_⟩:=h;⟨o,ho,hc.1⟩
theorem b8Z(hd:(d==sysModules)=false)(hm:a2g s.heap d es ep)
 (hQ:Q (.ref s.heap.objs.size) {s with heap:=s.heap.push {cls:= .type "dict_keyiterator",data:= .fields #[.ref d,.int 0 0,.int es.size 0,.int ep 0]}}):AG (model prog w) A (pyIter (.ref d)) Q E s:=by
 obtain⟨o,ho,hc,hdat⟩:=id hm
 have hT:=hm.type
 refine wpAny_pyIter_slot hT F.slot_dict_iter (wpAny_call_entry F.slot_dict_iter hT F.entry_dict_iter ?_ (F.args_dict_iter_1 _))
 unfold Builtin.«dict.__iter__»;refine AC ?_;unfold Builtin.Dict.dictSlotNone
 refine AC (wpAny_notOrdered_dict hT ?_)
 refine AH ?_;show AG _ _ (Builtin.Dict.showsAll d>>=_) _ _ s;unfold Builtin.Dict.showsAll
 rw [if_neg (by rw [hd];exact As)]
 refine AC (AH (AC (wpAny_dictEntries ho hdat (AC (wpAny_dictEpoch ho hdat ?_)))))
 refine AC (wpAny_newObj_type (AH ⟨_,rfl,"dict_keyiterator",_,⟨_,Ao _ rfl,rfl⟩,F.slot_dict_keyiterator_next.lookup, ?_⟩))
 simpa [rawInt] using hQ
theorem b80(hit:s.heap.IsKeyIter it d i es.size ep)(hm:a2g s.heap d es ep)(hi:i<es.size)
 (hQ:∀h',h'.IsKeyIter it d (i+1) es.size ep->Heap.SameBut it s.heap h'->Q (ξ es[i].key) {s with heap:=h'}):AG (model prog w) A (pyNext (.ref it)) Q E s:=by
 obtain⟨o,ho,hc,hd⟩:=id hit
 obtain⟨od,hod,hcd,hdd⟩:=id hm
 refine AC (wpAny_attempt (wpAny_callSpecial?_slot hit.typeIs F.slot_dict_keyiterator_next (wpAny_call_entry F.slot_dict_keyiterator_next hit.typeIs F.entry_dict_keyiterator_next ?_ (F.args_dict_keyiterator_next_1 _))))
 refine AC (AH (AC (AC ?_)))
 refine AC (wpAny_typeNameOfWhole_keyiter hit.typeIs (AH (AC (wpAny_fieldsOf ho hd ?_))))
 have hown:Builtin.Dict_items.ownsTuple "dict_keyiterator"=false:=by decide
 simp only [hown,Aw,if_false];show AG _ _ (if(Value.ref d==Value.none)=true then _ else _) _ _ s
 rw [if_neg (show ¬((Value.ref d==Value.none)=true) from As)];refine AC (AH (AC (wpAny_dictEntries hod hdd ?_)))
 rw [if_neg (by simp)];refine AC (AH (AC (wpAny_dictEpoch hod hdd ?_)));rw [if_neg (by simp)];refine AH ?_
 simp only [show ¬((i:Int)<0) from by lia,if_false,BH,Array.getElem?_eq_getElem hi];refine AC ?_
 refine AC (wpAny_typeNameOfWhole_keyiter hit.typeIs (AH (AC (wpAny_isOneOf_keyiter hit.typeIs ?_))))
 show AG _ _ (setField (.ref it) 1 (rawInt ((i:Int)+1))>>=_) _ _ s;refine AC (wpAny_setField ho hd (by simp) ?_)
 have hit':(s.heap.update it (Obj.mapFields (·.setIfInBounds 1 (rawInt ((i:Int)+1))))).IsKeyIter it d (i+1) es.size ep:=⟨_,Heap.get?_update_self _ ho (Obj.isFreed_of_fields (Obj.data_mapFields hd _)),(Obj.cls_mapFields ..).trans hc,by rw [Obj.data_mapFields hd];simp [rawInt]⟩
 refine AC (wpAny_holding (AC (wpAny_isOneOf_keyiter hit'.typeIs ?_)))
 show AG _ _ (pure es[i].key) _ _ _;exact AH (AH ⟨_,rfl,AH (hQ _ hit' (Heap.SameBut.update ..))⟩)
theorem c0O(hh:A.handled=ζ)(hit:s.heap.IsKeyIter it d es.size es.size ep)(hm:a2g s.heap d es ep)(hQ:∀h',Heap.ExtBut it s.heap h'->Q ζ {s with heap:=h'}):AG (model prog w) A (pyNext (.ref it)) Q E s:=by
 obtain⟨o,ho,hc,hd⟩:=id hit;obtain⟨od,hod,hcd,hdd⟩:=id hm;refine AC (wpAny_attempt (wpAny_callSpecial?_slot hit.typeIs F.slot_dict_keyiterator_next (wpAny_call_entry F.slot_dict_keyiterator_next hit.typeIs F.entry_dict_keyiterator_next ?_ (F.args_dict_keyiterator_next_1 _))));refine AC (AH (AC (AC ?_)));refine AC (wpAny_typeNameOfWhole_keyiter hit.typeIs (AH (AC (wpAny_fieldsOf ho hd ?_))));have hown:Builtin.Dict_items.ownsTuple "dict_keyiterator"=false:=by decide
 simp only [hown,Aw,if_false];show AG _ _ (if(Value.ref d==Value.none)=true then _ else _) _ _ s
 rw [if_neg (show ¬((Value.ref d==Value.none)=true) from As)];refine AC (AH (AC (wpAny_dictEntries hod hdd ?_)));rw [if_neg (by simp)];refine AC (AH (AC (wpAny_dictEpoch hod hdd ?_)));rw [if_neg (by simp)];refine AH ?_
 simp only [show ¬((es.size:Int)<0) from by lia,if_false,BH,Array.getElem?_eq_none (AM es.size)];refine AC ?_
 refine AC (wpAny_typeNameOfWhole_keyiter hit.typeIs (AH ?_));show AG _ _ (setField (.ref it) 0 .none>>=_) _ _ s;refine AC (wpAny_setField ho hd (by simp) ?_);show AG _ _ (newExc (.type "StopIteration") []>>=_) _ _ _;refine AC ?_
 simp only [newExc,newTuple];refine AC (wpAny_newObj_type ?_ (by size_fits))
 refine AC (wpAny_of_eq (by first|rfl|(simp only [firstArgMember];rfl)) (wpAny_newObj_type ?_ (by size_fits)))
 simp only [raiseNew];refine AC (wpAny_handled ?_);rw [show A.in1.handled=ζ from hh];refine AC (AH (wpAny_throw ?_));refine AC (wpAny_isInstance ⟨_,Ao _ rfl,rfl⟩ isSubtype_stop ?_);exact AH (hQ _ (((Heap.SameBut.update ..).extBut.push _).push _))
theorem a2g.at (x:a2g h d es ep)(e:∀o,h.get? d=ξ o->h'.get? d=ξ o):a2g h' d es ep:=let ⟨o,ho,r⟩:=x;⟨o,e _ ho,r⟩
theorem b6j(hh:A.handled=ζ)(I d:AB)(hne:d≠I)(es:Array DictEntry)(ep:Nat):
 Walks prog w A I [I,d] [I] es.size (λi v=>∃e,es[i]?=ξ e/\v=e.key) (λi h=>h.IsKeyIter I d i es.size ep/\a2g h d es ep) where
 sub:=λb hb=>by simp at hb;simp [hb]
 frame:=λ_ _ _ st hk=>⟨st.1.at λo e=>hk I (by simp) o e,st.2.at λo e=>hk d (by simp) o e⟩
 item:=λi s Q E hi st hQ=>by
  refine b80 st.1 st.2 hi λh' hit' hs'=>hQ _ h' s.toks ⟨es[i],by simp [hi],rfl⟩ ⟨hit',st.2.at λo e=> ?_⟩ λb o hb e=>hs'.extBut b o (λh=>hb (by simp [h])) e
  exact hs'.extBut d o hne e
 done:=λs Q E st hQ=>c0O hh st.1 st.2 λh' he'=>hQ h' s.toks λb o hb e=>he' b o (λh=>hb (by simp [h])) e
 self:=λ_ _ _ _ st hQ=>wpAny_pyIter_keyiter st.1 hQ
theorem c0P(lo:(d==sysModules)=false):KdlSrc prog w "dict" d d es.size (λi v=>∃e,es[i]?=ξ e/\v=e.key) (λh=>a2g h d es ep) where
 type:=λ_ hm=>hm.type
 there:=λ_ ⟨o,ho,_⟩=>⟨Ac ho,Ac ho⟩
 keep:=λ_ _ hm hk=>hm.at λo e=>hk d (.inl rfl) o e
 notList:=by decide
 notTuple:=by decide
 hint:=λ_ _ _ _ hm hq=>kdl_hint_dict hm.type hq
 iter:=λA s hh hm=>by
  obtain⟨o,ho,r⟩:=id hm;exact⟨_,_,(λ_ _ hq=>b8Z lo hm hq),b6j hh _ d (Aj (Ac ho)) es ep,⟨⟨_,Ao _ rfl,rfl,rfl⟩,hm.at λo e=>AY _ e⟩⟩
theorem b1P(hh:A.handled=ζ)(lo:(d==sysModules)=false)(hm:a2g s.heap d es ep)(hn:es.size<=AQ)
 (hQ:∀h' tk,(∀b o,s.heap.get? b=ξ o->h'.get? b=ξ o)->Q (es.toList.map (·.key)) {s with heap:=h',toks:=tk}):AG (model prog w) A (collect (.ref d)) Q E s:=by
 obtain⟨o,ho,r⟩:=id hm
 have hlt:=Ac ho
 refine AC (wpAny_runValue (codeAny_builtin F.entry_proto_collect ?_));rw [Around.under_plainId F.plain_proto_collect _]
 show AG _ A.in1 (newList []>>=λl=>again (.builtin "list.__iadd__" ⟨[l,.ref d],[]⟩)) _ _ s;refine AC (wpAny_newObj_type ?_)
 refine AH ⟨plainId_quiet F.plain_list_iadd _,codeAny_builtin F.entry_list_iadd ?_⟩;rw [Around.under_plainId F.plain_list_iadd _]
 have hS:(s.heap.push {cls:= .type "list",data:= .seq ([]:List AA).toArray}).get? s.heap.objs.size=ξ {cls:= .type "list",data:= .seq ([]:List AA).toArray}:=Ao _ rfl
 refine kdl_extend (R:=λr s'=>match r with| .ok (.ret v)=>AG (model prog w) A (match v with| .ref a=>(do let o<-load a;match o.data with| .seq xs _=>pure xs.toList|_=>unsupported "internal:collect")|_=>unsupported "internal:collect") Q E s'| .ok _=>False| .error e=>E e s') (s:={s with heap:=s.heap.push {cls:= .type "list",data:= .seq ([]:List AA).toArray}}) (c0P lo) hh (hm.at λo e=>AY _ e) _ (Nat.ne_of_gt hlt) (Nat.ne_of_gt hlt) _ 0 hS (λh' tk acc c kp hS' hacc=> ?_) hn
 show AG _ A (load s.heap.objs.size>>=_) _ _ _;refine AC (wpAny_load hS' ?_)
 have e:acc.toList=es.toList.map (·.key):=by
  apply List.ext_getElem?;intro j;rw [Ak,Array.getElem?_toList,Array.getElem?_toList]
  by_cases hj:j<es.size
  ·have h1:j<acc.size:=by rw [hacc.1];exact hj
   obtain⟨e,e1,e2⟩:=hacc.2 j acc[j] (by simp [h1])
   rw [e1,getElem?_pos acc j h1,e2];rfl
  ·rw [getElem?_neg es j hj,getElem?_neg acc j (by rw [hacc.1];exact hj)];rfl
 refine AH ?_
 have:=hQ h' tk λb o e=>kp b o (Aj (Ac e)) (AY _ e)
 rw [<-e] at this
 exact this
end
end PU
namespace TS
open L2 PU
section
variable {prog:AS}{w:AL}{A:AU}{E:AA->AE->Prop}{s:AE}
variable {κ:SortKind}{S:Keyed->Prop}{R:Keyed->Keyed->Bool}
end
end TS
namespace PU
open L2 PySem.W
section
variable {prog:AS}{w:AL}{A:AU}{E:AA->AE->Prop}{s:AE}
end
section
variable {X:Cx}
end
open L2
section
variable {X:Cx}{pins:List (AB×Obj)}{σ:L2.St}{H:Hp}{s:AE}{a b:AB}{kvs:List (List k4×V)}{k:List k4}{v:V}{r:AA}{A:AU}{E:AA->AE->Prop}
theorem b9T(hu:A.units+1<cLine)(I:j4 X pins σ H s)(e:H a=ξ (.dT kvs))(eb:H b=ξ (.tup (k.map kV)))(l:kvs.length<AQ)(rv:m8 v r)(h:∀s',j4 X pins σ (n5 H a (.dT (a1O kvs k v))) s'->Q () s'):
 AG (model X.prog X.w) A (dictSet a (.ref b) r) Q E s:=by
 obtain⟨z,hd,xs,rel,dd⟩:=c1n I.hok e
 have hz:xs.length<=AQ:=by rw [<-Paired.length rel];exact z
 have hl:(a1O kvs k v).length<=AQ:=by have:=a2Q kvs k v;lia
 refine wpAny_dictSet_heap (show(tupleKind (m5 X.prog X.w)).room A from(by first|exact hu|exact Nat.lt_of_succ_lt hu)) (a5G I.hok eb) dd λh' dd' hs=>h _ ?_
 obtain⟨q,es,ep,hq,h2,h3,h4,_,h5⟩:=dd'
 refine b0z I (by rw [e];exact True.intro) hs ⟨q,hq⟩ ⟨hl,hd,_,(rel.put k eb rv).keeps λc ys ec=>(by rw [f9 (Q7 ec e (λz=>nomatch z))];exact ec),q,es,ep,hq,h2,h3,h4,h5⟩
end
section
variable {X:Cx}
end
def drp(F:Hp)(a:AB):Hp:=λb=>if b=a then ζ else F b
theorem M1(h:b≠a):drp F a b=F b:=by unfold drp;rw [if_neg h]
theorem a1b:drp F a a=ζ:=by unfold drp;rw [if_pos rfl]
section
variable {K:AD}{F:Hp}{a:AB}{xs:List V}
theorem a1a(h:F b=ζ):drp F a b=ζ:=by
 unfold drp;split
 ·rfl
 ·exact h
end
section
variable {X:Cx}
end
section
end
open Builtin Builtin.Str
section
end
structure Chg(fs ex:List AB)(h h':Heap):Prop where
 keep:∀b o,h.get? b=ξ o->b∉fs->b∉ex->h'.get? b=ξ o
 slot:∀b o,h.get? b=ξ o->b∈fs->b∉ex->∃sl,h'.get? b=ξ {o with slots:=sl}
 size:h.objs.size<=h'.objs.size
structure ExT(h:Heap)(e C T:AB)(fl:AA)(dd:Υ AB):Prop where
 obj:∃oe vs,h.get? e=ξ oe/\oe.cls= .ref C/\oe.data= .fields vs/\vs[1]?=ξ (.ref T)/\oe.dict=dd
 ne:T≠e
 tb:∃oT ts,h.get? T=ξ oT/\oT.data= .fields ts/\ts[3]?=ξ fl
def Ex0(h:Heap)(e C:AB)(dd:Υ AB):Prop:=∃oe vs,h.get? e=ξ oe/\oe.cls= .ref C/\oe.data= .fields vs/\vs[1]?=ξ .none/\oe.dict=dd
theorem b5q(f:Array AA->Array AA)(o:Obj):(Obj.mapFields f o).dict=o.dict:=by
 obtain⟨c,d,dt,sl⟩:=o;cases dt<;>rfl
section
variable {M:Model}{A:AU}{E:AA->AE->Prop}{s:AE}{base:Heap}{env:Env}{outer:List Env}{L e C:AB}{dd:Υ AB}
theorem a91(hfr:A.frames=ξ (env::outer))(hl:s.heap.FunFrames base (env::outer))(hf:env.frame=ξ L)
 (he:s.heap.get? e=ξ oe) (hc:oe.cls= .ref C) (hd:oe.data= .fields vs) (hdn:oe.dict=dd) (hsz:1<vs.size)
 (k:∀T h',s.heap.objs.size<=T->ExT h' e C T (rawInt L) dd->Chg ((env::outer).filterMap (·.frame)) [e] s.heap h'->Q () {s with heap:=h'}):
 AG M A (do let a<-frameOf env;let pl<-entryPlaceOf L hadNext;let b<-EntryCells.newEntry head a .none (rawInt L) .none pl;setField (.ref e) 1 b) Q E s:=by
 have hef:e∉(env::outer).filterMap (·.frame):=λhm=>by
  obtain⟨_,o,ho,hnf⟩:=hl.mem hm;rw [he] at ho;cases ho;exact hnf vs hd
 refine AC (wpAny_frameOf_fun hfr hl hf λh₁ hs₁=> ?_)
 refine AC (wpAny_entryPlaceOf λpl hpl=> ?_)
 refine AC (wpAny_newObj_type ?_ (hpl.sizeOk5 _ _ _ _ _))
 generalize hT:({cls:= .type "traceback",dict:=ζ,data:= .fields ([head,.ref L,.none,rawInt L,.none]++(if pl.isEmpty then Aq 6 Value.none else pl)).toArray}:Obj)=oT
 have he₁:h₁.get? e=ξ oe:=(hs₁.2.1 e hef).trans he
 have he₂:=AY (h:=h₁) oT he₁
 have hTe:h₁.objs.size≠e:=Nat.ne_of_gt (Ac he₁)
 have hd₃:=Obj.data_mapFields hd (·.setIfInBounds 1 (Value.ref h₁.objs.size))
 have he₃:=Heap.get?_update_self (Obj.mapFields (·.setIfInBounds 1 (Value.ref h₁.objs.size))) he₂ (Obj.isFreed_of_fields hd₃)
 have oth:∀b o,b≠e->h₁.get? b=ξ o->((h₁.push oT).update e (Obj.mapFields (·.setIfInBounds 1 (Value.ref h₁.objs.size)))).get? b=ξ o:=λb o hb hbo=>by
  rw [Heap.get?_update_other _ _ (Ne.symm hb)];exact AY _ hbo
 have hT3:((h₁.push oT).update e (Obj.mapFields (·.setIfInBounds 1 (Value.ref h₁.objs.size)))).get? h₁.objs.size=ξ oT:=by
  rw [Heap.get?_update_other _ _ (Ne.symm hTe)];exact Ao h₁ (by rw [<-hT];rfl)
 refine wpAny_setField he₂ hd hsz (k h₁.objs.size _ (Nat.le_of_eq hs₁.1.symm) ⟨⟨_,_,he₃,(Obj.cls_mapFields _ _).trans hc,hd₃,by simp [hsz],(b5q _ _).trans hdn⟩,hTe,oT,_,hT3,by rw [<-hT], ?_⟩ ⟨λb o hb hbf hbe=> ?_,λb o hb hbf hbe=> ?_, ?_⟩)
 ·rcases hpl with rfl|⟨_,_,_,_,_,_,_,rfl⟩<;>simp
 ·exact oth b o (λz=>hbe (by rw [z];exact List.mem_singleton.mpr rfl)) ((hs₁.2.1 b hbf).trans hb)
 ·obtain⟨sl,hs⟩:=hs₁.2.2 b o hb
  exact⟨sl,oth b _ (λz=>hbe (by rw [z];exact List.mem_singleton.mpr rfl)) hs⟩
 ·rw [Heap.size_update,Heap.size_push,hs₁.1];lia
theorem b3B(hfr:A.frames=ξ (env::outer))(hl:s.heap.FunFrames base (env::outer))(hf:env.frame=ξ L)(x:Ex0 s.heap e C dd)
 (k:∀T h',s.heap.objs.size<=T->ExT h' e C T (rawInt L) dd->Chg ((env::outer).filterMap (·.frame)) [e] s.heap h'->Q () {s with heap:=h'}):AG M A (noteFrame (.ref e) env) Q E s:=by
 obtain⟨oe,vs,he,hc,hd,h1,hdn⟩:=x
 unfold noteFrame
 simp only [hf]
 refine AC (wpAny_field he hd h1 ?_)
 rw [if_neg (by decide)]
 exact a91 hfr hl hf he hc hd hdn (Array.getElem?_eq_some_iff.mp h1).1 k
theorem b0J(x:ExT s.heap e C T fl dd)(fr:Υ AB)(k:∀h',ExT h' e C T (fr.elim .none λf=>rawInt f) dd->Chg [] [T] s.heap h'->h'.objs.size=s.heap.objs.size->Q () {s with heap:=h'}):AG M A (setFlight (.ref e) fr) Q E s:=by
 obtain⟨⟨oe,vs,he,hc,hd,h1,hdn⟩,hne,oT,ts,hT,hdT,h3⟩:=x;have hsz:=(Array.getElem?_eq_some_iff.mp h3).1;refine AC (wpAny_field he hd h1 ?_);rw [if_pos (show(Value.ref T !=Value.none)=true from by simp)]
 refine wpAny_setField hT hdT hsz (k _ ⟨⟨oe,vs, ?_,hc,hd,h1,hdn⟩,hne,_,_,Heap.get?_update_self _ hT (Obj.isFreed_of_fields (Obj.data_mapFields hdT _)),Obj.data_mapFields hdT _,by simp [hsz]⟩ ⟨λb o hb _ hbe=> ?_,(λb o _ hb=>nomatch hb), ?_⟩ ?_)
 ·rw [Heap.get?_update_other _ _ hne];exact he
 ·rw [Heap.get?_update_other _ _ (λz=>hbe (by rw [<-z];exact List.mem_singleton.mpr rfl))];exact hb
 ·rw [Heap.size_update];exact AM _
 ·rw [Heap.size_update]
theorem Chg.trans(x:Chg fs ex h h1)(y:Chg fs ex' h1 h2):Chg fs (ex++ex') h h2 where
 keep:=λb o e hf hx=>y.keep b o (x.keep b o e hf λz=>hx (Ay _ z)) hf λz=>hx (BD _ z)
 slot:=λb o e hf hx=>by
  obtain⟨sl,e1⟩:=x.slot b o e hf λz=>hx (Ay _ z);obtain⟨sl2,e2⟩:=y.slot b {o with slots:=sl} e1 hf λz=>hx (BD _ z)
  exact⟨sl2,e2⟩
 size:=Nat.le_trans x.size y.size
theorem Chg.more(x:Chg fs ex h h')(hf:∀b∈fs,b∈fs')(he:∀b∈ex,b∈ex'):Chg fs' ex' h h' where
 keep:=λb o e h1 h2=>x.keep b o e (λz=>h1 (hf b z)) λz=>h2 (he b z)
 slot:=λb o e h1 h2=>by
  by_cases hb:b∈fs
  ·exact x.slot b o e hb λz=>h2 (he b z)
  ·exact⟨o.slots,x.keep b o e hb λz=>h2 (he b z)⟩
 size:=x.size
theorem Chg.funs(x:Chg fs ex h h')(hl:h.FunFrames base l)(hx:∀b∈ex,∀o,h.get? b=ξ o->∃vs,o.data= .fields vs):h'.FunFrames base l:=
 hl.of_keeps λb o hb hnf=>by
  have hbx:b∉ex:=λz=>by
   obtain⟨vs,hd⟩:=hx b z o hb;exact hnf vs hd
  by_cases hbf:b∈fs
  ·obtain⟨sl,e⟩:=x.slot b o hb hbf hbx;exact⟨_,e,rfl⟩
  ·exact⟨o,x.keep b o hb hbf hbx,rfl⟩
theorem a92(hfr:A.frames=ξ (env::outer))(hl:s.heap.FunFrames base (env::outer))(hf:env.frame=ξ L)(x:ExT s.heap e C T fl dd)(hne:fl≠rawInt L)
 (k:∀T' h',s.heap.objs.size<=T'->ExT h' e C T' (rawInt L) dd->Chg ((env::outer).filterMap (·.frame)) [T,e] s.heap h'->Q () {s with heap:=h'}):AG M A (noteFrame (.ref e) env) Q E s:=by
 obtain⟨⟨oe,vs,he,hc,hd,h1,hdn⟩,hTe,oT,ts,hT,hdT,h3⟩:=x
 have hsz:=(Array.getElem?_eq_some_iff.mp h3).1
 unfold noteFrame
 simp only [hf]
 refine AC (wpAny_field he hd h1 ?_)
 rw [if_pos (show(Value.ref T !=Value.none)=true from by simp)]
 refine AC (wpAny_field hT hdT h3 ?_)
 rw [if_neg (by simpa using hne)]
 refine AC (wpAny_setField hT hdT hsz ?_)
 have c1:Chg ((env::outer).filterMap (·.frame)) [T] s.heap (s.heap.update T (Obj.mapFields (·.setIfInBounds 3 Value.none))):=⟨λb o hb _ hbe=>by
  rw [Heap.get?_update_other _ _ (λz=>hbe (by rw [<-z];exact List.mem_singleton.mpr rfl))];exact hb,λb o hb _ hbe=>⟨o.slots,by
  rw [Heap.get?_update_other _ _ (λz=>hbe (by rw [<-z];exact List.mem_singleton.mpr rfl))];exact hb⟩,by rw [Heap.size_update];exact AM _⟩
 have hl':=c1.funs hl λb hb o ho=>by
  rw [List.mem_singleton.mp hb,hT] at ho;cases ho;exact⟨ts,hdT⟩
 refine a91 hfr hl' hf (by rw [Heap.get?_update_other _ _ hTe];exact he) hc hd hdn (Array.getElem?_eq_some_iff.mp h1).1 λT' h' hT' x' c'=>k T' h' ?_ x' (c1.trans c')
 have:(s.heap.update T (Obj.mapFields (·.setIfInBounds 3 Value.none))).objs.size=s.heap.objs.size:=Heap.size_update ..
 rw [<-this];exact hT'
end
def CX1(P:AS)(w:AL):CXT:=λouter H s E e s'=>∃a C T dd H',e= .ref a/\s'.os=s.os/\AllBare s'.gens/\Un (frs outer) [] H H' s.heap s'.heap/\HOk P w H' s'.heap/\
 s.heap.get? a=ζ/\s.heap.get? T=ζ/\H' a=ζ/\H' T=ζ/\ExT s'.heap a C T .none dd/\E (.ref C) dd H'
theorem ExT.thereT(x:ExT h e C T fl dd):∃o,h.get? T=ξ o:=let ⟨o,_,h1,_⟩:=x.tb;⟨o,h1⟩
theorem b0P(x:HOk P w H h)(c:Chg fs ex h h')(hf:∀b∈fs,H b=ζ)(he:∀b∈ex,H b=ζ):HOk P w H h':=λa o e=>
 (x a o e).stay (λb u hb q=>by
  have hn:∃z,H b=ξ z:=by
   rcases hb with rfl|hb
   ·exact⟨_,e⟩
   ·exact⟨_,hb⟩
  obtain⟨z,hz⟩:=hn;exact c.keep b u q (λm=>by rw [hf b m] at hz;cases hz) λm=>by rw [he b m] at hz;cases hz) (λ_ q=>q) λ_ _ q=>q
theorem b9p(u:Un fs [] H H1 h h1)(c:Chg fs' ex h1 h2)(hfs:∀b∈fs',b∈fs\/h.objs.size<=b)(hex:∀b∈ex,h.get? b=ζ):Un fs [] H H1 h h2 where
 keep:=λb o e hn hf hx=>by
  have hlt:=Ac e;refine c.keep b o (u.keep b o e hn hf hx) (λm=> ?_) λm=>by rw [hex b m] at e;cases e
  rcases hfs b m with h|h
  ·exact hf h
  ·exact Nat.lt_irrefl _ (BA hlt h)
 slot:=λb o e hn hf hx=>by
  obtain⟨sl,e1⟩:=u.slot b o e hn hf hx
  by_cases hb:b∈fs'
  ·obtain⟨sl2,e2⟩:=c.slot b {o with slots:=sl} e1 hb λm=>by rw [hex b m] at e;cases e
   exact⟨sl2,e2⟩
  ·exact⟨sl,c.keep b _ e1 hb λm=>by rw [hex b m] at e;cases e⟩
 free:=u.free
 there:=λb o e hx=>by
  obtain⟨o1,e1⟩:=u.there b o e hx
  by_cases hb:b∈ex
  ·rw [hex b hb] at e;cases e
  ·by_cases hb2:b∈fs'
   ·obtain⟨sl,e2⟩:=c.slot b o1 e1 hb2 hb;exact⟨_,e2⟩
   ·exact⟨_,c.keep b o1 e1 hb2 hb⟩
 tups:=u.tups
 frzs:=u.frzs
 tbls:=u.tbls
section
variable {P:AS}{w:AL}{K:AD}{mg:Str->Υ AA}{base:Heap}{N:List Str}{qual:Str}{scope:Scope}{f:AB}{cd:AA}{A:AU}{outer:List Env}{s:AE}{H:Hp}{E:XK}
theorem a6o(I:j4 (a2w (CX1 P w) P w K mg base N qual scope f cd A outer s H E) pins σ H2 s2)(x:Ex0 s2.heap a C dd)(ha:s.heap.get? a=ζ)(hn:H2 a=ζ)(hE:E (.ref C) dd H2):
 (a2w (CX1 P w) P w K mg base N qual scope f cd A outer s H E).xe (.ref a) s2:=by
 show AG (model P w) _ (leaving (envOfC qual scope s.heap.objs.size f cd) (.ref a)) _ _ s2
 have hfree:=I.stkFree
 refine AC (b3B I.ok.frames I.stack rfl x λT h1 hT x1 c1=> ?_)
 refine b0J x1 ζ λh2 x2 c2 _=> ?_
 have hTn:=I.hok.fresh hT
 have c:=c1.trans (c2.more (λb hb=>nomatch hb) λb hb=>hb)
 have hsz:=I.sz
 have hex:∀b∈[a]++[T],s.heap.get? b=ζ:=λb hb=>by
  rcases At.mp hb with h|h<;>rw [List.mem_singleton.mp h]
  ·exact ha
  ·exact Heap.get?_none_of_le (Nat.le_trans hsz hT)
 refine⟨a,C,T,dd,H2,rfl,I.os,I.bare,b9p I.base c (λb hb=> ?_) hex,b0P I.hok c hfree λb hb=> ?_,ha,Heap.get?_none_of_le (Nat.le_trans hsz hT),hn,hTn,x2,hE⟩
 ·rcases AX.mp (I.stkSub b hb) with h|h
  ·exact .inr (by rw [h];exact I.ok.above)
  ·exact .inl h
 ·rcases At.mp hb with h|h<;>rw [List.mem_singleton.mp h]
  ·exact hn
  ·exact hTn
theorem b3p:a7g (CX1 P w) (a2w (CX1 P w) P w K mg base N qual scope f cd A outer s H E) E:=by
 intro pins σ H1 s1 e s' I h;obtain⟨a,C,T,dd,H2,rfl,ho,hb,un,hok,ha,hT,hn,hTn,x,hE⟩:=h;have J:j4 (a2w (CX1 P w) P w K mg base N qual scope f cd A outer s H E) pins σ H2 s':=I.call' (ch:=[]) ho un hok hb λb z=>nomatch z;show AG (model P w) _ (leaving (envOfC qual scope s.heap.objs.size f cd) (.ref a)) _ _ s';unfold leaving;have hfree:∀b∈(envOfC qual scope s.heap.objs.size f cd::outer).filterMap (·.frame),H2 b=ζ:=J.stkFree;refine AC (a92 J.ok.frames J.stack rfl x (by simp [rawInt]) λT' h1 hT' x1 c1=> ?_)
 refine b0J x1 ζ λh2 x2 c2 _=> ?_;have hTn':H2 T'=ζ:=J.hok.fresh hT';have c:Chg ((envOfC qual scope s.heap.objs.size f cd::outer).filterMap (·.frame)) ([T,a]++[T']) s'.heap h2:=c1.trans (c2.more (λb hb=>nomatch hb) λb hb=>hb);have hsz:s.heap.objs.size<=s'.heap.objs.size:=J.sz;have back:∀b,s1.heap.get? b=ζ->s.heap.get? b=ζ:=λb hb=>by
  cases h:s.heap.get? b with
  |none=>rfl
  |some o=>
   obtain⟨o',e⟩:=I.base.there b o h (λz=>nomatch z);rw [hb] at e;cases e
 have mem:∀b∈[T,a]++[T'],b=T\/b=a\/b=T':=λb hb=>by simpa using hb
 obtain⟨oT,hoT⟩:=x.thereT;refine⟨a,C,T',dd,H2,rfl,J.os,J.bare,b9p J.base c (λb hb=> ?_) (λb hb=> ?_),b0P J.hok c hfree λb hb=> ?_,back a ha,Heap.get?_none_of_le (Nat.le_trans hsz hT'),hn,hTn',x2,hE⟩
 ·rcases AX.mp (J.stkSub b hb) with h|h
  ·exact .inr (by rw [h];exact J.ok.above)
  ·exact .inl h
 ·rcases mem b hb with rfl|rfl|rfl
  ·exact back _ hT
  ·exact back _ ha
  ·exact Heap.get?_none_of_le (Nat.le_trans hsz hT')
 ·rcases mem b hb with rfl|rfl|rfl
  ·exact hTn
  ·exact hn
  ·exact hTn'
end
theorem a7f{o:HO}(q:z8 P w H h a o):∃ob,h.get? a=ξ ob:=by
 cases o with
 |lst _=>obtain⟨_,_,_,_,e⟩:=q;exact⟨_,e⟩
 |tup _=>obtain⟨_,_,_,o,e,_⟩:=q;exact⟨_,e⟩
 |dK _=>obtain⟨_,_,_,_,o,_,_,e,_⟩:=q;exact⟨_,e⟩
 |dT _=>obtain⟨_,_,_,_,o,_,_,e,_⟩:=q;exact⟨_,e⟩
 |set _ _=>obtain⟨o,_,_,_,e,_⟩:=q;exact⟨_,e⟩
 |ins _ _ _=>obtain⟨_,_,_,e,_⟩:=q;exact⟨_,e⟩
 |own _=>obtain⟨_,e⟩:=q;exact⟨_,e⟩
 |xd _=>obtain⟨_,⟨_,_,_,e,_⟩,_⟩:=q;exact⟨_,e⟩
 |rng _ _=>obtain⟨_,_,_,e⟩:=q;exact⟨_,e⟩
 |frz _ _=>obtain⟨e,_⟩:=q;exact⟨_,e⟩
 |tbl _=>exact⟨_,q⟩
 |met _ _=>exact⟨_,q⟩
 |ext _=>obtain⟨_,e,_⟩:=q;exact e
noncomputable def a4U:List AA:=[.type "ValueError",.type "Exception",.type "BaseException",.type "object"]
def b6K(C:AB)(h:Heap):Prop:=∃tl N nm q bs hdct sn sub ab col dd k0 k1 k2 k3 k5,
 h.get? C=ξ (excClassObj nm q C N bs tl hdct sn sub ab col dd k0 k1 k2 k3 k5 "ValueError.__new__")/\OwnTail h a4U tl
def c1I(C:AB)(h:Heap):Prop:=∃tl N nm q bs hdct sn sub ab col dd k0 k1 k2 k3 k5 mN,
 h.get? C=ξ (excClassObj nm q C N bs tl hdct sn sub ab col dd k0 k1 k2 k3 k5 "ValueError.__new__")/\h.Ns N mN/\mN "__init__"=ζ/\OwnTail h a4U tl
section
variable {X:Cx}{x:Str}{C:AB}{np cpos pos:Pos}{e₀:AO}{rest:List AO}{t:TA}{W:Hp->Prop}
theorem b8R(hc:X.calm=true)(hx0:X.ex=[])(hg:Gl X x)(hm:X.mg x=ξ (.ref C))(hX:c1I C X.base)(ha:PA X (e₀::rest) t)
 (hxe:∀(pins:List (AB×Obj)) (σ:L2.St) (H:Hp) (s:AE) (a:AB),j4 X pins σ H s->Ex0 s.heap a C ζ->X.s₀.heap.get? a=ζ->H a=ζ->W H->X.xe (.ref a) s)
 (he:Ψ e₀ rest X.env:=by rfl) (hplain:Φ₁ cpos rest X.env:=by rfl) (hdb:Δ x:=by decide):
 PS X (.Raise (ξ (.Call (.Name x np) (e₀::rest) [] cpos)) ζ pos) (λ_ σ H=>t σ H λvs H1=>vs.length<=AQ/\W H1):=by
 intro pins s σ H D I h
 obtain⟨tl,N,nm,q,bs,hdct,sn,sub,ab,col,dd,k0,k1,k2,k3,k5,mN,hC,hN,hni,T⟩:=hX
 have FB:=F.excBase_ValueError
 refine wpAny_Raise_call_subT (C:=C) (nm:=nm) (q:=q) (N:=N) (bs:=bs) (bm:=tl) (hdct:=hdct) (sn:=sn) (sub:=sub) (ab:=ab) (col:=col) (dd:=dd) (k0:=k0) (k1:=k1) (k2:=k2) (k3:=k3) (k5:=k5)
  FB (mN:=mN) (T.hasType FB.hasBase) (I.ok.hd hc) (by rw [he];show(false||(backTo cpos (AJ rest X.env)).any (·.1))=false;rw [hplain];rfl) hni (a0L I hg hm ⟨rfl, ?_⟩ hdb)
 have hA:=ha cpos pins s σ H _ I h
 rw [he] at hA ⊢
 refine Calls.evalArgs_plain (E2 hA λus s2 h0=>a3g h0 λvs H2 I2 r2 hl q2=>⟨rfl,by rw [<-r2.length];exact hl,I2.bk _ _ hC,hN.keeps I2.bk,T.keeps I2.bk,λh' a hmk=> ?_⟩)
 obtain⟨tt,h1,_,_⟩:=hmk.there
 have hn:H2 a=ζ:=by
  cases h:H2 a with
  |none=>rfl
  |some o=>
   obtain⟨ob,e⟩:=a7f (I2.hok a o h);rw [hmk.new] at e;cases e
 have h0:X.s₀.heap.get? a=ζ:=by
  cases h:X.s₀.heap.get? a with
  |none=>rfl
  |some o=>
   obtain⟨o',e⟩:=I2.base.there a o h (λz=>by rw [hx0] at z;cases z)
   rw [hmk.new] at e;cases e
 have I3:=I2.kept (t':=s2.toks) hmk.keeps
 exact hxe pins σ H2 {s2 with heap:=h'} a I3 ⟨_,_,h1,rfl,rfl,rfl,rfl⟩ h0 hn q2
end
section
variable {prog:AS}{w:AL}{A:AU}{E:AA->AE->Prop}{h:Heap}{g:Array GenState}{d:Drawn}{t:Nat}{os:OsState}
variable {nm q:Str}{C N:AB}{bs bm bmB:List AA}{hdct:Bool}{sn:List Str}{sub:List AA}{ab:Bool}{col:Υ Bool}{dd:Υ AB}{k0 k1 k2 k3 k5:Υ AA}{B newId initId:String}
theorem a6M(F:ExcBaseFacts B newId initId bmB)(T:OwnTail h bmB bm)
 (hC:h.get? C=ξ (excClassObj nm q C N bs bm hdct sn sub ab col dd k0 k1 k2 k3 k5 newId)) (hn:h.Ns N mN) (hi:mN "__init__"=ξ (.ref fI))
 (hfI:h.get? fI=ξ oI) (hfc:oI.cls= .type "function")
 (hq:∀h' e,Heap.MadeExcOf h h' e (.ref C) rest->
  AG (model prog w) A (call (.ref fI) (.ref e::rest)) (λr s'=>r= .none/\Q (.done (.ret (.ref e))) s') E ⟨h',g,d,t,os⟩) (hrest:rest.length<=AQ):
 AG (model prog w) A (Builtin.«type.__call__» ⟨.ref C::rest,[]⟩) Q E ⟨h,g,d,t,os⟩:=by
 repeat (first|with_reducible refine wpAny_loadPart_at hC ?_|with_reducible refine wpAny_madeBy_exc hC ?_|wp_step)
 refine codeAny_call_builtin_code (Code.quiet_builtin _ F.quiet) (wpAny_check_new_subT F T hC ?_)
 refine codeAny_exc_new_subT F T hC ?_ hrest
 show AG _ _ _ _ _ _
 have hC₁:=AY {cls:= .ref C,data:= .fields #[.ref h.objs.size,.none,.none,.none,.bool false,.none]}
  (AY {cls:= .type "tuple",data:= .seq rest.toArray} hC)
 have hfI₁:=AY {cls:= .ref C,data:= .fields #[.ref h.objs.size,.none,.none,.none,.bool false,.none]}
  (AY {cls:= .type "tuple",data:= .seq rest.toArray} hfI)
 have hn₁:((h.push {cls:= .type "tuple",data:= .seq rest.toArray}).push {cls:= .ref C,data:= .fields #[.ref h.objs.size,.none,.none,.none,.bool false,.none]}).Ns N mN:=
  let ⟨o,es,ep,e,r⟩:=hn;⟨o,es,ep,AY _ (AY _ e),r⟩
 have hget:((h.push {cls:= .type "tuple",data:= .seq rest.toArray}).push
  {cls:= .ref C,data:= .fields #[.ref h.objs.size,.none,.none,.none,.bool false,.none]}).get? (h.objs.size+1)=ξ
  {cls:= .ref C,data:= .fields #[.ref h.objs.size,.none,.none,.none,.bool false,.none]}:=by heap_get
 have hcC:(Value.ref C::bm).contains (.ref C)=true:=by simp
 have T₁:=T.keeps (h':=(h.push {cls:= .type "tuple",data:= .seq rest.toArray}).push {cls:= .ref C,data:= .fields #[.ref h.objs.size,.none,.none,.none,.bool false,.none]})
  λb o e=>AY _ (AY _ e)
 unfold isInstance
 repeat (first|with_reducible refine wpAny_loadPart_at hget ?_|(with_reducible refine wpAny_isSubtype_exc hC₁ ?_;rw [hcC])|wp_step)
 show AG _ _ (typeLookup (.ref C) _) _ _ _
 refine wpAny_typeLookup_tail hC₁ hn₁ T₁ F.mroIs F.init.lookup ?_
 rw [hi]
 refine wpAny_holding (AC ?_)
 unfold bindSpecial
 refine AC (wpAny_typeOf (T:="function") ⟨_,hfI₁,hfc⟩ ?_)
 rw [if_pos (by decide)]
 refine AH (AC (wpAny_mono (hq _ (h.objs.size+1) ⟨λb o hb=>AY _ (AY _ hb),Heap.get?_none_of_le (Nat.le_succ _),h.objs.size,hget,Heap.get?_none_of_le (AM _), ?_⟩) (λr s' hr=> ?_) λ_ _ x=>x))
 ·exact AY _ (Heap.get?_push_at rfl rfl)
 ·obtain⟨rfl,hQ⟩:=hr
  wp_walk
  exact hQ
theorem b21(F:ExcBaseFacts B newId initId bmB)(T:OwnTail h bmB bm)
 (hC:h.get? C=ξ (excClassObj nm q C N bs bm hdct sn sub ab col dd k0 k1 k2 k3 k5 newId)) (hn:h.Ns N mN) (hi:mN "__init__"=ξ (.ref fI))
 (hfI:h.get? fI=ξ oI) (hfc:oI.cls= .type "function")
 (hq:∀h' e,Heap.MadeExcOf h h' e (.ref C) rest->
  AG (model prog w) (A.under (.builtin "type.__call__" ⟨.ref C::rest,[]⟩)) (call (.ref fI) (.ref e::rest)) (λr s'=>r= .none/\Q (.ref e) s') E ⟨h',g,d,t,os⟩) (hrest:rest.length<=AQ):
 AG (model prog w) A (call (.ref C) rest) Q E ⟨h,g,d,t,os⟩:=by
 have f1:=tc_lookup
 have f2:=tc_bind (.ref C)
 have hT:(⟨h,g,d,t,os⟩:AE).TypeIs (.ref C) "type":=⟨_,hC,rfl⟩
 refine wpAny_call (codeAny_of_tree ?_)
 show AG _ _ (callAny (.ref C) _) _ _ _
 repeat (any_goals (first|assumption|with_reducible refine wpAny_loadPart_at hC ?_|wp_step))
 refine⟨rfl, ?_⟩
 refine codeAny_call_builtin_at (Code.quiet_builtin _ (by decide+kernel)) entry_typeCall (wpAny_check_type_call_sub hC (a6M (hrest:=hrest) F T hC hn hi hfI hfc λh' e hm=> ?_))
 exact hq h' e hm
theorem a4f{M:Model}{env:Env}{s:AE}{x:Sem AA}{Q:Flow->AE->Prop}(hbase:bm.contains (.type "BaseException")=true)(hh:A.handled=ζ)
 (h:AG M A x (λv s₁=>∃e oe vs,v= .ref e/\s₁.heap.get? C=ξ (excClassObj nm q C N bs bm hdct sn sub ab col dd k0 k1 k2 k3 k5 newId)/\
  s₁.heap.get? e=ξ oe/\oe.cls= .ref C/\oe.data= .fields vs/\vs[1]?=ξ .none/\E (.ref e) s₁) E s):
 AG M A (raiseStmt env (ξ x) ζ) Q E s:=by
 have hcB:(Value.ref C::bm).contains (.type "BaseException")=true:=by rw [List.contains_cons,hbase,Bool.or_true]
 unfold raiseStmt
 refine AC (wpAny_mono h (λv s₁ h₁=> ?_) λ_ _ x=>x)
 obtain⟨e,oe,vs,rfl,hC,he,hc,hd,h1,hE⟩:=h₁
 obtain⟨oc,od,ods,osl⟩:=oe
 cases hc
 cases hd
 obtain⟨hp,g,d,tk,os⟩:=s₁
 repeat (first|with_reducible refine wpAny_loadPart_at he ?_|with_reducible refine wpAny_loadPart_at hC ?_|(with_reducible refine wpAny_isSubtype_exc hC ?_;rw [hcB])|wp_step)
 rw [h1]
 refine AH ?_
 rw [if_neg (by decide)]
 exact AH (wpAny_raiseNew_none hh hE)
end
section
variable {prog:AS}{w:AL}{A:AU}{E:AA->AE->Prop}{s:AE}{env:Env}
variable {nm q:Str}{C N:AB}{bs bm bmB:List AA}{hdct:Bool}{sn:List Str}{sub:List AA}{ab:Bool}{col:Υ Bool}{dd:Υ AB}{k0 k1 k2 k3 k5:Υ AA}{B newId initId:String}
theorem b2s(F:ExcBaseFacts B newId initId bmB){mN:Str->Υ AA}{x:Str}{np cpos pos:Pos}{args:List AO}{fI:AB}{oI:Obj}{Q:Flow->AE->Prop}
 (hbase:bm.contains (.type "BaseException")=true) (hh:A.handled=ζ) (hplain:(backTo cpos (AJ args env)).any (·.1)=false) (hi:mN "__init__"=ξ (.ref fI)) (hfc:oI.cls= .type "function")
 (h:AG (model prog w) A (eval (.Name x np) env) (λf s₁=>f= .ref C/\AG (model prog w) A (evalArgs (.ref C) true (backTo cpos (AJ args env)) [])
  (λa s₂=>a.kw=[]/\a.pos.length<=AQ/\s₂.heap.get? C=ξ (excClassObj nm q C N bs bm hdct sn sub ab col dd k0 k1 k2 k3 k5 newId)/\s₂.heap.Ns N mN/\OwnTail s₂.heap bmB bm/\s₂.heap.get? fI=ξ oI/\
   ∀h' e,Heap.MadeExcOf s₂.heap h' e (.ref C) a.pos->AG (model prog w) (A.under (.builtin "type.__call__" ⟨.ref C::a.pos,[]⟩)) (call (.ref fI) (.ref e::a.pos))
    (λr s₃=>r= .none/\s₃.heap.get? C=ξ (excClassObj nm q C N bs bm hdct sn sub ab col dd k0 k1 k2 k3 k5 newId)/\(∃oe vs,s₃.heap.get? e=ξ oe/\oe.cls= .ref C/\oe.data= .fields vs/\vs[1]?=ξ .none)/\E (.ref e) s₃) E {s₂ with heap:=h'}) E s₁) E s):
 AG (model prog w) A (exec (.Raise (ξ (.Call (.Name x np) args [] cpos)) ζ pos) env) Q E s:=by
 rw [arm_exec_Raise]
 first
  |refine AC (wpAny_standAt (a4f (C:=C) (nm:=nm) (q:=q) (N:=N) (bs:=bs) (bm:=bm) (hdct:=hdct) (sn:=sn) (sub:=sub) (ab:=ab) (col:=col) (dd:=dd) (k0:=k0) (k1:=k1) (k2:=k2) (k3:=k3) (k5:=k5) (newId:=newId) hbase hh (AC (wpAny_mono (wpAny_Call_ofName (wpAny_mono h (λf s₁ h₁=> ?_) λ_ _ x=>x)) (λv s₃ h₃=>AC (wpAny_standAt (AH h₃))) λ_ _ x=>x))))
  |(simp only [evalOpt,Option.map];refine AC (wpAny_standAt (a4f (C:=C) (nm:=nm) (q:=q) (N:=N) (bs:=bs) (bm:=bm) (hdct:=hdct) (sn:=sn) (sub:=sub) (ab:=ab) (col:=col) (dd:=dd) (k0:=k0) (k1:=k1) (k2:=k2) (k3:=k3) (k5:=k5) (newId:=newId) hbase hh (AC (wpAny_mono (wpAny_Call_ofName (wpAny_mono h (λf s₁ h₁=> ?_) λ_ _ x=>x)) (λv s₃ h₃=>AC (wpAny_standAt (AH h₃))) λ_ _ x=>x)))))
  |(refine AC (wpAny_standAt (a4f (C:=C) (nm:=nm) (q:=q) (N:=N) (bs:=bs) (bm:=bm) (hdct:=hdct) (sn:=sn) (sub:=sub) (ab:=ab) (col:=col) (dd:=dd) (k0:=k0) (k1:=k1) (k2:=k2) (k3:=k3) (k5:=k5) (newId:=newId) hbase hh ?_));refine AC (wpAny_mono (wpAny_Call_ofName (wpAny_mono h (λf s₁ h₁=> ?_) λ_ _ x=>x)) (λv s₃ h₃=>AC (wpAny_standAt (AH h₃))) λ_ _ x=>x))
 obtain⟨rfl,h₁⟩:=h₁
 unfold callWith
 refine AC (wpAny_holding (wpAny_mono h₁ (λa s₂ h₂=>AC (wpAny_standAt ?_)) λ_ _ x=>x))
 obtain⟨apos,akw⟩:=a
 obtain⟨hkw,hlen,hC,hn,T,hfI,h₂⟩:=h₂
 obtain rfl:akw=[]:=hkw
 obtain⟨hp,g,d,tk,os⟩:=s₂
 simp only [hplain]
 refine AC (wpAny_keeperOf_exc hC ?_)
 refine AC (b21 (hrest:=hlen) F T hC hn hi hfI hfc λh' e hm=> ?_)
 refine wpAny_mono (h₂ h' e hm) (λr s₃ h₃=> ?_) λ_ _ x=>x
 obtain⟨r0,hC3,⟨oe,vs,he,hc,hd,h1⟩,hE⟩:=h₃
 exact⟨r0,AC (wpAny_holding (wpAny_point (AH ⟨e,oe,vs,rfl,hC3,he,hc,hd,h1,hE⟩)))⟩
end
open L2 PySem.W Builtin Builtin.ObjectAttr
def b1c:List AA->Bool
 | .ref _::r=>b1c r
 |l=>l==a4U
theorem a96(self:AA):∀{l:List AA},b1c l=true->refuseLoop self "__setattr__" l=pure ()
 |[],e=>by cases e
 |v::r,e=>by
  cases v with
  |ref c=>rw [refuseLoop_ref];exact a96 self e
  |_=>rw [show(_::r)=a4U from beq_iff_eq.mp e];exact PySem.F.store_ValueError.passes self
theorem b3i(x:String)(hx:a4U.contains (.type x)=true):∀{l:List AA},b1c l=true->l.contains (.type x)=true
 |[],e=>by cases e
 |v::r,e=>by
  cases v with
  |ref c=>rw [List.contains_cons,b3i x hx (l:=r) e,Bool.or_true]
  |_=>rw [show(_::r)=a4U from beq_iff_eq.mp e];exact hx
def a7E(K:Frag)(C:AB):Bool:=(clsIn K C).any λcd=>b1c cd.mro && cd.hasDict
section
variable {prog:AS}{w:AL}{A:AU}{E:AA->AE->Prop}{s:AE}{K:Frag}{x C:AB}
theorem c39(X:K.In s.heap)(I:InstAt s.heap x ox C od)(hp:a7E K C=true)(ht:findIn K (.ref C) name=ξ ζ)
 (h:AG (model prog w) A.in1 (storeInOwnDict (.ref x) (.ref C) (.str name tk) name v false)
  (λfin s'=>match fin with| .done f=>R (.ok f) s'| .again c'=>c'.quiet=true/\codeAny (model prog w) A c' R s') (λe s'=>R (.error e) s') s):
 codeAny (model prog w) A (.call (.builtin "object.__setattr__") ⟨[.ref x,.str name tk,v],[]⟩) R s:=by
 have SF:=PySem.F.store_object
 obtain⟨cd,hc,ho⟩:=any_some hp
 rw [χ] at ho
 have ne:cd.mro.isEmpty=false:=by cases q:cd.mro with|nil=>rw [q] at ho;cases ho.1|cons _ _=>rfl
 have sub:Looks (model prog w) s.heap (isInstance (.ref x) (.type "object")) true:=I.type.andThen (looks_mroIn X (by unfold mroIn;rw [hc,AF,if_neg (by rw [ne];decide),b3i "object" (by decide) ho.1]))
 refine codeAny_call_builtin SF.slot.plain SF.entry (@check_slot (model prog w) _ _ s "object.__setattr__" "object" "__setattr__" (.ref x) [.str name tk,v] [] _ SF.kind SF.split sub (SF.args (.ref x) (.str name tk) v) ?_)
 have hm:Looks (model prog w) s.heap (mroOf (.ref C)) cd.mro:=(looks_clsIn X hc).andThen .now
 rw [osa_eq,refuse_eq]
 refine AC (AC (I.type.here (AC (hm.here ?_))))
 rw [a96 _ ho.1]
 refine AH (AC (I.type.here (AC ((looks_findIn X ht).here (AC ((Looks.now (M:=model prog w) (a:=(ζ:Υ AA))).here ?_))))))
 exact h
theorem b3P(X:K.In s.heap)(hx:s.heap.get? x=ξ ⟨.ref C,ζ,.fields vs,sl⟩)(hp:a7E K C=true)(ht:findIn K (.ref C) name=ξ ζ)
 (hs:findIn K (.ref C) "__setattr__"=ξ (ξ (.builtin "object.__setattr__")))
 (h:∀h' d tk,s.heap.get? d=ζ->s.heap.objs.size<=d->h'.get? x=ξ ⟨.ref C,ξ d,.fields vs,sl⟩->h'.Ns1 d (λy=>if y=name then ξ v else ζ)->(∀b o,b≠x->s.heap.get? b=ξ o->h'.get? b=ξ o)->Q () {s with heap:=h',toks:=tk}):
 AG (model prog w) A (setAttr (.ref x) name v) Q E s:=by
 have J:InstAt s.heap x ⟨.ref C,ζ,.fields vs,sl⟩ C ζ:=⟨hx,rfl,rfl,trivial⟩
 refine set_plain X J hs (c39 (s:={s with toks:=s.toks+1}) X J hp ht ?_)
 obtain⟨cd,hc,ho⟩:=any_some hp
 rw [χ] at ho
 refine AC (AH (AC (AC (wpAny_loadPart hx (AC (Looks.here (s:={s with toks:=s.toks+1}) (looks_clsIn X hc) ?_))))))
 rw [ho.2]
 rw [if_neg (by decide)]
 have hx1:(s.heap.push {cls:= .type "dict",data:= .dict #[]}).get? x=ξ ⟨.ref C,ζ,.fields vs,sl⟩:=AY _ hx
 have hxs:=Aj (Ac hx)
 rw [if_neg (by simp [typeHasDict])]
 refine AC (wpAny_alloc' (AC (wpAny_update' hx1 (AH ?_))))
 have hgd:((s.heap.push {cls:= .type "dict",data:= .dict #[]}).update x λo=>{cls:=o.cls,dict:=ξ s.heap.objs.size,data:=o.data,slots:=o.slots}).get? s.heap.objs.size
  =ξ {cls:= .type "dict",data:= .dict #[]}:=(Heap.get?_update_ne _ _ _ _ hxs.symm).trans (Heap.get?_push_at rfl rfl)
 have hnd:((s.heap.push {cls:= .type "dict",data:= .dict #[]}).update x λo=>{cls:=o.cls,dict:=ξ s.heap.objs.size,data:=o.data,slots:=o.slots}).Ns s.heap.objs.size (λ_=>ζ):=
  ⟨_, #[],_,hgd,rfl,λe he=>absurd he (by simp),λ_=>rfl⟩
 refine AC (AH (AC (wpAny_nsSet1 (Heap.Ns1.of_empty hnd) λh' hn' hs=> ?_)))
 obtain⟨oD,esD,epD,hoD,hdD,hcD⟩:=hn'.count (Within.cons name v Within.nil)
 refine AC (wpAny_lookBehind hoD (by rw [hdD];exact pastItsLine_dict (Nat.le_trans hcD (by rw [AT,Ai,sizeLine_eq];lia))) ?_)
 refine AH (h h' s.heap.objs.size _ (Heap.get?_none_of_le (AM _)) (AM _) ?_ hn' λb ob hbx hb=> ?_)
 ·exact(hs.2 x hxs).trans (Heap.get?_update_self _ hx1 rfl)
 ·exact(hs.2 b (Aj (Ac hb))).trans ((Heap.get?_update_ne _ _ _ _ hbx).trans (AY _ hb))
theorem c4I(X:K.In s.heap)(hx:s.heap.get? x=ξ ox)(hxc:ox.cls= .ref C)(hxd:ox.dict=ξ d)(hxf:∃vs,ox.data= .fields vs)(hd:s.heap.Ns1 d mA)(hp:a7E K C=true)(ht:findIn K (.ref C) name=ξ ζ)
 (hga:findIn K (.ref C) "__getattribute__"=ξ (ξ (.builtin "BaseException.__getattribute__"))) (hgg:findIn K (.ref C) "__getattr__"=ξ ζ)
 (hv:mA name=ξ v) (hv':handedIn v=true) (h:Q v {s with toks:=s.toks+1}):
 AG (model prog w) A (getAttr (.ref x) name expr) Q E s:=by
 obtain⟨od,hod,hl⟩:=b50 hd
 obtain⟨vs,hxf⟩:=hxf
 have J:InstAt s.heap x ox C (ξ od):=⟨hx,hxc,by unfold notCls;rw [hxf],by rw [hxd];exact hod⟩
 obtain⟨cd,hc,ho⟩:=any_some hp
 rw [χ] at ho
 have ne:cd.mro.isEmpty=false:=by cases q:cd.mro with|nil=>rw [q] at ho;cases ho.1|cons _ _=>rfl
 have hh:hasDictIn K C=true:=by unfold hasDictIn;rw [hc];exact ho.2
 have L0:=J.type (M:=model prog w)
 have L1:=looks_find (M:=model prog w) X J (findObj_own hh ht rfl (by rw [hl,hv]))
 have sub:Looks (model prog w) s.heap (isInstance (.ref x) (.type "BaseException")) true:=J.type.andThen (looks_mroIn X (by unfold mroIn;rw [hc,AF,if_neg (by rw [ne];decide),b3i "BaseException" (by decide) ho.1]))
 have G:=F.attrBase_ValueError.ga
 refine AC (wpAny_mkText (wpAny_holding (AC (L0 _ _ _ _ (λ_ _ e=>e) (AC (looks_findIn X hga _ _ _ _ (λ_ _ e=>e) ?_))))))
 dsimp only
 rw [show(onTheHeap (.ref C)&& Value.builtin "BaseException.__getattribute__"==Value.builtin "object.__getattribute__")=false from by rw [show(Value.builtin "BaseException.__getattribute__"==Value.builtin "object.__getattribute__")=false from by decide+kernel,Bool.and_false],if_neg (by decide)]
 refine AC (looks_hook X (by rw [if_pos (show onTheHeap (.ref C)=true from rfl)];exact hgg) _ _ _ _ (λ_ _ e=>e) (AC (wpAny_attempt (wpAny_holding ?_))))
 unfold callGetattribute
 rw [show(expr && onTheHeap (Value.builtin "BaseException.__getattribute__"))=false from Bool.and_false _,if_neg (by decide)]
 unfold boundAndCalled
 rw [G.bind]
 refine AC (AH ?_)
 show AG _ _ (call (.builtin "BaseException.__getattribute__") [.ref x,.str name s.toks]) _ _ _
 refine wpAny_call ?_
 refine codeAny_call_builtin G.plain F.entry_bexc_ga ?_
 refine @check_slot (model prog w) _ _ {s with toks:=s.toks+1} "BaseException.__getattribute__" "BaseException" "__getattribute__" (.ref x) [.str name s.toks] [] _ (by decide+kernel) (by decide+kernel) sub (F.args_bexc_ga (.ref x) (.str name s.toks)) ?_
 obtain⟨hh',g,dr,t,os⟩:=s
 refine AC (AH (AC (AH (AC (L0.at<|AC (L1.at ?_))))))
 refine AH ?_
 show AG _ _ (handedOut v) _ _ _
 rw [handedOut_of hv'];exact AH h
end
theorem c09(u:Un fs ex0 H H1 h h1)(c:Chg fs' ex h1 h2)(hfs:∀b∈fs',b∈fs\/h.objs.size<=b)(hex:∀b∈ex,h.get? b=ζ):Un fs ex0 H H1 h h2 where
 keep:=λb o e hn hf hx=>by
  have hlt:=Ac e;refine c.keep b o (u.keep b o e hn hf hx) (λm=> ?_) λm=>by rw [hex b m] at e;cases e
  rcases hfs b m with h|h
  ·exact hf h
  ·exact Nat.lt_irrefl _ (BA hlt h)
 slot:=λb o e hn hf hx=>by
  obtain⟨sl,e1⟩:=u.slot b o e hn hf hx
  by_cases hb:b∈fs'
  ·obtain⟨sl2,e2⟩:=c.slot b {o with slots:=sl} e1 hb λm=>by rw [hex b m] at e;cases e
   exact⟨sl2,e2⟩
  ·exact⟨sl,c.keep b _ e1 hb λm=>by rw [hex b m] at e;cases e⟩
 free:=u.free
 there:=λb o e hx=>by
  obtain⟨o1,e1⟩:=u.there b o e hx
  by_cases hb:b∈ex
  ·rw [hex b hb] at e;cases e
  ·by_cases hb2:b∈fs'
   ·obtain⟨sl,e2⟩:=c.slot b o1 e1 hb2 hb;exact⟨_,e2⟩
   ·exact⟨_,c.keep b o1 e1 hb2 hb⟩
 tups:=u.tups
 frzs:=u.frzs
 tbls:=u.tbls
theorem Chg.any(c:Chg fs ex h h')(e:h.get? b=ξ o)(hb:b∉ex):∃sl,h'.get? b=ξ {o with slots:=sl}:=by
 by_cases hf:b∈fs
 ·exact c.slot b o e hf hb
 ·exact⟨o.slots,c.keep b o e hf hb⟩
section
theorem j4.chg(I:j4 X pins σ H s)(c:Chg (frs X.stack) ex s.heap h')(h0:∀b∈ex,X.s₀.heap.get? b=ζ)(hn:∀b∈ex,H b=ζ)
 (hL:∀b∈ex,b≠X.env.locals) (hc:∀b∈ex,∀x z,X.env.cells.lookup x=ξ z->z≠b) (hp:∀b∈ex,∀p∈X.pn++pins,p.1≠b):j4 X pins σ H {s with heap:=h'} where
 ok:=I.ok
 os:=I.os
 bare:=I.bare
 base:=c09 I.base c (λb hb=>by
  rcases AX.mp (I.stkSub b hb) with h|h
  ·exact .inr (by rw [h];exact I.ok.above)
  ·exact .inl h) h0
 loc:=by
  obtain⟨m,⟨o,es,ep,ho,hd,r⟩,hm⟩:=I.loc;obtain⟨sl,e⟩:=c.any ho λz=>hL _ z rfl;refine⟨m,⟨_,es,ep,e,hd,r⟩,λi x v h1 h2 h3=> ?_⟩;obtain⟨u,ru,hk⟩:=hm i x v h1 h2 h3;refine⟨u,ru, ?_⟩;rcases hk with hk|⟨hk,z,hz,oz,hoz,hdz⟩
  ·exact .inl hk
  ·obtain⟨sl2,e2⟩:=c.any hoz λm=>hc _ m x z hz rfl;exact .inr ⟨hk,z,hz,_,e2,hdz⟩
 cell:=λx z hz=>by
  obtain⟨v,oz,hoz,hdz⟩:=I.cell x z hz;obtain⟨sl2,e2⟩:=c.any hoz λm=>hc _ m x z hz rfl;exact⟨v,_,e2,hdz⟩
 free:=I.free
 freeC:=I.freeC
 pin:=λp hpm=>by
  obtain⟨h1,h2,h3,h4,h5⟩:=I.pin p hpm;refine⟨c.keep _ _ h1 (λm=> ?_) λm=>hp _ m p hpm rfl,h2,h3,h4,h5⟩;rcases AX.mp (I.stkSub _ m) with h|h
  ·exact h3 h
  ·exact h4 h
 hok:=b0P I.hok c (λb hb=>I.stkFree b hb) hn
 len:=I.len
end
structure XT where
 cls:Str
 fs:List (PV×PV)
def XF(K:AD)(F:Hp)(fs:List (PV×PV))(dd:Υ AB):Prop:=(fs=[]/\dd=ζ)\/∃d vs,dd=ξ d/\F d=ξ (.xd vs)/\fs≠[]/\a3T K F fs vs
inductive FX where
 |fl (f:Fl)|rz (c:XT) (ρ:d5)
abbrev MX:=d5->Υ FX
def a5k(K:AD)(mg:Str->Υ AA)(E:L2.St->XK)(F0 H0 F:Hp)(σ0:L2.St)(D:R8):FX->Prop
 | .fl f=>Fin K F0 H0 F D f
 | .rz c ρ=>∃C,mg c.cls=ξ (.ref C)/\∀σ dd F' H',m3 F F'->SOk K F0 H0 F' H' σ ρ->XF K F' c.fs dd->E σ (.ref C) dd H'
theorem a5k.later{K:AD}{mg:Str->Υ AA}{E:L2.St->XK}{F0 H0 F F1:Hp}{σ0 σ1:L2.St}{D:R8}(s:m3 F F1):∀{fx:FX},a5k K mg E F0 H0 F σ0 D fx->a5k K mg E F0 H0 F1 σ1 D fx
 | .fl _,h=>Fin.later s h
 | .rz _ _,⟨C,h1,h2⟩=>⟨C,h1,λσ a F' H' s' so hn=>h2 σ a F' H' (s.trans s') so hn⟩
def tMX(K:AD)(mg:Str->Υ AA)(E:L2.St->XK)(m:MX):TS:=λD σ H=>∃F0 H0 F ρ fx,SOk K F0 H0 F H σ ρ/\m ρ=ξ fx/\a5k K mg E F0 H0 F σ D fx
theorem a54{K:AD}{mg:Str->Υ AA}{E:L2.St->XK}{m:MX}{D:R8}{σ:L2.St}{H:Hp}{C:Prop}(h:tMX K mg E m D σ H)(k:∀F0 H0 F ρ fx,SOk K F0 H0 F H σ ρ->m ρ=ξ fx->a5k K mg E F0 H0 F σ D fx->C):C:=
 h.elim λa h=>h.elim λb h=>u0 h (k a b)
abbrev EX(X:Cx)(E:L2.St->XK)(st:Stmt)(m:MX):Prop:=PS X st (tMX X.K X.mg E m)
abbrev EXs(X:Cx)(E:L2.St->XK)(st:List Stmt)(m:MX):Prop:=PSs X st (tMX X.K X.mg E m)
def b04(m:MS):MX:=λρ=>(m ρ).map .fl
def b4H(m n:MX):MX:=λρ=>(m ρ).bind λfx=>match fx with
 | .fl (.nx ρ')=>n ρ'
 |f=>ξ f
def b8p(c:MT)(m n:MX):MX:=λρ=>(c ρ).bind λb=>if b=true then m ρ else n ρ
def c0v(c:Str)(ma:MA):MX:=λρ=>(ma ρ).bind λps=>if ps.length<=AQ then ξ (.rz ⟨c,[]⟩ ρ) else ζ
section
variable {X:Cx}{E:L2.St->XK}
theorem c4y(h:tMX X.K X.mg E (b04 m) D σ H):tMS X.K m D σ H:=by
 obtain⟨F0,H0,F,ρ,fx,so,e,fin⟩:=h;unfold b04 at e;cases hm:m ρ with
 |none=>rw [hm] at e;cases e
 |some f=>rw [hm] at e;cases e;exact⟨F0,H0,F,ρ,f,so,hm,fin⟩
theorem c17{st:List Stmt}{m:MS}(h:ESs X st m):EXs X E st (b04 m):=a66 h λ_ _ _ q=>c4y q
theorem a4G{st:Stmt}{m:MX}(h:EX X E st m):EXs X E [st] m:=b4P h
theorem b11{st:Stmt}{rest:List Stmt}{m n:MX}(h1:EX X E st m)(h2:EXs X E rest n):EXs X E (st::rest) (b4H m n):=
 a66 (a45 h1 h2) λD σ H h0=>a54 h0 λF0 H0 F ρ fx so e fin=>by
  obtain⟨f1,e1,e⟩:=bind_some e;cases f1 with
  |rz c ρ1=>cases e;exact⟨F0,H0,F,ρ,.rz c ρ1,so,e1,fin⟩
  |fl f=>
   cases f with
   |nx ρ'=>exact⟨F0,H0,F,ρ,.fl (.nx ρ'),so,e1,λσ' F' H' s so'=>⟨F0,H0,F',ρ',fx,so',e,fin.later s⟩⟩
   |rt r=>cases e;exact⟨F0,H0,F,ρ,_,so,e1,fin⟩
   |bk r=>cases e;exact⟨F0,H0,F,ρ,_,so,e1,fin⟩
   |ct r=>cases e;exact⟨F0,H0,F,ρ,_,so,e1,fin⟩
theorem c1o(hc:ET X c mc)(ha:EXs X E a m)(hb:EXs X E b n):EX X E (.If c a b pos) (b8p mc m n):=
 B0 (c1v hc ha hb) λD σ H h0=>a54 h0 λF0 H0 F ρ fx so e fin=>by
  obtain⟨b,e1,e⟩:=bind_some e;refine⟨F,ρ,b,so.e,e1,λF1 H1 x=> ?_⟩;cases b with
  |true=>exact b5M ⟨F0,H0,F1,ρ,fx,so.ext x,e,fin.later x.f⟩
  |false=>exact b5L ⟨F0,H0,F1,ρ,fx,so.ext x,e,fin.later x.f⟩
end
def spX(K:AD)(mg:Str->Υ AA)(n:Nat)(g:List PV->Υ (g5 ⊕ XT)):Sp:=λvs H Q E=>∃F ps r,m3 F H/\m7 K F ps vs/\ps.length=n/\g ps=ξ r/\(match r with
 | .inl r=>∀v F' H',w8 K F H F' H' v r->Q v H'
 | .inr c=>∃C,mg c.cls=ξ (.ref C)/\∀dd F' H',R5 F H F' H'->XF K F' c.fs dd->E (.ref C) dd H')
def a1s(CX:CXT)(X:Cx)(E:L2.St->XK):Prop:=∀(pins:List (AB×Obj)) (σ:L2.St) (H:Hp) (s:AE) (e:AA) (s':AE),j4 X pins σ H s->CX X.stack H s (E σ) e s'->X.xe e s'
section
variable {X:Cx}{E:L2.St->XK}{CX:CXT}
theorem b8G(F:R3 X.prog X.w X.K X.mg X.base CX k f fd ps sp)(hr:G8 k X.A)(hg:Gl X x)(hm:X.mg x=ξ (.ref f))(hk:PySem.W.keepIn X.K (.ref f)=true)(hb:a07 X.K fd ps [])(hx:a1s CX X E)
 (ha:PA X (e::es) t) (hdb:Δ x:=by decide) (he:Ψ e es X.env:=by rfl) (hpl:Φ₁ pos es X.env:=by rfl):
 PE X (.Call (.Name x p) (e::es) [] pos) (λσ H Q=>t σ H λvs H1=>sp vs H1 Q (E σ)):=by
 intro pins s σ H Q I h
 refine wpAny_Call_Name_kw (a0L I hg hm ?_ hdb)
 refine PySem.W.callWith_K I.ok.mod.kin hk (E2 (ha pos pins s σ H _ I h) λus s1 h0=>o0 h0 λvs H1 I1 r q=>⟨I1.kIn, ?_⟩) he hpl
 have hl:(us++[]).length=ps.length:=by rw [An,<-r.length];exact F.len _ _ _ _ q
 have hb':=hb s1 us I1.kIn hl
 rw [An] at hb'
 refine wpAny_call (codeAny_mono (F.run X.A X.stack s1 H1 ⟨us,[]⟩ us vs Q (E σ) hr I1.env0 hb' r q) λr s' hq=> ?_)
 cases r with
 |error e=>exact hx pins σ H1 s1 e s' I1 hq
 |ok fl=>
  cases fl with
  |ret u=>exact I1.after hq
  |next=>exact False.elim hq
  |brk=>exact False.elim hq
  |cont=>exact False.elim hq
def b38(g:List PV->Υ (g5 ⊕ XT))(m:MA):d5->Υ (g5 ⊕ XT):=λρ=>(m ρ).bind g
def a3L(g:List PV->Υ (g5 ⊕ XT))(m:MA):MX:=λρ=>(b38 g m ρ).bind λr=>match r with
 | .inl _=>ξ (.fl (.nx ρ))
 | .inr c=>ξ (.rz c ρ)
theorem b9N(so:SOk X.K F0 H0 F H σ ρ)(hn:∀ρ ps,m ρ=ξ ps->ps.length=n)(e:b38 g m ρ=ξ r)
 (k:match r with
  | .inl r=>∀v F' H',w8 X.K F H F' H' v r->Q v H'
  | .inr c=>∃C,X.mg c.cls=ξ (.ref C)/\∀dd F' H',R5 F H F' H'->XF X.K F' c.fs dd->E σ (.ref C) dd H'):
 tMA X.K m σ H λvs H1=>spX X.K X.mg n g vs H1 Q (E σ):=by
 obtain⟨qs,e1,e2⟩:=bind_some e
 refine⟨F,ρ,qs,so.e,e1,λvs F1 H1 x rl=>⟨F1,qs,r,x.fh,rl,hn _ _ e1,e2, ?_⟩⟩
 cases r with
 |inl r=>exact λv F2 H2 o=>k v F2 H2 (w8.trans x o)
 |inr c=>
  obtain⟨C,h1,h2⟩:=k
  exact⟨C,h1,λa F2 H2 y hn=>h2 a F2 H2 (x.trans y) hn⟩
theorem c16
 (G:R3 X.prog X.w X.K X.mg X.base CX k f fd ps (spX X.K X.mg n g)) (hr:G8 k X.A) (hg:Gl X x) (hm:X.mg x=ξ (.ref f)) (hk:PySem.W.keepIn X.K (.ref f)=true) (hb:a07 X.K fd ps []) (hx:a1s CX X E) (hn:∀ρ ps,m ρ=ξ ps->ps.length=n) (ha:EA X (e::es) m)
 (hs:swapsWith (.Call (.Name x p) (e::es) [] pos) ζ pos2.line X.env=pure false:=by rfl)
 (hdb:Δ x:=by decide) (he:Ψ e es X.env:=by rfl) (hpl:Φ₁ pos es X.env:=by rfl):
 EX X E (.Expr (.Call (.Name x p) (e::es) [] pos) pos2) (a3L g m):=
 B0 (b1g (b8G G hr hg hm hk hb hx ha hdb he hpl) hs) λD σ H h0=>a54 h0 λF0 H0 F ρ fx so e fin=>by
  obtain⟨r,e1,e⟩:=bind_some e;refine b9N so hn e1 ?_;cases r with
  |inl r=>cases e;exact λv F' H' o=>fin σ F' H' o.x.f (so.ext o.x)
  |inr c=>
   cases e;obtain⟨C,h1,h2⟩:=fin;exact⟨C,h1,λa F' H' y hn=>h2 σ a F' H' y.f (so.ext y) hn⟩
theorem b7r(hc:X.calm=true)(hx0:X.ex=[])(hg:Gl X x)(hm:X.mg x=ξ (.ref C))(hX:c1I C X.base)(ha:EA X (e₀::rest) m)
 (hxe:∀(pins:List (AB×Obj)) (σ:L2.St) (H:Hp) (s:AE) (a:AB),j4 X pins σ H s->Ex0 s.heap a C ζ->X.s₀.heap.get? a=ζ->H a=ζ->E1 (.ref C) ζ H->X.xe (.ref a) s)
 (he:Ψ e₀ rest X.env:=by rfl) (hplain:Φ₁ cpos rest X.env:=by rfl) (hdb:Δ x:=by decide):
 EX X (λ_=>E1) (.Raise (ξ (.Call (.Name x np) (e₀::rest) [] cpos)) ζ pos) (c0v x m):=
 B0 (b8R hc hx0 hg hm hX ha hxe he hplain hdb) λD σ H h0=>a54 h0 λF0 H0 F ρ fx so e fin=>by
  obtain⟨qs,e1,e⟩:=bind_some e;split at e
  ·rename_i c;cases e;obtain⟨C',h1,h2⟩:=fin;rw [hm] at h1;cases h1;refine⟨F,ρ,qs,so.e,e1,λvs F1 H1 y rl=>⟨by rw [rl.length];exact c,h2 σ ζ F1 H1 y.f (so.ext y) (.inl ⟨rfl,rfl⟩)⟩⟩
  ·cases e
end
def b84(n:Nat)(body:MX)(ps:List PV):Υ (g5 ⊕ XT):=(body (ps.map (λp=>ξ (g5.v p))++Aq n ζ)).bind λfx=>match fx with
 | .fl (.rt r)=>ξ (.inl r)
 | .fl (.nx _)=>ξ (.inl (.v .none))
 | .rz c _=>ξ (.inr c)
 |_=>ζ
theorem c18{P:AS}{w:AL}{K:AD}{mg:Str->Υ AA}{base:Heap}{x qual:Str}{st:Stmt}{f:AB}{fd:FuncData}{N ps:List Str}{k:Nat}{m:MX}(F:Fun K x qual st f fd)(S:j6 N ps (f6 st))
 (hb:∀(cdv:AA) (A:AU) (outer:List Env) (s:AE) (H:Hp) (E:XK),G8 k (A.deeper (envOfC qual (f6 st) s.heap.objs.size f cdv))->EXs (a2w (CX1 P w) P w K mg base N qual (f6 st) f cdv A outer s H E) (λ_=>E) (B2 st) m):
 R3 P w K mg base (CX1 P w) (k+1) f fd ps (spX K mg ps.length (b84 (N.length - ps.length) m)):=by
 obtain⟨oc,od,kV,doc,pm,an,cdv,ct,osl,rfl,lk,hcd⟩:=F.ex
 refine c1p lk hcd S (λvs H Q E h=> ?_) λA outer s H vs Q E hr h=> ?_
 ·obtain⟨_,qs,_,_,r,h2,_⟩:=h
  rw [r.length,h2]
 ·obtain⟨F1,qs,r,s1,rl,hl,e,k⟩:=h
  refine⟨_,hb cdv A outer s H E hr, ?_⟩
  obtain⟨fx,e1,e2⟩:=bind_some e
  have hv:vs.length=ps.length:=by rw [rl.length,hl]
  refine⟨F1,H,F1,_,fx, ?_,e1, ?_⟩
  ·have:=b2F (N.length - ps.length) s1 rl
   unfold L2.a2a
   rw [hv]
   exact this
  ·cases fx with
   |rz c ρ1=>
    cases e2
    obtain⟨C,h1,h2⟩:=k
    exact⟨C,h1,λ_ a F' H' _ so' hn=>h2 a F' H' so'.x hn⟩
   |fl f=>
    cases f with
    |rt q=>cases e2;exact λv F' H' o=>k v F' H' o
    |nx ρ=>cases e2;exact λσ' F' H' _ so=>k .non F' H' (w8.val so.x rfl)
    |bk ρ=>cases e2
    |ct ρ=>cases e2
def a7e(P:AS)(w:AL)(K:AD)(mg:Str->Υ AA)(base:Heap)(x:Str)(ps:List Str)(k:Nat)(g:List PV->Υ (g5 ⊕ XT)):Prop:=
 ∃f fd,R3 P w K mg base (CX1 P w) k f fd ps (spX K mg ps.length g)/\mg x=ξ (.ref f)/\PySem.W.keepIn K (.ref f)=true/\a07 K fd ps []
def left(g:List PV->Υ (g5 ⊕ XT))(ps:List PV):Υ g5:=(g ps).bind λr=>match r with
 | .inl r=>ξ r
 | .inr _=>ζ
section
theorem c2P:a7g (CX1 X.prog X.w) X E0:=λ_ _ _ _ _ _ _ h=>by
 obtain⟨_,_,_,_,_,_,_,_,_,_,_,_,_,_,_,h⟩:=h;exact False.elim h
theorem b90
 (d:a7e X.prog X.w X.K X.mg X.base x ps k g) (hr:G8 k' X.A) (hk:k<=k') (hg:Gl X x) (hn:∀ρ qs,m ρ=ξ qs->qs.length=ps.length) (ha:EA X (e::es) m)
 (hdb:Δ x:=by decide) (he:Ψ e es X.env:=by rfl) (hpl:Φ₁ pos es X.env:=by rfl):
 EE X (.Call (.Name x p) (e::es) [] pos) (m9 (left g) m):=by
 obtain⟨f,fd,G,h1,h2,h3⟩:=d
 refine u5 (a64 G (hr.mono hk) hg h1 h2 h3 .nil c2P ha hdb he hpl) λσ H Q h0=>u0 h0 λF ρ r he hm k=> ?_
 obtain⟨qs,e1,hm⟩:=bind_some hm
 obtain⟨r',e2,hm⟩:=bind_some hm
 cases r' with
 |inr c=>cases hm
 |inl r'=>
  cases hm
  refine⟨F,ρ,qs,he,e1,λvs F1 H1 x rl=> ?_⟩
  show spX X.K X.mg ps.length g (vs++[]) H1 Q E0
  rw [An]
  exact⟨F1,qs,.inl r,x.fh,rl,hn _ _ e1,e2,λv F2 H2 o=>k v F2 H2 (w8.trans x o)⟩
abbrev _root_.L2.Cx.aim(X:Cx)(Y:AA->AE->Prop)(pn:List (AB×Obj)):Cx:={X with xe:=Y,pn:=pn}
theorem c1K(I:j4 X pins σ H s):j4 (X.aim Y (X.pn++pins)) [] σ H s:=⟨⟨I.ok.mod,I.ok.kind,I.ok.glob,I.ok.blt,I.ok.above,I.ok.inj,I.ok.has,I.ok.cab,I.ok.hd,I.ok.frames,I.ok.stk,I.ok.exf,I.ok.bs,I.ok.bsz,I.ok.noex,I.ok.exfs,I.ok.funs,I.ok.frf⟩,I.os,I.bare,I.base,I.loc,I.cell,I.free,I.freeC,λp hp=>I.pin p (by simpa using hp),I.hok,I.len⟩
theorem a3b(I:j4 (X.aim Y (X.pn++pins)) pins1 σ H s):j4 X pins σ H s:=⟨⟨I.ok.mod,I.ok.kind,I.ok.glob,I.ok.blt,I.ok.above,I.ok.inj,I.ok.has,I.ok.cab,I.ok.hd,I.ok.frames,I.ok.stk,I.ok.exf,I.ok.bs,I.ok.bsz,I.ok.noex,I.ok.exfs,I.ok.funs,I.ok.frf⟩,I.os,I.bare,I.base,I.loc,I.cell,I.free,I.freeC,λp hp=>I.pin p (Ay _ hp),I.hok,I.len⟩
def Ap(X:Cx)(pins:List (AB×Obj))(b:AB):Prop:=X.s₀.heap.get? b=ζ/\b≠X.env.locals/\(∀x z,X.env.cells.lookup x=ξ z->z≠b)/\∀p∈X.pn++pins,p.1≠b
def Hnd(X:Cx)(hs:List ExceptHandler)(th:AB->AB->Υ AB->TS):Prop:=
 ∀(pins:List (AB×Obj)) (s:AE) (σ:L2.St) (H:Hp) (D:R8) (a C T:AB) (dd:Υ AB),j4 X pins σ H s->ExT s.heap a C T .none dd->H a=ζ->H T=ζ->Ap X pins a->Ap X pins T->th a C dd D σ H->
  AG (model X.prog X.w) X.A (handleBy (.ref a) X.env hs) (SP X pins D) X.xe s
theorem apart(I:j4 X pins σ H s)(hx0:X.ex=[])(h:s.heap.get? b=ζ):X.s₀.heap.get? b=ζ/\b≠X.env.locals/\(∀x z,X.env.cells.lookup x=ξ z->z≠b)/\∀p∈X.pn++pins,p.1≠b:=by
 refine⟨?_,λe=> ?_,λx z hz e=> ?_,λp hp e=> ?_⟩
 ·cases h0:X.s₀.heap.get? b with
  |none=>rfl
  |some o=>
   obtain⟨o',e⟩:=I.base.there b o h0 (λz=>by rw [hx0] at z;cases z)
   rw [h] at e;cases e
 ·obtain⟨m,⟨o,_,_,ho,_⟩,_⟩:=I.loc;rw [<-e,h] at ho;cases ho
 ·obtain⟨v,o,ho,_⟩:=I.cell x z hz;rw [e,h] at ho;cases ho
 ·have:=(I.pin p hp).1;rw [e,h] at this;cases this
theorem c24{body:List Stmt}{h₀:ExceptHandler}{hs:List ExceptHandler}{pos:Pos}{tb:(L2.St->XK)->TS}{th:AB->AB->Υ AB->TS}(hx0:X.ex=[])(hst:X.stack=X.env::X.outer)(hfr:X.env.frame=ξ X.env.locals)
 (hb:∀(Y:AA->AE->Prop) (pn:List (AB×Obj)) (E:L2.St->XK),a1s (CX1 X.prog X.w) (X.aim Y pn) E->PSs (X.aim Y pn) body (tb E)) (hh:Hnd X (h₀::hs) th):
 PS X (.Try body (h₀::hs) [] [] pos) (λD σ H=>tb (λσ1 v dd H1=>∃C,v= .ref C/\∀a,H1 a=ζ->th a C dd D σ1 H1) D σ H):=by
 intro pins s σ H D I h
 refine wpAny_Try_except ?_
 have key:=hb (λe s₁=>AG (model X.prog X.w) X.A (noteFrame e X.env) (λ_ s₂=>AG (model X.prog X.w) X.A (setFlight e ζ) (λ_ s₃=>AG (model X.prog X.w) X.A (handleBy e X.env (h₀::hs)) (SP X pins D) X.xe s₃) X.xe s₂) X.xe s₁) (X.pn++pins) _ ?_ [] s σ H D (c1K I) h
 ·refine E2 key λfl s1 hq=> ?_
  cases fl with
  |next=>
   obtain⟨σ',H',J,q⟩:=hq
   exact wpAny_execs_nil ⟨σ',H',a3b J,q⟩
  |brk=>obtain⟨σ',H',J,q⟩:=hq;exact⟨σ',H',a3b J,q⟩
  |cont=>obtain⟨σ',H',J,q⟩:=hq;exact⟨σ',H',a3b J,q⟩
  |ret u=>obtain⟨v,σ',H',J,r,q⟩:=hq;exact⟨v,σ',H',a3b J,r,q⟩
 ·intro pins1 σ1 H1 s1 e s' I1 hx
  obtain⟨a,C,T,dd,H2,rfl,ho,hbare,un,hok,ha,hT,hn,hTn,x,C',e1,ht⟩:=hx
  cases e1
  have J1:=I1.call' (ch:=[]) ho un hok hbare λb z=>nomatch z
  have J:j4 X pins σ1 H2 s':=a3b J1
  have J0:j4 X pins σ1 H1 s1:=a3b I1
  show AG (model X.prog X.w) X.A (noteFrame (.ref a) X.env) _ X.xe s'
  have fr:X.A.frames=ξ (X.env::X.outer):=by rw [<-hst];exact J.ok.frames
  have fn:s'.heap.FunFrames X.base (X.env::X.outer):=by rw [<-hst];exact J.stack
  refine a92 fr fn hfr x (by simp [rawInt]) λT' h1 hT' x1 c1=> ?_
  refine b0J x1 ζ λh2 x2 c2 _=> ?_
  have hTn':H2 T'=ζ:=J.hok.fresh hT'
  have c:Chg (frs X.stack) ([T,a]++[T']) s'.heap h2:=by
   rw [hst];exact c1.trans (c2.more (λb hb=>nomatch hb) λb hb=>hb)
  have mem:∀b∈[T,a]++[T'],b=T\/b=a\/b=T':=λb hb=>by simpa using hb
  have q1:=apart J0 hx0 hT
  have q2:=apart J0 hx0 ha
  have q3:=apart J hx0 (Heap.get?_none_of_le hT')
  have K:j4 X pins σ1 H2 {s' with heap:=h2}:=j4.chg J c (λb hb=> ?_) (λb hb=> ?_) (λb hb=> ?_) (λb hb=> ?_) (λb hb=> ?_)
  ·exact hh pins _ σ1 H2 D a C T' dd K x2 hn hTn' q2 q3 (ht a hn)
  all_goals rcases mem b hb with rfl|rfl|rfl
  ·exact q1.1
  ·exact q2.1
  ·exact q3.1
  ·exact hTn
  ·exact hn
  ·exact hTn'
  ·exact q1.2.1
  ·exact q2.2.1
  ·exact q3.2.1
  ·exact q1.2.2.1
  ·exact q2.2.2.1
  ·exact q3.2.2.1
  ·exact q1.2.2.2
  ·exact q2.2.2.2
  ·exact q3.2.2.2
end
theorem b5x{M:Model}{A:AU}{E:AA->AE->Prop}{h:Heap}{g:Array GenState}{d:Drawn}{t:Nat}{os:OsState}{e C B:AB}{oe:Obj}{Q:Bool->AE->Prop}(hC:b6K C h)(hB:b6K B h)
 (he:h.get? e=ξ oe) (hcls:oe.cls= .ref C) (hq:∀tl:List AA,OwnTail h a4U tl->(∃N nm q bs hdct sn sub ab col dd k0 k1 k2 k3 k5,h.get? C=ξ (excClassObj nm q C N bs tl hdct sn sub ab col dd k0 k1 k2 k3 k5 "ValueError.__new__"))->Q ((Value.ref C::tl).contains (.ref B)) ⟨h,g,d,t,os⟩):AG M A (excMatches (.ref e) (.ref B)) Q E ⟨h,g,d,t,os⟩:=by
 obtain⟨tl,N,nm,q,bs,hdct,sn,sub,ab,col,dd,k0,k1,k2,k3,k5,hC,T⟩:=hC
 obtain⟨tl',N',nm',q',bs',hdct',sn',sub',ab',col',dd',k0',k1',k2',k3',k5',hB,T'⟩:=hB
 have hq':=hq tl T ⟨_,_,_,_,_,_,_,_,_,_,_,_,_,_,_,hC⟩
 have hcB:(Value.ref B::tl').contains (.type "BaseException")=true:=by rw [List.contains_cons,T'.hasType (show a4U.contains (.type "BaseException")=true by decide),Bool.or_true]
 have f:=tc_notTuple
 repeat (first|(with_reducible refine wpAny_loadPart_at he ?_;rw [hcls])|with_reducible refine wpAny_loadPart_at hB ?_|(with_reducible refine wpAny_isSubtype_exc hB ?_;rw [hcB])|with_reducible refine wpAny_isSubtype_exc hC ?_|wp_step)
 cases hb:(Value.ref C::tl).contains (.ref B)<;>(rw [hb] at hq';wp_walk;exact hq')
def b0k(X:Cx)(C B:AB)(b:Bool):Prop:=∀h:Heap,X.K.In h->b6K C h/\b6K B h/\∀(tl:List AA) N nm q bs hdct sn sub ab col dd k0 k1 k2 k3 k5,h.get? C=ξ (excClassObj nm q C N bs tl hdct sn sub ab col dd k0 k1 k2 k3 k5 "ValueError.__new__")->(Value.ref C::tl).contains (.ref B)=b
section
abbrev _root_.L2.Cx.caught(X:Cx)(a:AB)(Y:AA->AE->Prop):Cx:={X with A:=X.A.mark (ξ (.ref a)),calm:=false,xe:=Y}
theorem a9x(I:j4 X pins σ H s):j4 (X.caught a Y) pins σ H s:=⟨⟨I.ok.mod,I.ok.kind,I.ok.glob,I.ok.blt,I.ok.above,I.ok.inj,I.ok.has,I.ok.cab,(λz=>nomatch z),I.ok.frames,I.ok.stk,I.ok.exf,I.ok.bs,I.ok.bsz,I.ok.noex,I.ok.exfs,I.ok.funs,I.ok.frf⟩,I.os,I.bare,I.base,I.loc,I.cell,I.free,I.freeC,I.pin,I.hok,I.len⟩
theorem a1v(hd:X.calm=true->X.A.handled=ζ)(I:j4 (X.caught a Y) pins σ H s):j4 X pins σ H s:=⟨⟨I.ok.mod,I.ok.kind,I.ok.glob,I.ok.blt,I.ok.above,I.ok.inj,I.ok.has,I.ok.cab,hd,I.ok.frames,I.ok.stk,I.ok.exf,I.ok.bs,I.ok.bsz,I.ok.noex,I.ok.exfs,I.ok.funs,I.ok.frf⟩,I.os,I.bare,I.base,I.loc,I.cell,I.free,I.freeC,I.pin,I.hok,I.len⟩
end
theorem c1g{K:AD}{h:Heap}{C:AB}(X:K.In h)(q:PySem.W.excIn K C a4U "ValueError.__new__"=true):c1I C h:=by
 unfold PySem.W.excIn at q;cases hk:K.lookup C with
 |none=>rw [hk] at q;cases q
 |some o=>
  rw [hk] at q;split at q
  ·rename_i dd cd sl e;cases e;obtain⟨nm,bs,mro,ns,qn,hd,sn,sub,ab,col,del⟩:=cd;obtain⟨l⟩:=sl;split at q
   ·rename_i C' bm k0 k1 k2 k3 n k5 hm hs;subst hm hs;rw [χ,χ,χ,χ,χ] at q;obtain⟨⟨⟨⟨⟨c1,c2⟩,c3⟩,c4⟩,c5⟩,c6⟩:=q;have c3':del=false:=by simpa using c3
    cases(beq_iff_eq.mp c1);cases(beq_iff_eq.mp c2);clear c3;subst c3';exact⟨bm,ns,nm,qn,bs,hd,sn,sub,ab,col,dd,k0,k1,k2,k3,k5,_,X _ _ hk,.of_isNs (PySem.W.isNs_of_in X c5),PySem.W.nsMap_none_of_in X c5 (beq_iff_eq.mp c6),PySem.W.tail_of_in X c4⟩
   ·cases q
  ·cases q
def a7O(K:AD)(C B:AB):Bool:=match K.lookup C with
 |some ⟨_,_,.cls cd,_⟩=>cd.mro.contains (.ref B)
 |_=>false
def b7s(K:AD)(C:AB)(g:AB->Bool):Bool:=match K.lookup C with
 |some ⟨.type "type",_,.cls cd,sl⟩=>(match cd.mro,sl.toList with
  | .ref C'::bm,[_,_,_,_,ξ (.builtin n),_]=>C'==C && n=="ValueError.__new__" && !cd.hasDel && PySem.W.tailIn K a4U bm && g cd.ns
  |_,_=>false)
 |_=>false
def a7F(K:AD)(C:AB):Bool:=b7s K C λ_=>true
theorem b4j{K:AD}{h:Heap}{C:AB}{g:AB->Bool}(X:K.In h)(q:b7s K C g=true):∃tl N nm q bs hdct sn sub ab col dd k0 k1 k2 k3 k5,
 h.get? C=ξ (excClassObj nm q C N bs tl hdct sn sub ab col dd k0 k1 k2 k3 k5 "ValueError.__new__")/\OwnTail h a4U tl/\g N=true:=by
 unfold b7s at q
 cases hk:K.lookup C with
 |none=>rw [hk] at q;cases q
 |some o=>
  rw [hk] at q
  split at q
  ·rename_i dd cd sl e
   cases e
   obtain⟨nm,bs,mro,ns,qn,hd,sn,sub,ab,col,del⟩:=cd
   obtain⟨l⟩:=sl
   split at q
   ·rename_i C' bm k0 k1 k2 k3 n k5 hm hs
    subst hm hs
    rw [χ,χ,χ,χ] at q
    obtain⟨⟨⟨⟨c1,c2⟩,c3⟩,c4⟩,c5⟩:=q
    have c3':del=false:=by simpa using c3
    cases(beq_iff_eq.mp c1)
    cases(beq_iff_eq.mp c2)
    clear c3
    subst c3'
    exact⟨bm,ns,nm,qn,bs,hd,sn,sub,ab,col,dd,k0,k1,k2,k3,k5,X _ _ hk,PySem.W.tail_of_in X c4,c5⟩
   ·cases q
  ·cases q
theorem b1s{K:AD}{h:Heap}{C:AB}(X:K.In h)(q:a7F K C=true):b6K C h:=by
 obtain⟨tl,N,nm,q,bs,hdct,sn,sub,ab,col,dd,k0,k1,k2,k3,k5,h1,h2,_⟩:=b4j X q;exact⟨tl,N,nm,q,bs,hdct,sn,sub,ab,col,dd,k0,k1,k2,k3,k5,h1,h2⟩
theorem b6T(q1:a7F X.K C=true)(q2:a7F X.K B=true):b0k X C B (a7O X.K C B):=λh I=>⟨b1s I q1,b1s I q2,λtl N nm q bs hdct sn sub ab col dd k0 k1 k2 k3 k5 hc=>by
 cases hk:X.K.lookup C with
 |none=>unfold a7F b7s at q1;rw [hk] at q1;cases q1
 |some o=>
  have:=I _ _ hk;rw [hc] at this;cases this;unfold a7O;rw [hk]⟩
section
theorem _root_.L2.j4.track(I:j4 X pins σ H s)(hn:H a=ζ)(ap:Ap X pins a)(new:z8 X.prog X.w (n5 H a o) s.heap a o):j4 X pins σ (n5 H a o) s where
 ok:=I.ok
 os:=I.os
 bare:=I.bare
 base:=⟨I.base.keep,I.base.slot,λb ob e n hx=>by
  rw [f9 (λz=>by rw [z,ap.1] at e;cases e)];exact I.base.free b ob e n hx,I.base.there,
  λb xs e=>by rw [f9 (j8 (I.base.tups b xs e) hn)];exact I.base.tups b xs e,
  λb ob u e=>by rw [f9 (j8 (I.base.frzs b ob u e) hn)];exact I.base.frzs b ob u e,
  λb ps e=>by obtain⟨more,q⟩:=I.base.tbls b ps e;exact⟨more,by rw [f9 (j8 q hn)];exact q⟩⟩
 loc:=I.loc
 cell:=I.cell
 free:=by rw [f9 (Ne.symm ap.2.1)];exact I.free
 freeC:=λx c e=>by rw [f9 (ap.2.2.1 x c e)];exact I.freeC x c e
 pin:=λp hp=>by
  obtain⟨h1,h2,h3⟩:=I.pin p hp;exact⟨h1,by rw [f9 (ap.2.2.2 p hp)];exact h2,h3⟩
 hok:=λb u e=>by
  by_cases hb:b=a
  ·subst hb;rw [g8] at e;cases e;exact new
  ·rw [f9 hb] at e;exact(I.hok b u e).stay (λc v _ q=>q) (λc q=>by rw [f9 (j8 q hn)];exact q) λc xs q=>by rw [f9 (j8 q hn)];exact q
 len:=I.len
theorem a6W{M:Model}{A:AU}{E:AA->AE->Prop}{i:Nat}{x:Str}{pos:Pos}{Q:Unit->AE->Prop}(I:j4 X pins σ H s)(hN:X.N.Nodup)(hi:X.N[i]?=ξ x)(hk:X.env.scope.names.lookup x=ξ .local)
 (h:∀s',j4 X pins (σ.set i ζ) H s'->Q () s'):AG M A (do bindName X.env x .none;unbindBehindTheSuite X.env x pos) Q E s:=by
 obtain⟨m,hn,hl⟩:=id I.loc
 have hcls:(X.env.scope.kind== .class||(X.env.scope.kind== .module && X.env.locals !=X.env.globals))=false:=by rw [I.ok.kind];rfl
 have hiσ:i<σ.length:=by rw [I.len];exact(Al.mp hi).1
 have cne:=I.cne
 refine wpAny_nameGoes_keeps hk hn hcls λh' v hn' hs=> ?_
 refine h _ ⟨I.ok,I.os,I.bare,⟨λb o e n hb hx=> ?_,λb o e n hb hx=> ?_,I.base.free,λb o e hx=> ?_,I.base.tups,I.base.frzs,I.base.tbls⟩,⟨_,hn',λj y v' e1 e2 e3=> ?_⟩,λy c e=> ?_,I.free,I.freeC,λp hp=> ?_,λb ob e=> ?_,by simpa using I.len⟩
 ·exact(hs.2 b (Aj (BA (Ac e) I.ok.above))).trans (I.base.keep b o e n hb hx)
 ·obtain⟨sl,e1⟩:=I.base.slot b o e n hb hx
  exact⟨sl,(hs.2 b (Aj (BA (Ac e) I.ok.above))).trans e1⟩
 ·obtain⟨o',e1⟩:=I.base.there b o e hx
  exact⟨o',(hs.2 b (Aj (BA (Ac e) I.ok.above))).trans e1⟩
 ·by_cases hj:j=i
  ·subst hj
   rw [BI hiσ] at e2
   cases e2
  ·rw [List.getElem?_set_ne (Ne.symm hj)] at e2
   obtain⟨u',r',q⟩:=hl j y v' e1 e2 e3
   refine⟨u',r', ?_⟩
   rcases q with⟨k,e⟩|⟨k,c,e,z⟩
   ·refine .inl ⟨k, ?_⟩
    have:y≠x:=λe=>hj (a8a hN e1 (e▸hi))
    simp [this,e]
   ·exact .inr ⟨k,c,e,z.sameBut hs (cne y c e)⟩
 ·obtain⟨w',z⟩:=I.cell y c e
  exact⟨w',z.sameBut hs (cne y c e)⟩
 ·obtain⟨e,n,ne,nf,d⟩:=I.pin p hp
  exact⟨(hs.2 p.1 ne).trans e,n,ne,nf,d⟩
 ·refine(I.hok b ob e).stay (λc w' hc q=>(hs.2 c ?_).trans q) (λ_ q=>q) λ_ _ q=>q
  rintro rfl
  have hfree:=I.free
  rcases hc with rfl|hc
  ·rw [hfree] at e;cases e
  ·rw [hfree] at hc;cases hc
end
def XO(a C:AB)(dd:Υ AB)(h:Heap):Prop:=∃oe vs,h.get? a=ξ oe/\oe.cls= .ref C/\oe.data= .fields vs/\oe.dict=dd
def R8.drop(D:R8)(i:Nat):R8:=⟨λσ H=>D.nx (σ.set i ζ) H,D.rt,λσ H=>D.bk (σ.set i ζ) H,λσ H=>D.ct (σ.set i ζ) H⟩
section
theorem c2g{i:Nat}{x y:Str}{B:AB}{np pos:Pos}{b₀:Stmt}{suite:List Stmt}{rest:List ExceptHandler}{ts:TS}(hN:X.N.Nodup)(hi:X.N[i]?=ξ y)(hy:X.env.scope.names.lookup y=ξ .local)
 (hg:Gl X x) (hm:X.mg x=ξ (.ref B)) (hdb:Δ x) (hs:∀a Y,PSs (X.caught a Y) (b₀::suite) ts):
 Hnd X (.ExceptHandler (ξ (.Name x np)) (ξ y) (b₀::suite) pos::rest) (λa C dd D σ H=>b0k X C B true/\ts (R8.drop D i) (σ.set i (ξ (.ref a))) (n5 H a (.ext (XO a C dd)))):=by
 intro pins s σ H D a C T dd0 I ex hn hTn apA apT ⟨hbl,q⟩
 have J:j4 (X.caught a (notedBy (model X.prog X.w) (X.A.mark (ξ (.ref a))) X.env (cameBackBy (model X.prog X.w) X.A X.env X.xe))) pins σ H s:=a9x I
 refine wpAny_handleBy_cons (codeAny_handlers_test (a0L (X:=X.caught a _) J hg hm ?_ hdb)) (by intro q;cases q)
 obtain⟨hC,hB,hin⟩:=hbl s.heap I.kIn
 obtain⟨oe,vs,he,hcls,_⟩:=ex.obj
 obtain⟨hh,g,d,tk,os⟩:=s
 refine b5x hC hB he hcls λtl T0 ⟨N,nm,q0,bs,hdct,sn,sub,ab,col,dd,k0,k1,k2,k3,k5,hc⟩=> ?_
 rw [hin tl N nm q0 bs hdct sn sub ab col dd k0 k1 k2 k3 k5 hc]
 refine codeAny_handlers_suite_as ?_
 refine b0J (s:=⟨hh,g,d,tk,os⟩) ex ζ λh2 x2 c2 hsz=> ?_
 have one:∀b∈[T],b=T:=λb hb=>List.mem_singleton.mp hb
 have K:j4 X pins σ H ⟨h2,g,d,tk,os⟩:=j4.chg I (c2.more (λb hb=>nomatch hb) λb hb=>hb) (λb hb=>by rw [one b hb];exact apT.1) (λb hb=>by rw [one b hb];exact hTn) (λb hb=>by rw [one b hb];exact apT.2.1) (λb hb=>by rw [one b hb];exact apT.2.2.1) (λb hb=>by rw [one b hb];exact apT.2.2.2)
 obtain⟨oe',vs',he',hcls',hd',_,hdn⟩:=x2.obj
 have K1:j4 X pins σ (n5 H a (.ext (XO a C dd0))) ⟨h2,g,d,tk,os⟩:=K.track hn apA ⟨⟨oe',vs',he',hcls',hd',hdn⟩,⟨oe',he'⟩,λh1 h2 ⟨o1,v1,e1,e2,e3⟩ st=>⟨o1,v1,st _ e1,e2,e3⟩⟩
 refine a1o (v:= .ref a) K1 hN hi (.inl hy) rfl (λs' I'=> ?_) (.inr hy)
 refine E2 (hs a _ pins _ _ _ (R8.drop D i) (a9x I') q) λfl s1 hq=> ?_
 cases fl with
 |next=>obtain⟨σ',H',J,q⟩:=hq;exact a6W (a1v I.ok.hd J) hN hi hy λs2 J2=>⟨_,H',J2,q⟩
 |brk=>obtain⟨σ',H',J,q⟩:=hq;exact a6W (a1v I.ok.hd J) hN hi hy λs2 J2=>⟨_,H',J2,q⟩
 |cont=>obtain⟨σ',H',J,q⟩:=hq;exact a6W (a1v I.ok.hd J) hN hi hy λs2 J2=>⟨_,H',J2,q⟩
 |ret u=>obtain⟨v,σ',H',J,r,q⟩:=hq;exact a6W (a1v I.ok.hd J) hN hi hy λs2 J2=>⟨v,_,H',J2,r,q⟩
end
noncomputable def xcV(c:XT):PV:=match c.fs with
 |[]=> .dict [(.str c.cls,.bool true)]
 |f::r=> .dict ((.str c.cls,.int 0)::f::r)
theorem c1d{K:AD}{F:Hp}{c:XT}{dd:Υ AB}{a C:AB}(ha:F a=ζ)(xf:XF K F c.fs dd)(h3:Y4 K c.cls C):A3 K (n5 F a (.ext (XO a C dd))) (xcV c) (.ref a):=by
 obtain⟨cl,fs⟩:=c;rcases xf with⟨e1,e2⟩|⟨d,vs,e1,q,n,r⟩
 ·have e1:=e1;subst e1;subst e2;exact Or.inr (Or.inr (Or.inl ⟨cl,_,rfl,.inr ⟨rfl,a,C,XO a C ζ,rfl,g8,λh q=>q,h3⟩⟩))
 ·cases fs with
  |nil=>exact absurd rfl n
  |cons f r0=>
   subst e1;have s:m3 F (n5 F a (.ext (XO a C (ξ d)))):=B1 ha;refine Or.inr (Or.inr (Or.inr ⟨cl,.int 0,vs,.inr ⟨rfl,a,C,d,XO a C (ξ d),rfl,g8,λh q=>q,s _ _ q,h3⟩,cl,.int 0,vs,rfl,rfl,rfl, ?_⟩));exact a3T.mono s _ r
def b0I(i:Nat):Fl->Fl
 | .nx ρ=> .nx (ρ.set i ζ)
 | .rt r=> .rt r
 | .bk ρ=> .bk (ρ.set i ζ)
 | .ct ρ=> .ct (ρ.set i ζ)
def a36(b:MX)(i:Nat)(inm:Str->Bool)(hd:MS):MS:=λρ=>(b ρ).bind λfx=>match fx with
 | .fl f=>ξ f
 | .rz c ρ'=>if inm c.cls=true then(hd (ρ'.set i (ξ (.v (xcV c))))).map (b0I i) else ζ
theorem C1{α:Type}{l:List (Υ α)}{i j:Nat}{r:α}(h:(l.set i ζ)[j]?=ξ (ξ r)):i≠j/\l[j]?=ξ (ξ r):=by
 rw [List.getElem?_set] at h
 by_cases hij:i=j
 ·rw [if_pos hij] at h;split at h
  ·cases h
  ·cases h
 ·rw [if_neg hij] at h;exact⟨hij,h⟩
theorem SOk.drop{K:AD}{F0 H0 F H:Hp}{σ:L2.St}{ρ:d5}(s:SOk K F0 H0 F H σ ρ)(i:Nat):SOk K F0 H0 F H (σ.set i ζ) (ρ.set i ζ):=by
 refine⟨s.x,⟨s.e.fh,by simp [s.e.len],λj q e=> ?_,λj ps e=> ?_,λj k ps qs a hjk e1 e2 e3 e4=> ?_⟩,λj ps a e1 e2=> ?_⟩
 ·obtain⟨n,e⟩:=C1 e;rw [List.getElem?_set_ne n];exact s.e.at_ j q e
 ·exact s.e.nb j ps (C1 e).2
 ·exact s.e.ap j k ps qs a hjk (C1 e1).2 (C1 e2).2 (C1 e3).2 (C1 e4).2
 ·exact s.nw j ps a (C1 e1).2 (C1 e2).2
theorem Fin.drop{K:AD}{F0 H0 F:Hp}{D:R8}{i:Nat}:∀{fl:Fl},Fin K F0 H0 F D (b0I i fl)->Fin K F0 H0 F (R8.drop D i) fl
 | .nx _,h=>λσ' F' H' s' so=>h _ F' H' s' (so.drop i)
 | .rt _,h=>h
 | .bk _,h=>λσ' F' H' s' so=>h _ F' H' s' (so.drop i)
 | .ct _,h=>λσ' F' H' s' so=>h _ F' H' s' (so.drop i)
section
theorem b7p(hN:X.N.Nodup)(hi:X.N[i]?=ξ y)(hy:X.env.scope.names.lookup y=ξ .local)(hx0:X.ex=[])(hst:X.stack=X.env::X.outer)(hfr:X.env.frame=ξ X.env.locals)
 (hg:Gl X x) (hm:X.mg x=ξ (.ref B)) (hdb:Δ x) (hin:∀c,inm c=true->∃C,X.mg c=ξ (.ref C)/\b0k X C B true/\Y4 X.K c C)
 (hb:∀(Y:AA->AE->Prop) (pn:List (AB×Obj)) (E:L2.St->XK),a1s (CX1 X.prog X.w) (X.aim Y pn) E->EXs (X.aim Y pn) E body b) (hs:∀a Y,ESs (X.caught a Y) (b₀::suite) hd):
 ES X (.Try body [.ExceptHandler (ξ (.Name x np)) (ξ y) (b₀::suite) hpos] [] [] pos) (a36 b i inm hd):=
 B0 (c24 hx0 hst hfr (tb:=λE=>tMX X.K X.mg E b) hb (c2g (ts:=tMS X.K hd) hN hi hy hg hm hdb λa Y=>hs a Y)) λD σ H h0=>D9 h0 λF0 H0 F ρ fl so e fin=>by
  obtain⟨fx,e1,e⟩:=bind_some e;cases fx with
  |fl f=>cases e;exact⟨F0,H0,F,ρ,.fl _,so,e1,fin⟩
  |rz c ρ1=>
   have e:(if inm c.cls=true then(hd (ρ1.set i (ξ (.v (xcV c))))).map (b0I i) else ζ)=ξ fl:=e
   split at e
   ·rename_i hc;obtain⟨C,h1,h2,h3⟩:=hin c.cls hc;cases hh:hd (ρ1.set i (ξ (.v (xcV c)))) with
    |none=>rw [hh] at e;cases e
    |some f=>
     rw [hh] at e;cases e;refine⟨F0,H0,F,ρ,.rz c ρ1,so,e1,C,h1,λσ1 dd F' H' s' so' xf=>⟨C,rfl,λa hn=>⟨h2,F0,H0,n5 F' a (.ext (XO a C dd)),_,f, ?_,hh, ?_⟩⟩⟩
     ·exact so'.set (w8.val (R5.lay so'.e.fh hn) (c1d (so'.e.fh.free hn) xf h3)) rfl i
     ·exact Fin.drop ((fin.later s').later (B1 (so'.e.fh.free hn)))
   ·cases e
theorem b4i
 (d:a7e X.prog X.w X.K X.mg X.base x ps k g) (hr:G8 k' X.A) (hk:k<=k') (hg:Gl X x) (hx:a1s (CX1 X.prog X.w) X E) (hn:∀ρ qs,m ρ=ξ qs->qs.length=ps.length) (ha:EA X (e::es) m)
 (hs:swapsWith (.Call (.Name x p) (e::es) [] pos) ζ pos2.line X.env=pure false:=by rfl)
 (hdb:Δ x:=by decide) (he:Ψ e es X.env:=by rfl) (hpl:Φ₁ pos es X.env:=by rfl):
 EX X E (.Expr (.Call (.Name x p) (e::es) [] pos) pos2) (a3L g m):=by
 obtain⟨f,fd,G,h1,h2,h3⟩:=d
 exact c16 G (hr.mono hk) hg h1 h2 h3 hx hn ha hs hdb he hpl
end
def a2U(K:AD)(C:AB)(x:Str):Bool:=match K.lookup C with
 |some ⟨_,_,.cls cd,_⟩=>cd.name==x
 |_=>false
structure XC(K:AD)(mg:Str->Υ AA)(c:Str)(C:AB):Prop where
 mg:mg c=ξ (.ref C)
 named:Y4 K c C
 exc:a7F K C=true
theorem b9w{K:AD}{mg:Str->Υ AA}{h:Heap}{c:Str}{C:AB}(X:K.In h)(G:h.Ns mainGlobals mg)(e:PySem.W.nsIn K mainGlobals c=ξ (ξ (.ref C)))(q:(a2U K C c && a7F K C)=true):XC K mg c C:=by
 rw [χ] at q;obtain⟨q1,q3⟩:=q;refine⟨PySem.W.mg_of X G e,⟨e, ?_⟩,q3⟩;unfold a2U at q1;split at q1
 ·rename_i oc od cd sl hk;exact⟨oc,od,cd,sl,hk,beq_iff_eq.mp q1⟩
 ·cases q1
theorem b6P{K:AD}{x D:AB}{c:AA}(e:PySem.W.kitOne K (.ref D) c=ξ true):Answers (λs=>K.In s.heap/\∃o,s.heap.get? x=ξ o/\o.cls= .ref D) (.ref x) c true:=λdep tk prog w A R s hs=>by
 obtain⟨hh,gg,dr,tt,oo⟩:=s;obtain⟨⟨kin,o,h1,h2⟩,fin⟩:=hs;have LT:PySem.W.Looks (model prog w) hh (typeOf (.ref x)) (.ref D):=h2▸(PySem.W.Looks.ld h1).andThen .now;unfold Builtin.«isinstance.nested»;refine AC ?_;refine LT.at ?_;cases q:(Value.ref D==c) with
 |true=>
  rw [if_pos rfl];exact AC (wpAny_rule (AH (fin tt)))
 |false=>
  rw [if_neg As];unfold PySem.W.kitOne at e;rw [q,if_neg As] at e;have z:=PySem.W.kit_cls (M:=model prog w) kin e;have z3:PySem.W.Looks (model prog w) hh (isInstance (.ref x) c) true:=LT.andThen z.2.2;refine AC ?_;refine z.1.at ?_;rw [if_pos (by decide)]
  k_delta "plainIsInstance"
  refine AC ?_;refine AC ?_;refine z.2.1.at ?_;simp only [Bool.not_true,if_false,Aw];refine AC ?_;refine z3.at ?_;exact AH (AH (fin tt))
theorem b7O{K:AD}{prog:AS}{w:AL}{A:AU}{E:AA->AE->Prop}{s:AE}{Q:AA->AE->Prop}{x D:AB}{c:AA}{o:Obj}(kin:K.In s.heap)(h1:s.heap.get? x=ξ o)(h2:o.cls= .ref D)(e:PySem.W.kitOne K (.ref D) c=ξ true)(fin:∀tk,Q (.bool true) {s with toks:=tk}):
 AG (model prog w) A (call (.builtin "isinstance") [.ref x,c]) Q E s:=by
 refine call_isinstance (S:=λ_ R s=>(K.In s.heap/\∃o,s.heap.get? x=ξ o/\o.cls= .ref D)/\∀tk,R (.ok (.ret (.bool true))) {s with toks:=tk}) (λprog w A R s hs=> ?_) ⟨⟨kin,o,h1,h2⟩,fin⟩
 refine isinstance_outer ?_ (λz=>nomatch z)
 exact b6P e 0 _ prog w A R s hs
def c3E:PV->Υ Str
 | .dict [(.str c,.bool true)]=>ξ c
 | .dict ((.str c,.int 0)::_)=>ξ c
 |_=>ζ
def b5e(K:AD)(H:Hp)(x:Str)(v:V):Prop:=c1J K H x v\/∃fs,b1z K H x (.int 0) fs v
theorem b5e.mono{K:AD}{H H':Hp}{x:Str}{v:V}(s:m3 H H')(h:b5e K H x v):b5e K H' x v:=by
 rcases h with⟨a,C,φ,e,q,r⟩|⟨fs,h⟩
 ·exact .inl ⟨a,C,φ,e,s _ _ q,r⟩
 ·exact .inr ⟨fs,h.mono s⟩
theorem c1f{K:AD}{F:Hp}{p:PV}{v:V}{c:Str}(rr:A3 K F p v)(h:c3E p=ξ c):b5e K F c v:=by
 unfold c3E at h;split at h
 ·cases h;rcases rr with⟨_,_,_,_,kk,w,t,_,z,_⟩|⟨_,_,_,_,kk,w,t,_,z,_⟩|⟨y,t,e,hy⟩|⟨_,_,_,ho,hf⟩
  ·cases z
  ·cases z
  ·cases e;rcases hy with⟨z,_⟩|⟨_,h1⟩
   ·cases z
   ·exact .inl h1
  ·rcases(b4J ho hf).2.1 with e|e<;>cases e
 ·cases h;rcases rr with⟨_,_,_,_,kk,w,t,_,z,_⟩|⟨_,_,_,_,kk,w,t,_,z,_⟩|⟨y,t,e,hy⟩|⟨y,m,fs,ho,hf⟩
  ·cases z
  ·cases z
  ·cases e;rcases hy with⟨z,_⟩|⟨z,_⟩<;>cases z
  ·obtain⟨g,w,t,e,z,q,_⟩:=hf;cases z;cases e;cases q;exact .inr ⟨_,ho⟩
 ·cases h
theorem c1i(I:j4 X pins σ H s)(h:b5e X.K H x v):∃(a C:AB) (o:Obj) (od:Υ Obj),v= .ref a/\Y4 X.K x C/\PySem.W.InstAt s.heap a o C od:=by
 rcases h with h|⟨fs,⟨z,_⟩|⟨_,a,C,dx,φ,e,q,r,d,n⟩⟩
 ·obtain⟨a,C,o,vs,e,h1,h2,h3,n,h4⟩:=c1e I h;exact⟨a,C,o,ζ,e,n,h1,h2,by unfold PySem.W.notCls;rw [h3],by rw [h4];trivial⟩
 ·cases z
 ·obtain⟨oe,vs,h1,h2,h3,h4⟩:=r _ (I.hok a _ q).1;obtain⟨mA,⟨od,es,ep,ho,_⟩,_⟩:=I.hok dx _ d;exact⟨a,C,oe,ξ od,e,n,h1,h2,by unfold PySem.W.notCls;rw [h3],by rw [h4];exact ho⟩
def a7J(tab:List (Str×Bool))(x:g5):Υ g5:=(c3E x.rd).bind λc=>(tab.lookup c).map λb=> .v (.bool b)
section
end
def inL(l:List Str)(c:Str):Bool:=l.contains c
section
def Hin(X:Cx)(B:AB)(l:List Str):Prop:=∀c,inL l c=true->∃C,X.mg c=ξ (.ref C)/\b0k X C B true/\Y4 X.K c C
theorem c0d:Hin X B []:=λ_ h=>nomatch h
theorem b13(xB:XC X.K X.mg b B)(x:XC X.K X.mg c C)(e:a7O X.K C B=true)(h:Hin X B l):Hin X B (c::l):=λc1 q=>by
 unfold inL at q;rw [List.contains_cons,Bool.or_eq_true] at q;rcases q with q|q
 ·rw [beq_iff_eq.mp q];exact⟨C,x.mg,by rw [<-e];exact b6T x.exc xB.exc,x.named⟩
 ·exact h c1 q
theorem b5v(hN:X.N.Nodup)(xB:XC X.K X.mg x B)(hin:Hin X B l)
 (hb:∀(Y:AA->AE->Prop) (pn:List (AB×Obj)) (E:L2.St->XK),a1s (CX1 X.prog X.w) (X.aim Y pn) E->EXs (X.aim Y pn) E body b) (hs:∀a Y,ESs (X.caught a Y) (b₀::suite) hd)
 (hi:X.N[i]?=ξ y:=by rfl) (hy:X.env.scope.names.lookup y=ξ .local:=by rfl) (hx0:X.ex=[]:=by rfl) (hst:X.stack=X.env::X.outer:=by rfl) (hfr:X.env.frame=ξ X.env.locals:=by rfl) (hg:Gl X x:=by rfl) (hdb:Δ x:=by decide):
 ES X (.Try body [.ExceptHandler (ξ (.Name x np)) (ξ y) (b₀::suite) hpos] [] [] pos) (a36 b i (inL l) hd):=
 b7p hN hi hy hx0 hst hfr hg xB.mg hdb hin hb hs
end
noncomputable def Z1:g5->g5->Υ g5
 | .v (.int i),.v (.int j)=>if 0<j/\j<1073741824 then ξ (.v (.tuple [.int (i / j),.int (i % j)])) else ζ
 |_,_=>ζ
section
theorem a9D:E4 X (.builtin "divmod") (rC2 X.K Z1):=by
 intro pins s σ H xs us Q I rv h;obtain⟨F,x,y,rx,ry,rz,rfl,s0,h1,h2,h3,k⟩:=h;unfold Z1 at h3;split at h3
 ·rename_i i j;split at h3
  ·rename_i c;cases h3;cases h1;cases h2;obtain⟨u1,u2,rfl,r1,r2⟩:∃u1 u2,us=[u1,u2]/\m8 (.int i) u1/\m8 (.int j) u2:=by
    cases rv with
    |cons p q=>
     cases q with
     |cons p' q'=>
      cases q';exact⟨_,_,rfl,p,p'⟩
   obtain⟨t1,rfl⟩:=r1;obtain⟨t2,rfl⟩:=r2;refine PyProof.Rows.divmod_int (by lia) ?_ (.inl (PyProof.noPylong_small (by lia)))
   refine⟨.ref s.heap.objs.size,_,I.laid (λb ob q=>AY _ q) (AM _) ?_,rfl,k _ _ _ (w8.tup s0 (I.hok.fresh (AM _)) ⟨_,_,rfl,rfl,_,_,rfl,rfl,rfl⟩)⟩;refine⟨by rw [sizeLine_eq];simp,_, ?_,IsTup.new _ _⟩
   have e1:i.fdiv j=i / j:=Int.fdiv_eq_ediv_of_nonneg _ (by lia)
   have e2:i.fmod j=i % j:=Int.fmod_eq_emod_of_nonneg _ (by lia)
   rw [e1,e2];exact .cons ⟨_,rfl⟩ (.cons ⟨_,rfl⟩ .nil)
  ·cases h3
 ·cases h3
theorem b0H{E:L2.St->XK}{st:List Stmt}{m:MS}(h:ESs X.nox st m):EXs X E st (b04 m):=c17 (PSs.nox h)
end
abbrev exO(C:AB)(dd:Υ AB)(t:AB):Obj:={cls:= .ref C,dict:=dd,data:= .fields #[.ref t,.none,.none,.none,.bool false,.none]}
def XQ(a C:AB)(dd:Υ AB)(h:Heap):Prop:=∃t,h.get? a=ξ (exO C dd t)
def XD(d:AB)(fs:List (Str×V))(h:Heap):Prop:=∃mA,h.Ns1 d mA/\(∀f,a3S (fs.lookup f) (mA f))/\PySem.Within mA (fs.map (·.1))
theorem XQ.ok(x:XQ a C dd h):z8 P w H h a (.ext (XQ a C dd)):=
 ⟨x,let ⟨t,e⟩:=x;⟨_,e⟩,λh1 h2 ⟨t,e⟩ k=>⟨t,k _ e⟩⟩
theorem XD.ok(x:XD d fs h):z8 P w H h d (.ext (XD d fs)):=
 ⟨x,let ⟨mA,⟨o,_,_,e,_⟩,_⟩:=x;⟨o,e⟩,λh1 h2 ⟨mA,n,r⟩ k=>⟨mA,n.at k,r⟩⟩
structure b1u(K:Frag)(C:AB):Prop where
 ov:a7E K C=true
 sa:findIn K (.ref C) "__setattr__"=ξ (ξ (.builtin "object.__setattr__"))
 ga:findIn K (.ref C) "__getattribute__"=ξ (ξ (.builtin "BaseException.__getattribute__"))
 gg:findIn K (.ref C) "__getattr__"=ξ ζ
 ex:a7F K C=true
section
theorem c3y(h:H a=ξ o):n5 H a o=H:=by
 funext b
 unfold n5;split
 ·rename_i e;rw [e,h]
 ·rfl
theorem b9y(I:j4 X pins σ H s)(hl:us.length<=AQ)(cx:b1u X.K C)(e:H a=ξ (.ext (XQ a C dd)))
 (h:∀s',j4 X pins σ H s'->Q .none s'):AG (model X.prog X.w) A (call (.builtin "ValueError.__init__") (.ref a::us)) Q E s:=by
 obtain⟨t,he⟩:=(I.hok a _ e).1
 obtain⟨tl,N,nm,q,bs,hdct,sn,sub,ab,col,ddc,k0,k1,k2,k3,k5,hC,T⟩:=b1s I.kIn cx.ex
 have F:=PySem.F.excBase_ValueError
 obtain⟨hh,g,dr,tk,os⟩:=s
 refine wpAny_call (codeAny_call_builtin F.init.plain F.initEntry (wpAny_check_init_subT F T hC he rfl ?_))
 wp_walk
 have h1:=AY (h:=hh) {cls:= .type "tuple",data:= .seq us.toArray} he
 have hget:((hh.push {cls:= .type "tuple",data:= .seq us.toArray}).update a (Obj.mapFields λx=>x.setIfInBounds 0 (Value.ref hh.objs.size))).get? a=ξ (exO C dd hh.objs.size):=Heap.get?_update_self _ h1 rfl
 have I1:=I.write (x:=a) (e:=a) (o:= .ext (XQ a C dd)) (t':=tk) (h':=(hh.push {cls:= .type "tuple",data:= .seq us.toArray}).update a (Obj.mapFields λx=>x.setIfInBounds 0 (Value.ref hh.objs.size))) (by rw [e];trivial) (.inl rfl) (λb u hb z=>(Heap.get?_update_other _ _ (Ne.symm hb)).trans (AY _ z)) ⟨_,hget⟩ (XQ.ok ⟨_,hget⟩)
 rw [c3y e] at I1
 exact h _ I1
theorem b9r(h:a≠b):n5 (n5 H a o) b u=n5 (n5 H b u) a o:=by
 funext c
 unfold n5
 by_cases h1:c=b
 ·rw [if_pos h1,if_neg (by rw [h1];exact Ne.symm h),if_pos h1]
 ·rw [if_neg h1]
  by_cases h2:c=a
  ·rw [if_pos h2,if_pos h2]
  ·rw [if_neg h2,if_neg h2,if_neg h1]
theorem b3Z(I:j4 X pins σ H s)(hx0:X.ex=[])(cx:b1u X.K C)(n:a2f X.K C f)(e:H a=ξ (.ext (XQ a C ζ)))(ry:m8 y u)
 (h:∀s' d,d≠a->H d=ζ->j4 X pins σ (n5 (n5 H d (.ext (XD d [(f,y)]))) a (.ext (XQ a C (ξ d)))) s'->Q () s'):AG (model X.prog X.w) A (setAttr (.ref a) f u) Q E s:=by
 obtain⟨t,he⟩:=(I.hok a _ e).1
 refine b3P I.kIn he cx.ov n cx.sa λh' d tk hd hsz hx hns hk=> ?_
 have hda:d≠a:=λz=>by rw [z,he] at hd;cases hd
 have hdn:H d=ζ:=I.hok.fresh hsz
 have xd:XD d [(f,y)] h':=⟨_,hns,λg=>by
  show a3S (List.lookup g [(f,y)]) (if g=f then ξ u else ζ)
  rw [List.lookup_cons]
  by_cases q:g=f
  ·rw [if_pos q,q,beq_self_eq_true];exact ry
  ·rw [if_neg q];rw [show(g==f)=false from by simpa using q]
   exact True.intro,λg hg=>by
  by_cases q:g=f
  ·rw [q];exact List.mem_singleton.mpr rfl
  ·exact absurd (if_neg q) hg⟩
 have I1:j4 X pins σ (n5 H a (.ext (XQ a C (ξ d)))) {s with heap:=h',toks:=tk}:=
  I.write (x:=a) (e:=a) (o:= .ext (XQ a C (ξ d))) (t':=tk) (by rw [e];trivial) (.inl rfl) hk ⟨_,hx⟩ (XQ.ok ⟨t,hx⟩)
 have ap:Ap X pins d:=apart I hx0 hd
 have I2:=I1.track (o:= .ext (XD d [(f,y)])) (by rw [f9 hda];exact hdn) ap (XD.ok xd)
 rw [b9r (Ne.symm hda)] at I2
 exact h _ d hda hdn I2
end
def Df0(K:AD)(x:Str)(st:Stmt):Prop:=∃f fd,PySem.W.nsIn K mainGlobals x=ξ (ξ (.ref f))/\Fun K x x st f fd
def Df(K:AD)(mg:Str->Υ AA)(x:Str)(st:Stmt):Prop:=∃f fd,Fun K x x st f fd/\mg x=ξ (.ref f)
theorem c1m{K:AD}{x:Str}{st:Stmt}{f:AB}{oc:AA}{od an:Υ AB}{osl:Array (Υ AA)}{kV doc pm cdv ct:AA}(a:PySem.W.nsIn K mainGlobals x=ξ (ξ (.ref f)))
 (l:K.lookup f=ξ ⟨oc,od,.func (PySem.W.fnOf x x (P5 st) (B2 st) (f6 st) .none kV doc pm an cdv ct),osl⟩) (c:PySem.W.codeIn K cdv x=true) (k:PySem.W.keepIn K (.ref f)=true):Df0 K x st:=⟨_,_,a,b7w l c k⟩
theorem Df0.to{K:AD}{h:Heap}{mg:Str->Υ AA}{x:Str}{st:Stmt}(d:Df0 K x st)(X:K.In h)(G:h.Ns mainGlobals mg):Df K mg x st:=let ⟨f,fd,a,F⟩:=d;⟨f,fd,F,PySem.W.mg_of X G a⟩
theorem mkS(h1:sc.kind= .function:=by rfl)(h2:sc.isCoroutine=false:=by rfl)(h3:sc.isGenerator=false:=by rfl)(h4:N.Nodup:=by decide+kernel)(h5:N.take P.length=P:=by rfl)
 (h6:∀x∈P,sc.names.lookup x=ξ .local\/sc.names.lookup x=ξ .cell:=by decide+kernel) (h7:∀y∈sc.names,y.2≠.free:=by decide+kernel):j6 N P sc:=⟨h1,h2,h3,h4,h5,h6,h7⟩
section
variable {P:AS}{w:AL}{K:AD}{mg:Str->Υ AA}{base:Heap}
theorem p8{x:Str}{st:Stmt}{N ps:List Str}{k:Nat}{m:MS}(D:Df K mg x st)(S:j6 N ps (f6 st))
 (hi:∀(kV doc pm:AA) (an:Υ AB) (cdv ct:AA) (us:List AA),us.length=ps.length->bindArgs (PySem.W.fnOf x x (P5 st) (B2 st) (f6 st) .none kV doc pm an cdv ct) ⟨us,[]⟩=pure (ps.zip us))
 (hb:∀(f:AB) (cdv:AA) (A:AU) (outer:List Env) (s:AE) (H:Hp) (E:XK),G8 k (A.deeper (envOfC x (f6 st) s.heap.objs.size f cdv))->ESs (a2w CX0 P w K mg base N x (f6 st) f cdv A outer s H E).nox (B2 st) m):
 u7 P w K mg base x ps (k+1) (C3 (N.length - ps.length) m):=
 let ⟨f,fd,F,hm⟩:=D
 ⟨f,fd,c1q F S (hb f),hm,F.kp,F.binds hi⟩
theorem c0i{fa:AB}{st:Stmt}{x:Str}{k:Nat}{g:Λ}(D:Df K mg "law" st)(hfa:mg "law"=ξ (.ref fa))
 (hi:∀(kV doc pm:AA) (an:Υ AB) (cdv ct v:AA),bindArgs (PySem.W.fnOf "law" "law" (P5 st) (B2 st) (f6 st) .none kV doc pm an cdv ct) ⟨[v],[]⟩=pure [(x,v)])
 (main:∀ns:List Int,ns.length<=63->g [.list (ns.map .int)]=ξ (.v (.bool true)))
 (H:∀(base:Heap) (f:AB) (fd:FuncData),K.In base->Fun K "law" "law" st f fd->R3 P w K mg base CX0 k f fd [x] (spP K 1 g)):
 ∃fd:FuncData,(∀(s:AE) (v:AA),BindsTo s fd ⟨[v],[]⟩ [(x,v)])/\∀base:Heap,K.In base->base.Ns mainGlobals mg->R3 P w K mg base CX0 k fa fd [x] (b4Z K):=by
 obtain⟨f,fd,F,hm⟩:=D
 have e:=hfa.symm.trans hm
 cases e
 refine⟨fd,λs v=> ?_,λbase kb _=>(H base _ fd kb F).imp (c0j main)⟩
 obtain⟨oc,od,kV,doc,pm,an,cdv,ct,osl,rfl,lk,hcd⟩:=F.ex
 exact .of_eq (hi kV doc pm an cdv ct v)
end
theorem el1{C:List AA->Prop}(h:∀a,C [a])(us:List AA)(e:us.length=1):C us:=by
 obtain⟨a,rfl⟩:=List.length_eq_one_iff.mp e;exact h a
theorem elS(e:us.length=n+1):∃a t,us=a::t/\t.length=n:=by
 cases us with
 |nil=>cases e
 |cons a t=>exact⟨a,t,rfl,Nat.succ.inj e⟩
theorem el2{C:List AA->Prop}(h:∀a b,C [a,b])(us:List AA)(e:us.length=2):C us:=by
 obtain⟨a,t,rfl,z⟩:=elS e;exact el1 (C:=λt=>C (a::t)) (h a) t z
theorem el3{C:List AA->Prop}(h:∀a b c,C [a,b,c])(us:List AA)(e:us.length=3):C us:=by
 obtain⟨a,t,rfl,z⟩:=elS e;exact el2 (C:=λt=>C (a::t)) (h a) t z
theorem el4{C:List AA->Prop}(h:∀a b c d,C [a,b,c,d])(us:List AA)(e:us.length=4):C us:=by
 obtain⟨a,t,rfl,z⟩:=elS e;exact el3 (C:=λt=>C (a::t)) (h a) t z
noncomputable def b5y(f:Str):List (PV×PV)->Υ PV
 |[]=>ζ
 |(.str g,p)::r=>if f==g then ξ p else b5y f r
 |_::_=>ζ
def c3G:List Str->List PV->List (PV×PV)
 |f::fs,q::qs=>(.str f,q)::c3G fs qs
 |_,_=>[]
section
variable {K:AD}{F:Hp}
theorem b4m:∀{es:List (PV×PV)} {fs:List (Str×V)} {p:PV},a3T K F es fs->b5y f es=ξ p->∃v,fs.lookup f=ξ v/\A3 K F p v
 |[],_,_,_,h=>by cases h
 |(k,q)::es,_,p,⟨g,v,t,e,z,r,rt⟩,h=>by
  subst e;subst z;unfold b5y at h;rw [List.lookup_cons];cases hg:f==g with
  |true=>rw [hg] at h;cases h;exact⟨v,rfl,r⟩
  |false=>rw [hg] at h;exact b4m rt h
theorem b2u:∀{fs:List Str} {qs:List PV} {vs:List V},m7 K F qs vs->a3T K F (c3G fs qs) (fs.zip vs)
 |[],qs,vs,_=>rfl
 |f::fs,[],vs,h=>by cases h;rfl
 |f::fs,q::qs,vs,⟨v,t,e,r,rt⟩=>by subst e;exact⟨f,v,_,rfl,rfl,r,b2u rt⟩
end
section
end
section
variable {P:AS}{w:AL}{K:AD}{mg:Str->Υ AA}{base:Heap}
def Dm(K:AD)(x qual:Str)(st:Stmt)(f:AB):Prop:=PySem.W.isFn K (.ref f)=true/\∃fd,Fun K x qual st f fd
theorem c3P{x qual:Str}{st:Stmt}{f:AB}{oc:AA}{od an:Υ AB}{osl:Array (Υ AA)}{kV doc pm cdv ct:AA}
 (l:K.lookup f=ξ ⟨oc,od,.func (PySem.W.fnOf x qual (P5 st) (B2 st) (f6 st) .none kV doc pm an cdv ct),osl⟩) (c:PySem.W.codeIn K cdv qual=true) (k:PySem.W.keepIn K (.ref f)=true) (i:PySem.W.isFn K (.ref f)=true):Dm K x qual st f:=⟨i,_,b7w l c k⟩
end
section
end
def c3N(st:Stmt)(j:Nat):Stmt:=match st with
 | .ClassDef _ _ _ body _ _ _ _ _ _ _=>body.getD j st
 |_=>st
def tXS(K:Frag)(t:TA):TS:=λD σ H=>t σ H λvs H1=>∃a C dd ws,vs= .ref a::ws/\ws.length<=AQ/\b1u K C/\H1 a=ξ (.ext (XQ a C dd))/\D.nx σ H1
def sX(K:Frag)(ta tv:TE)(f:Str):TS:=λD σ H=>tv σ H λy H1=>ta σ H1 λx H2=>∃a C,x= .ref a/\b1u K C/\a2f K C f/\H2 a=ξ (.ext (XQ a C ζ))/\∀d,d≠a->H2 d=ζ->D.nx σ (n5 (n5 H2 d (.ext (XD d [(f,y)]))) a (.ext (XQ a C (ξ d))))
section
variable {X:Cx}
theorem b8U{CE:AB}{x:Str}{np apos cpos pos:Pos}{e:AO}{es:List AO}{t:TA}{pl:Sem Bool}(hg:Gl X x)(hm:X.mg x=ξ (.ref CE))(hr:readsIn X.K CE (.type "type")=true)
 (hf:findCls X.K (.ref CE) (.type "type") "__init__"=ξ (.val (.builtin "ValueError.__init__"))) (hs:specialIn X.K (.ref CE) "__getattribute__"=ξ (ξ (.builtin "type.__getattribute__"))) (ha:PA X (e::es) t)
 (hsw:swapsWith (.Call (.Attribute (.Name x np) "__init__" apos) (e::es) [] cpos) ζ pos.line X.env=pure false:=by rfl)
 (hdb:Δ x:=by decide) (he:Ψ e es X.env:=by rfl) (hpl:Φ₁ cpos es X.env:=by rfl)
 (ht:eval (.Call (.Attribute (.Name x np) "__init__" apos) (e::es) [] cpos) X.env=(do
  let ov<-eval (.Name x np) X.env
  standAt apos.atName
  let (f,first)<-holding [ov] (getMethod ov "__init__" pl)
  callWith cpos f first (backTo cpos (AJ (e::es) X.env)) (backToKw cpos (keywordEach [] X.env))):=by rfl):
 PS X (.Expr (.Call (.Attribute (.Name x np) "__init__" apos) (e::es) [] cpos) pos) (tXS X.K t):=by
 have h1:PE X (.Call (.Attribute (.Name x np) "__init__" apos) (e::es) [] cpos) (λσ H Q=>t σ H λvs H1=>∃a C dd ws,vs= .ref a::ws/\ws.length<=AQ/\b1u X.K C/\H1 a=ξ (.ext (XQ a C dd))/\Q .non H1):=by
  ext i
  refine methodCall_KW (a0L I hg hm ?_ hdb) ht;refine method_cls I.kIn hs (cls_value I.kIn hr hf rfl ?_);refine PyProof.Rows.callWith_builtin1 (E2 (ha cpos pins _ σ H _ (I.tok _) h) λus s1 ⟨vs,H1,I1,r1,a,C,dd,ws,ev,hl,cx,ea,q⟩=> ?_) he hpl;subst ev;cases r1 with
  |cons r1 r2=>
   cases r1;exact b9y I1 (by rw [<-r2.length];exact hl) cx ea λs' I'=>⟨.non,H1,I',rfl,q⟩
 exact b1g h1 hsw
theorem c0K(hx0:X.ex=[])(ha:PE X o ta)(hv:PE X value tv)(hs:swapsWith value (ξ (.Attribute o f pos')) pos.line X.env=pure false:=by rfl):PS X (.Assign [.Attribute o f pos'] value pos) (sX X.K ta tv f):=by
 intro pins s σ H D I h;refine plainObj_wpAny_Assign_Attribute (E2 (hv pins s σ H _ I h) λu s1 h0=>o0 h0 λy H1 I1 ry q=>E2 (ha pins s1 σ H1 _ I1 q) λov s2 ⟨x,H2,I2,rx,a,C,ex,cx,n,e,q2⟩=> ?_) hs;subst ex;obtain rfl:ov=Value.ref a:=rx;exact b3Z I2 hx0 cx n e ry λs3 d h1 h2 I3=>⟨σ,_,I3,q2 d h1 h2⟩
end
def tVs:Nat->Nat->TA
 |_,0=>c0Z
 |i,n+1=>b2H (G9 i) (tVs (i+1) n)
theorem b43:∀(n i:Nat) (ws:List V) (Q:List V->Hp->Prop),ws.length=n->(∀j w,ws[j]?=ξ w->σ[i+j]?=ξ (ξ w))->Q ws H->tVs i n σ H Q
 |0,_,ws,Q,h,_,q=>by cases ws with
  |nil=>exact q
  |cons _ _=>cases h
 |n+1,i,ws,Q,h,hs,q=>by
  cases ws with
  |nil=>cases h
  |cons w ws=>
   exact⟨w,hs 0 w rfl,b43 n (i+1) ws _ (Nat.succ.inj h) (λj u hj=>by
    have:=hs (j+1) u (by simpa using hj)
    rwa [show i+(j+1)=i+1+j by lia] at this) q⟩
def tXl(K:Frag):Nat->List Str->TS
 |_,[]=>c1z
 |i,f::r=>b9h (sX K (G9 0) (G9 i) f) (tXl K (i+1) r)
def c0X(C:AB)(fs:List Str):Sp:=λvs H Q _=>∃a ws,vs= .ref a::ws/\ws.length=fs.length/\H a=ξ (.ext (XQ a C ζ))/\∀d,d≠a->H d=ζ->Q .non (n5 (n5 H d (.ext (XD d (fs.zip ws)))) a (.ext (XQ a C (ξ d))))
theorem b95{P:AS}{w:AL}{K:Frag}{mg:Str->Υ AA}{base:Heap}{qual:Str}{st:Stmt}{f C:AB}{fd:FuncData}{ps:List Str}{f0:Str}{k:Nat}(F:Fun K "__init__" qual st f fd)(S:j6 ps ps (f6 st))(hl:ps.length=2)
 (c:b1u K C) (na:a2f K C f0)
 (hb:∀(cdv:AA) (A:AU) (outer:List Env) (s:AE) (H:Hp) (E:XK),G8 k (A.deeper (envOfC qual (f6 st) s.heap.objs.size f cdv))->PSs (a2w CX0 P w K mg base ps qual (f6 st) f cdv A outer s H E).nox (B2 st) (b9h (tXS K (tVs 0 2)) (tXl K 1 [f0]))):
 R3 P w K mg base CX0 (k+1) f fd ps (c0X C [f0]):=by
 refine F.ok S (λvs H Q E h=> ?_) (λcdv A outer s H vs Q E hr h=> ?_)
 ·obtain⟨a,ws,rfl,h2,_⟩:=h
  rw [AT,h2,hl];rfl
 ·obtain⟨a,ws,rfl,h2,hH,q⟩:=h
  refine⟨_,hb cdv A outer s H E hr, ?_⟩
  have at_:∀j u,(V.ref a::ws)[j]?=ξ u->(a2a ps (V.ref a::ws))[0+j]?=ξ (ξ u):=λj u hj=>by
   unfold L2.a2a;rw [Nat.zero_add,BC (by rw [AN];exact(Al.mp hj).1),Ak,hj]
   rfl
  obtain⟨w1,rfl⟩:=List.length_eq_one_iff.mp h2
  unfold b9h tXS
  refine b43 2 0 (V.ref a::[w1]) _ rfl at_ ?_
  refine⟨a,C,ζ,[w1],rfl,by rw [sizeLine_eq];simp,c,hH, ?_⟩
  exact⟨w1,at_ 1 w1 rfl,.ref a,at_ 0 _ rfl,a,C,rfl,c,na,hH,λd h1 h3=>q d h1 h3⟩
def rem(H:Hp)(a:AB):Hp:=λb=>if b=a then ζ else H b
theorem b2t:rem H a a=ζ:=by unfold rem;rw [if_pos rfl]
theorem a4g(h:b≠a):rem H a b=H b:=by unfold rem;rw [if_neg h]
section
variable {X:Cx}{pins:List (AB×Obj)}{σ:L2.St}{H:Hp}{s:AE}
theorem _root_.L2.j4.untrack(I:j4 X pins σ H s)(e:H a=ξ (.ext φ)):j4 X pins σ (rem H a) s:=by
 have no:∀b u,H b=ξ u->(∀φ,u≠.ext φ)->b≠a:=λb u q n z=>by
  rw [z,e] at q;cases q;exact n φ rfl
 have dn:∀b,H b=ζ->rem H a b=ζ:=λb h=>by
  by_cases hb:b=a
  ·rw [hb,b2t]
  ·rw [a4g hb];exact h
 exact⟨I.ok,I.os,I.bare,⟨I.base.keep,I.base.slot,λb ob q n hx=>dn b (I.base.free b ob q n hx),I.base.there,
  λb xs q=>by have:=I.base.tups b xs q;rw [a4g (no b _ this λ_ z=>nomatch z)];exact this,
  λb ob u q=>by have:=I.base.frzs b ob u q;rw [a4g (no b _ this λ_ z=>nomatch z)];exact this,
  λb ps q=>by obtain⟨more,this⟩:=I.base.tbls b ps q;exact⟨more,by rw [a4g (no b _ this λ_ z=>nomatch z)];exact this⟩⟩,
  I.loc,I.cell,dn _ I.free,λx c q=>dn _ (I.freeC x c q),λp hp=>by
   obtain⟨h1,h2,h3⟩:=I.pin p hp;exact⟨h1,dn _ h2,h3⟩,λb u q=>by
   by_cases hb:b=a
   ·rw [hb,b2t] at q;cases q
   ·rw [a4g hb] at q;exact(I.hok b u q).stay (λc v _ z=>z) (λc z=>by rw [a4g (no c _ z λ_ y=>nomatch y)];exact z) λc xs z=>by rw [a4g (no c _ z λ_ y=>nomatch y)];exact z,I.len⟩
end
theorem b3C{K:Frag}{h:Heap}{N:AB}{mg:Str->Υ AA}{n:Str}{v:AA}(X:K.In h)(G:h.Ns N mg)(e:nsIn K N n=ξ (ξ v)):mg n=ξ v:=by
 obtain⟨o,es,ep,ho,hd,_,hf⟩:=G;unfold nsIn at e;split at e
 ·rename_i c d es' n' sl q;have:=X _ _ q;rw [ho] at this;cases this;cases hd;split at e
  ·rename_i en he;cases e;rw [<-hf];unfold nsFind findBy;rw [<-Array.find?_toList,he]
   rfl
  ·split at e<;>cases e
 ·cases e
def a7G(K:Frag)(C f:AB):Bool:=b7s K C λns=>nsOkIn K ns && nsIn K ns "__init__"==ξ (ξ (.ref f))
theorem c1h{K:Frag}{h:Heap}{C f:AB}(X:K.In h)(q:a7G K C f=true):∃tl N nm q bs hdct sn sub ab col dd k0 k1 k2 k3 k5,
 h.get? C=ξ (excClassObj nm q C N bs tl hdct sn sub ab col dd k0 k1 k2 k3 k5 "ValueError.__new__")/\h.Ns N (h.nsMap N)/\h.nsMap N "__init__"=ξ (.ref f)/\OwnTail h a4U tl:=by
 obtain⟨tl,N,nm,q,bs,hdct,sn,sub,ab,col,dd,k0,k1,k2,k3,k5,h1,h2,h3⟩:=b4j X q
 rw [χ] at h3
 have h5:=Heap.Ns.of_isNs (isNs_of_in X h3.1)
 exact⟨tl,N,nm,q,bs,hdct,sn,sub,ab,col,dd,k0,k1,k2,k3,k5,h1,h5,b3C X h5 (beq_iff_eq.mp h3.2),h2⟩
theorem c19{K:Frag}{f:AB}(h:PySem.W.isFn K (.ref f)=true):∃o,K.lookup f=ξ o/\o.cls= .type "function":=by
 have h:(K.lookup f).map (·.cls)=ξ (.type "function"):=beq_iff_eq.mp h;obtain⟨o,h1,h2⟩:=Option.map_eq_some_iff.mp h;exact⟨o,h1,h2⟩
section
variable {X:Cx}{x:Str}{C:AB}{np cpos pos:Pos}{e₀:AO}{rest:List AO}{t:TA}{W:Υ AB->Hp->Prop}
theorem b6i{k:Nat}{f:AB}{fd:FuncData}{ps:List Str}{f0:Str}{fs:List Str}(G:R3 X.prog X.w X.K X.mg X.base CX0 k f fd ps (c0X C (f0::fs)))(hr:G8 (k+1) X.A)(hb:a07 X.K fd ps [])(hi:a7G X.K C f=true)(hfn:PySem.W.isFn X.K (.ref f)=true)
 (hc:X.calm=true) (hx0:X.ex=[]) (hg:Gl X x) (hm:X.mg x=ξ (.ref C)) (ha:PA X (e₀::rest) t)
 (hxe:∀(pins:List (AB×Obj)) (σ:L2.St) (H:Hp) (s:AE) (a:AB) (dd:Υ AB),j4 X pins σ H s->Ex0 s.heap a C dd->X.s₀.heap.get? a=ζ->H a=ζ->W dd H->X.xe (.ref a) s)
 (he:Ψ e₀ rest X.env:=by rfl) (hplain:Φ₁ cpos rest X.env:=by rfl) (hdb:Δ x:=by decide):
 PS X (.Raise (ξ (.Call (.Name x np) (e₀::rest) [] cpos)) ζ pos) (λ_ σ H=>t σ H λvs H1=>vs.length=fs.length+1/\vs.length<=AQ/\∀d,H1 d=ζ->W (ξ d) (n5 H1 d (.xd ((f0::fs).zip vs)))):=by
 intro pins s σ H D I h
 obtain⟨tl,N,nm,q,bs,hdct,sn,sub,ab,col,dd,k0,k1,k2,k3,k5,hC,hN,hni,T⟩:=c1h I.ok.mod.kin hi
 obtain⟨oI,hoI,hfc⟩:=c19 hfn
 have FB:=F.excBase_ValueError
 refine b2s (C:=C) (nm:=nm) (q:=q) (N:=N) (bs:=bs) (bm:=tl) (hdct:=hdct) (sn:=sn) (sub:=sub) (ab:=ab) (col:=col) (dd:=dd) (k0:=k0) (k1:=k1) (k2:=k2) (k3:=k3) (k5:=k5)
  FB (T.hasType FB.hasBase) (I.ok.hd hc) (by rw [he];show(false||(backTo cpos (AJ rest X.env)).any (·.1))=false;rw [hplain];rfl) hni hfc (a0L I hg hm ⟨rfl, ?_⟩ hdb)
 have hA:=ha cpos pins s σ H _ I h
 rw [he] at hA ⊢
 refine Calls.evalArgs_plain (E2 hA λus s2 ⟨vs,H2,I2,r2,hlen,hl,q2⟩=>⟨rfl,by rw [<-r2.length];exact hl,I2.bk _ _ hC,hN.keeps I2.bk,T.keeps I2.bk,I2.kIn _ _ hoI,λh' e hmk=> ?_⟩)
 obtain⟨tt,h1,_,_⟩:=hmk.there
 have hn:H2 e=ζ:=by
  cases h:H2 e with
  |none=>rfl
  |some o=>
   obtain⟨ob,z⟩:=a7f (I2.hok e o h);rw [hmk.new] at z;cases z
 have ap:Ap X pins e:=apart I2 hx0 hmk.new
 have I3:j4 X pins σ H2 {s2 with heap:=h'}:=I2.kept (t':=s2.toks) hmk.keeps
 have I4:=I3.track (o:= .ext (XQ e C ζ)) hn ap (XQ.ok ⟨tt,h1⟩)
 have r4:t0 (V.ref e::vs) (Value.ref e::us):= .cons rfl r2
 have sp:c0X C (f0::fs) (V.ref e::vs) (n5 H2 e (.ext (XQ e C ζ))) (λv H3=>v= .non/\∃d,d≠e/\H2 d=ζ/\H3=n5 (n5 (n5 H2 e (.ext (XQ e C ζ))) d (.ext (XD d ((f0::fs).zip vs)))) e (.ext (XQ e C (ξ d)))) (λ_ _ _=>False):=
  ⟨e,vs,rfl,hlen,g8,λd h1 h2=>⟨rfl,d,h1,by rw [f9 h1] at h2;exact h2,rfl⟩⟩
 have hps:(Value.ref e::us).length=ps.length:=by rw [<-r4.length];exact G.len _ _ _ _ sp
 have hb':=hb {s2 with heap:=h'} (Value.ref e::us) I4.kIn (by rw [An];exact hps)
 rw [An] at hb'
 refine wpAny_call (codeAny_mono (G.run _ X.stack _ _ ⟨Value.ref e::us,[]⟩ (Value.ref e::us) _ _ (λ_ _ _=>False) (hr.make C us []) (I4.env0.make C us []) hb' r4 sp) λr s' hq'=> ?_)
 cases r with
 |error e=>exact b2p pins σ _ _ e s' I4 hq'
 |ok fl=>
  cases fl with
  |ret u=>
   obtain⟨v,H',I5,rv,ev,d,hde,hd2,eH⟩:=I4.after hq'
   subst ev
   subst eH
   have e5:n5 (n5 (n5 H2 e (.ext (XQ e C ζ))) d (.ext (XD d ((f0::fs).zip vs)))) e (.ext (XQ e C (ξ d))) d=ξ (.ext (XD d ((f0::fs).zip vs))):=by rw [f9 hde,g8]
   obtain⟨t2,h2⟩:=(I5.hok e _ g8).1
   obtain⟨mA,hns,rel,_⟩:=(I5.hok d _ e5).1
   have I6:=I5.write (x:=d) (e:=d) (o:= .xd ((f0::fs).zip vs)) (h':=s'.heap) (t':=s'.toks) (by rw [e5];trivial) (.inl rfl) (λb u hb z=>z) (let ⟨o,_,_,z,_⟩:=hns;⟨o,z⟩) ⟨mA,hns,rel⟩
   have I7:=I6.untrack (a:=e) (φ:=XQ e C (ξ d)) (by rw [f9 (Ne.symm hde),g8])
   have eq:rem (n5 (n5 (n5 (n5 H2 e (.ext (XQ e C ζ))) d (.ext (XD d ((f0::fs).zip vs)))) e (.ext (XQ e C (ξ d)))) d (.xd ((f0::fs).zip vs))) e=n5 H2 d (.xd ((f0::fs).zip vs)):=by
    funext b
    unfold rem n5
    by_cases hb:b=e
    ·rw [if_pos hb,if_neg (by rw [hb];exact Ne.symm hde),hb,hn]
    ·rw [if_neg hb]
     by_cases hb2:b=d
     ·rw [if_pos hb2,if_pos hb2]
     ·rw [if_neg hb2,if_neg hb2,if_neg hb,if_neg hb2,if_neg hb]
   rw [eq] at I7
   refine⟨rv,I5.bk _ _ hC,⟨_,_,h2,rfl,rfl,rfl⟩, ?_⟩
   exact hxe pins σ _ s' e (ξ d) I7 ⟨_,_,h2,rfl,rfl,rfl,rfl⟩ ap.1 (by rw [f9 (Ne.symm hde)];exact hn) (q2 d hd2)
  |next=>exact False.elim hq'
  |brk=>exact False.elim hq'
  |cont=>exact False.elim hq'
end
def b9B(P:AS)(w:AL)(K:Frag)(mg:Str->Υ AA)(base:Heap)(x:Str)(fs:List Str)(k:Nat):Prop:=
 ∃C f fd ps f0 r,fs=f0::r/\fs.length<=900/\R3 P w K mg base CX0 k f fd ps (c0X C (f0::r))/\mg x=ξ (.ref C)/\a07 K fd ps []/\a7G K C f=true/\PySem.W.isFn K (.ref f)=true
def b8q(x:Str)(fs:List Str)(m:MA):MX:=λρ=>(m ρ).bind λqs=>ξ (.rz ⟨x,c3G fs qs⟩ ρ)
section
variable {X:Cx}
theorem b5w(hc:X.calm=true)(hx0:X.ex=[])(hg:Gl X x)(d:b9B X.prog X.w X.K X.mg X.base x fs k)(hr:G8 k' X.A)(hk:k+1<=k')(hn:∀ρ qs,m ρ=ξ qs->qs.length=fs.length)(ha:EA X (e₀::rest) m)
 (hxe:∀(pins:List (AB×Obj)) (σ:L2.St) (H:Hp) (s:AE) (a C:AB) (dd:Υ AB),j4 X pins σ H s->Ex0 s.heap a C dd->X.s₀.heap.get? a=ζ->H a=ζ->E1 (.ref C) dd H->X.xe (.ref a) s)
 (he:Ψ e₀ rest X.env:=by rfl) (hplain:Φ₁ cpos rest X.env:=by rfl) (hdb:Δ x:=by decide):
 EX X (λ_=>E1) (.Raise (ξ (.Call (.Name x np) (e₀::rest) [] cpos)) ζ pos) (b8q x fs m):=by
 obtain⟨C,f,fd,ps,f0,r,rfl,hl,G,hm,hb,hi,hfn⟩:=d
 refine B0 (b6i (W:=λdd H=>E1 (.ref C) dd H) G (hr.mono hk) hb hi hfn hc hx0 hg hm ha (λpins σ H s a dd I x h0 hn w=>hxe pins σ H s a C dd I x h0 hn w) he hplain hdb) λD σ H h0=>a54 h0 λF0 H0 F ρ fx so e fin=> ?_
 obtain⟨qs,e1,e⟩:=bind_some e
 cases e
 obtain⟨C',h1,h2⟩:=fin
 have h1:X.mg x=ξ (.ref C'):=h1
 rw [hm] at h1
 cases h1
 refine⟨F,ρ,qs,so.e,e1,λvs F1 H1 y rl=> ?_⟩
 have hq:=hn _ _ e1
 have hv:vs.length=r.length+1:=by rw [rl.length,hq];rfl
 have hl':r.length+1<=900:=hl
 refine⟨hv,by rw [hv,sizeLine_eq];lia,λd hd=> ?_⟩
 have x3:R5 F1 H1 (n5 F1 d (.xd ((f0::r).zip vs))) (n5 H1 d (.xd ((f0::r).zip vs))):=R5.lay y.fh hd
 refine h2 σ (ξ d) _ _ (y.trans x3).f (so.ext (y.trans x3)) (.inr ⟨d,_,rfl,g8, ?_,a3T.mono x3.f _ (b2u rl)⟩)
 cases qs with
 |nil=>cases hq
 |cons q qs=>intro z;cases z
end
def a9e(K:Frag)(tab:List Str)(f:Str):Prop:=∀x,tab.contains x=true->∀C,Y4 K x C->b1u K C/\a2f K C f
def gFx(tab:List Str)(f:Str)(r:g5):Υ g5:=match r with
 | .v (.dict ((.str x,.int 0)::es))=>if tab.contains x=true then(b5y f es).map .v else ζ
 |_=>ζ
theorem c4D{K:Frag}{F:Hp}{x:Str}{es:List (PV×PV)}{v:V}(h:A3 K F (.dict ((.str x,.int 0)::es)) v):∃(a C dx:AB) (φ:Heap->Prop) (fs:List (Str×V)),v= .ref a/\F a=ξ (.ext φ)/\(∀h:Heap,φ h->∃oe vs,h.get? a=ξ oe/\oe.cls= .ref C/\oe.data= .fields vs/\oe.dict=ξ dx)/\F dx=ξ (.xd fs)/\Y4 K x C/\a3T K F es fs:=by
 rcases h with⟨a,ys,_,_,kk,w,t,_,z,_⟩|⟨a,ys,_,_,kk,w,t,_,z,_⟩|⟨y,t,e,h⟩|⟨y,m,fs,ho,hf⟩
 ·cases z
 ·cases z
 ·cases e;rcases h with⟨z,_⟩|⟨z,_⟩<;>cases z
 ·obtain⟨g,v',t,e,z,r,rt⟩:=hf;cases e;cases z;rcases ho with⟨rfl,_⟩|⟨rfl,a,C,dx,φ,e,q,k,d,n⟩
  ·cases r
  ·exact⟨a,C,dx,φ,fs,e,q,k,d,n,rt⟩
section
variable {X:Cx}
theorem c3R{tab:List Str}{f:Str}{e:AO}{m:M}{pos:Pos}(T:a9e X.K tab f)(ha:EE X e m)(hb:attributeBase e f X.env (eval e X.env)=eval e X.env:=by rfl):EE X (.Attribute e f pos) (m1 (gFx tab f) m):=by
 have h0:PE X (.Attribute e f pos) (λσ H Q=>tM X.K m σ H λv H1=>∃F1 x es q,m3 F1 H1/\A3 X.K F1 (.dict ((.str x,.int 0)::es)) v/\tab.contains x=true/\b5y f es=ξ q/\∀u,A3 X.K F1 q u->Q u H1):=by
  ext i
  refine b9J hb (E2 (ha pins s σ H _ I h) λu s1 ⟨v,H1,I1,rx,F1,x,es,q,sm,rp,hc,hp,k⟩=> ?_);obtain⟨a,C,dx,φ,fs,rfl,q1,k1,d1,nm,hr⟩:=c4D rp;obtain rfl:u=Value.ref a:=rx;obtain⟨oe,vs,g1,g2,g3,g4⟩:=k1 _ (I1.hok a _ (sm _ _ q1)).1;obtain⟨mA,hns,rel⟩:=I1.hok dx _ (sm _ _ d1);obtain⟨v2,hl,rv⟩:=b4m hr hp;obtain⟨cx,n⟩:=T x hc C nm;obtain⟨u2,hu,ru⟩:=a3S.some_of (v:=v2) (o:=mA f) (by rw [<-hl];exact rel f)
  exact c4I I1.kIn g1 g2 g4 ⟨vs,g3⟩ hns cx.ov n cx.ga cx.gg hu (b5F ru) ⟨v2,H1,I1.tok _,ru,k v2 rv⟩
 exact u5 h0 λσ H Q h0=>u0 h0 λF ρ r en em k=>by
  obtain⟨rx,e1,e2⟩:=bind_some em;refine⟨F,ρ,rx,en,e1,λv F1 H1 o=> ?_⟩;unfold gFx at e2;split at e2
  ·rename_i x es;split at e2
   ·rename_i hc;cases hp:b5y f es with
    |none=>rw [hp] at e2;cases e2
    |some q=>
     rw [hp] at e2;cases e2;exact⟨F1,x,es,q,o.x.fh,o.rep,hc,hp,λu ru=>k u F1 H1 (w8.val o.x ru)⟩
   ·cases e2
  ·cases e2
end
structure KX(K:Frag)(x:Str)(C:AB):Prop where
 cls:b1u K C
 named:Y4 K x C
def c2s(K:Frag)(C:AB):Bool:=a7E K C && findIn K (.ref C) "__setattr__"==ξ (ξ (.builtin "object.__setattr__"))&& findIn K (.ref C) "__getattribute__"==ξ (ξ (.builtin "BaseException.__getattribute__"))&& findIn K (.ref C) "__getattr__"==ξ ζ && a7F K C
theorem c30{K:Frag}{x:Str}{C:AB}(e:nsIn K mainGlobals x=ξ (ξ (.ref C)))(q:(a2U K C x && c2s K C)=true):KX K x C:=by
 rw [χ] at q;obtain⟨q1,q2⟩:=q;unfold c2s at q2;simp only [χ,beq_iff_eq] at q2;obtain⟨⟨⟨⟨h1,h2⟩,h3⟩,h4⟩,h5⟩:=q2;refine⟨⟨h1,h2,h3,h4,h5⟩,e, ?_⟩;unfold a2U at q1;split at q1
 ·rename_i oc od cd sl hk;exact⟨oc,od,cd,sl,hk,beq_iff_eq.mp q1⟩
 ·cases q1
theorem b5D{K:Frag}{f:Str}:a9e K [] f:=λ_ h=>nomatch h
theorem b3d{K:Frag}{f x:Str}{C:AB}{t:List Str}(c:KX K x C)(n:a2f K C f)(h:a9e K t f):a9e K (x::t) f:=λy q D nm=>by
 rw [List.contains_cons,Bool.or_eq_true] at q;rcases q with q|q
 ·rw [beq_iff_eq.mp q] at nm;cases nm.uniq c.named;exact⟨c.cls,n⟩
 ·exact h y q D nm
section
variable {P:AS}{w:AL}{K:Frag}{mg:Str->Υ AA}{base:Heap}
theorem b7L{x qual:Str}{st:Stmt}{ps:List Str}{f0:Str}{fs:List Str}{k:Nat}{f C:AB}(D:Dm K "__init__" qual st f)(S:j6 ps ps (f6 st))(hl:ps.length=fs.length+2)(c:KX K x C)(hm:mg x=ξ (.ref C))(hi0:a7G K C f=true)(na:∀f∈f0::fs,a2f K C f)(nd:(f0::fs).Nodup)(hs:fs.length<=800)
 (hi:∀(kV doc pm:AA) (an:Υ AB) (cdv ct:AA) (us:List AA),us.length=ps.length->bindArgs (PySem.W.fnOf "__init__" qual (P5 st) (B2 st) (f6 st) .none kV doc pm an cdv ct) ⟨us,[]⟩=pure (ps.zip us))
 (hb:∀(cdv:AA) (A:AU) (outer:List Env) (s:AE) (H:Hp) (E:XK),G8 k (A.deeper (envOfC qual (f6 st) s.heap.objs.size f cdv))->PSs (a2w CX0 P w K mg base ps qual (f6 st) f cdv A outer s H E).nox (B2 st) (b9h (tXS K (tVs 0 (fs.length+2))) (tXl K 1 (f0::fs)))) (h0:fs=[]:=by rfl):
 b9B P w K mg base x (f0::fs) (k+1):=by
 subst h0
 obtain⟨i,fd,F⟩:=D
 exact⟨C,f,fd,ps,f0,[],rfl,by simp,b95 F S hl c.cls (na f0 (by simp)) hb,hm,F.binds hi,hi0,i⟩
end
theorem c1M{K:Frag}{C:AB}{fs:List Str}(h:fs.all (λg=>findIn K (.ref C) g==ξ ζ)=true):∀g∈fs,a2f K C g:=λg hg=>beq_iff_eq.mp (List.all_eq_true.mp h g hg)
def a2F(body:MX)(tg:PV->d5->Υ d5):List PV->d5->Υ FX
 |[],ρ=>ξ (.fl (.nx ρ))
 |p::ps,ρ=>(tg p ρ).bind λρ1=>(body ρ1).bind λfx=>match fx with
  | .fl (.nx ρ')=>a2F body tg ps ρ'
  | .fl (.ct ρ')=>a2F body tg ps ρ'
  | .fl (.bk ρ')=>ξ (.fl (.nx ρ'))
  | .fl (.rt r)=>ξ (.fl (.rt r))
  | .rz c ρ'=>ξ (.rz c ρ')
def b4G(it:MI)(tg:PV->d5->Υ d5)(body:MX):MX:=λρ=>(it ρ).bind λps=>a2F body tg ps ρ
theorem b5A(h:a2F body tg (p::ps) ρ=ξ fl):∃ρ1 f1,tg p ρ=ξ ρ1/\body ρ1=ξ f1/\(match f1 with
 | .fl (.nx ρ')=>a2F body tg ps ρ'
 | .fl (.ct ρ')=>a2F body tg ps ρ'
 | .fl (.bk ρ')=>ξ (.fl (.nx ρ'))
 | .fl (.rt r)=>ξ (.fl (.rt r))
 | .rz c ρ'=>ξ (.rz c ρ'))=ξ fl:=by
 unfold a2F at h
 obtain⟨ρ1,e1,h⟩:=bind_some h
 obtain⟨f1,e2,h⟩:=bind_some h
 exact⟨ρ1,f1,e1,e2,h⟩
def PvX(K:AD)(F0 H0 F1:Hp)(body:MX)(tg:PV->d5->Υ d5)(ps:List PV)(fl:FX)(k:Nat)(σ:L2.St)(H:Hp):Prop:=
 ∃F ρ,m3 F1 F/\SOk K F0 H0 F H σ ρ/\a2F body tg (ps.drop k) ρ=ξ fl
section
variable {K:AD}{mg:Str->Υ AA}{E:L2.St->XK}{F0 H0 F1:Hp}{body:MX}{tg:PV->d5->Υ d5}{g:TG}{ps:List PV}{fl:FX}{D:R8}{k:Nat}{p:PV}{x:V}{σ σ0:L2.St}{H:Hp}
theorem b7t(fin:a5k K mg E F0 H0 F1 σ0 D fl)(up:m3 F1 F)
 (hN:∀σ' F' H' ρ',m3 F F'->SOk K F0 H0 F' H' σ' ρ'->a2F body tg rs ρ'=ξ fl->N σ' H')
 (e3:(match f1 with
 | .fl (.nx ρ')=>a2F body tg rs ρ'
 | .fl (.ct ρ')=>a2F body tg rs ρ'
 | .fl (.bk ρ')=>ξ (.fl (.nx ρ'))
 | .fl (.rt r)=>ξ (.fl (.rt r))
 | .rz c ρ'=>ξ (.rz c ρ'))=ξ fl):a5k K mg E F0 H0 F σ {D with nx:=N,ct:=N,bk:=D.nx} f1:=by
 cases f1 with
 |rz c ρ'=>cases e3;exact a5k.later (σ0:=σ0) (fx:= .rz c ρ') up fin
 |fl f=>
  cases f with
  |nx ρ'=>exact λσ2 F2 H2 s2 so2=>hN σ2 F2 H2 ρ' s2 so2 e3
  |ct ρ'=>exact λσ2 F2 H2 s2 so2=>hN σ2 F2 H2 ρ' s2 so2 e3
  |bk ρ'=>cases e3;exact λσ2 F2 H2 s2 so2=>fin σ2 F2 H2 (up.trans s2) so2
  |rt r=>cases e3;exact λv F' H' o=>a5k.later (fx:= .fl (.rt r)) (σ1:=σ0) up fin v F' H' o
theorem b51(fin:a5k K mg E F0 H0 F1 σ0 D fl)(hp:PvX K F0 H0 F1 body tg ps fl ps.length σ H):D.nx σ H:=by
 obtain⟨F,ρ,s,so,e⟩:=hp;rw [List.drop_length] at e;cases e;exact fin σ F H s so
theorem b2a(T:a7l K g tg)(fin:a5k K mg E F0 H0 F1 σ0 D fl)(ep:ps[k]?=ξ p)
 (hp:PvX K F0 H0 F1 body tg (B4 ps) fl k σ H) (hn:H t=ζ) (rx:A3 K F1 p x):
 g (.ref t) σ (n5 H t (.tup [.int k,x])) λσ2 H2=>tMX K mg E body {D with nx:=PvX K F0 H0 F1 body tg (B4 ps) fl (k+1),ct:=PvX K F0 H0 F1 body tg (B4 ps) fl (k+1),bk:=D.nx} σ2 H2:=by
 obtain⟨F,ρ,s,so,e⟩:=hp
 have eq:(B4 ps)[k]?=ξ (.tuple [.int ((k:Nat):Int),p]):=by rw [a3e,ep];rfl
 have hk:k<(B4 ps).length:=(Al.mp eq).1
 have hd:(B4 ps).drop k= .tuple [.int ((k:Nat):Int),p]::(B4 ps).drop (k+1):=by
  rw [List.drop_eq_getElem_cons hk]
  congr 1
  exact(Al.mp eq).2
 rw [hd] at e
 obtain⟨ρ1,f1,e1,e2,e3⟩:=b5A e
 have xl:R5 F H (n5 F t (.tup [.int k,x])) (n5 H t (.tup [.int k,x])):=R5.lay so.e.fh hn
 have up:m3 F1 (n5 F t (.tup [.int k,x])):=s.trans xl.f
 refine T F0 H0 _ _ σ ρ ρ1 _ (.ref t) _ (so.ext xl) (show A3 K (n5 F t (.tup [.int k,x])) (.tuple [.int ((k:Nat):Int),p]) (.ref t) from⟨t,[.int k,x],rfl,TqT.of g8,⟨_,_,rfl,rfl,⟨_,_,rfl,A3.mono up _ rx,rfl⟩⟩⟩) e1 λσ' so'=>⟨F0,H0,_,ρ1,f1,so',e2, ?_⟩
 exact b7t (σ0:=σ0) fin up (λσ' F' H' ρ' s2 so2 e=>⟨F',ρ',up.trans s2,so2,e⟩) e3
theorem b5B(S:b2W K F1 J ps)(T:a7l K g tg)(fin:a5k K mg E F0 H0 F1 σ0 D fl)(h0:PvX K F0 H0 F1 body tg (B4 ps) fl 0 σ H):
 ∃W:Nat->Nat->L2.St->Hp->Prop,(∃m,W 0 m σ H)/\∀i m σ H,W i m σ H->
  ((Ite J).stop i H/\D.nx σ H)\/((Ite J).go i H/\∃N:L2.St->Hp->Prop,(∀σ' H',N σ' H'->∃m',m'<m/\W (i+1) m' σ' H')/\∀x H',(Ite J).yld i H x H'->g x σ H' λσ2 H2=>tMX K mg E body {D with nx:=N,ct:=N,bk:=D.nx} σ2 H2):=by
 refine⟨λi m σ H=>m=ps.length - i/\i<=ps.length/\PvX K F0 H0 F1 body tg (B4 ps) fl i σ H,⟨ps.length,by simp,Nat.zero_le _,h0⟩, ?_⟩
 rintro i m σ H ⟨rfl,hi,pv⟩
 have sm:m3 F1 H:=let ⟨_,_,s,so,_⟩:=pv;s.trans so.e.fh
 by_cases hlt:i<ps.length
 ·have ep:ps[i]?=ξ ps[i]:=by simp [hlt]
  refine .inr ⟨S.go i _ H sm ep,PvX K F0 H0 F1 body tg (B4 ps) fl (i+1),λσ' H' p'=>⟨ps.length - (i+1),by lia,rfl,hlt,p'⟩,λv H' y=> ?_⟩
  obtain⟨x,t,yx,hn,rfl,rfl⟩:=y
  exact b2a T fin ep pv hn (S.yd i _ x H H sm ep yx).2
 ·have ei:i=ps.length:=by lia
  refine .inl ⟨S.st i H sm (by lia), ?_⟩
  rw [ei,<-a3f ps] at pv
  exact b51 fin pv
end
section
variable {X:Cx}{E:L2.St->XK}
theorem b94{x1}(hp:PassesOwn (model X.prog X.w) X.A X.env X.xe)(hc:X.calm=true)(hgl:Gl X "enumerate")(hm:X.mg "enumerate"=ζ)(ha:EA X [a] m)(hg:PG X (.Tuple elts x1 tpos) g)(T:a7l X.K g t)(hb:EXs X E body b)
 (hst:AJ [a] X.env=[(false,eval a X.env)]:=by rfl) (hs:∀x,foldedSetIterable (.Call (.Name "enumerate" p) [a] [] rp) X.env x=pure x:=by intro _;rfl):EX X E (.For (.Tuple elts x1 tpos) (.Call (.Name "enumerate" p) [a] [] rp) body [] pos) (b4G (a6p m) t b):=
 B0 (b1h hp hc (b4N hgl hm ha hst) hg hb hs) λD σ H h0=>a54 h0 λF0 H0 F ρ fl so e fin=>by
  obtain⟨es,e1,e⟩:=bind_some e;obtain⟨as,e1,e2⟩:=bind_some e1;split at e2
  ·rename_i q;refine⟨F,ρ,_,so.e,e1,λvs F1 H1 x rl=> ?_⟩;obtain⟨v,r,rfl,rq,rr⟩:=rl;cases rr;have fin1:=a5k.later (σ1:=σ) x.f fin;cases hi:b3m q with
   |none=>rw [hi] at e2;cases e2
   |some ps=>
    rw [hi] at e2;cases e2;have core:∀J,b2W X.K F1 J ps->_:=λJ S=>b5B (g:=g) (σ:=σ) (H:=H1) S T fin1 ⟨F1,ρ,PU.m3.refl F1,so.ext x,e⟩;cases q with
    |tuple qs=>
     cases hi;obtain⟨a,xs,rfl,hq,rl⟩:=rq;exact .inl ⟨a,xs,rfl,C0 x.fh hq.sq,core _ (b2D hq.sq rl)⟩
    |list qs=>
     cases hi;obtain⟨a,xs,rfl,hq,rl⟩:=rq;exact .inr (.inl ⟨a,xs,rfl,B9 x.fh hq,core _ (b2B hq rl)⟩)
    |str z=>
     cases hi;cases rq;exact .inr (.inr ⟨z,rfl,core _ (b2C z)⟩)
    |_=>cases hi
  ·cases e2
end
def byT(w:AL):Bool:=w.params.followText "set-order"
def J8(prog:AS)(w:AL)(h:Heap)(a:AB)(es:Array (Int×AA))(ep:Nat):Prop:=
 ∃o t,h.get? a=ξ o/\o.ExactSet/\o.data= .set es ep t/\ElemsOf (m5 prog w) es.toList/\es.size<scanBound/\t.fits es.size=true/\t.led= !byT w/\(es.size≠0->t.plain=false)
def sOf:AA->Str
 | .str x _=>x
 |_=>⟨#[]⟩
abbrev a7V(es:Array (Int×AA)):List Str:=es.toList.map λe=>sOf e.2
structure TxE(es:Array (Int×AA))(zs:List Str):Prop where
 all:∀e∈es.toList,∃x t,e.2= .str x t
 nd:(a7V es).Nodup
 mem:∀x,x∈a7V es↔x∈zs
theorem J8.at'(x:J8 prog w h a es ep)(e:∀o,h.get? a=ξ o->h'.get? a=ξ o):J8 prog w h' a es ep:=
 let ⟨o,t,ho,r⟩:=x;⟨o,t,e _ ho,r⟩
theorem b3o(t:SetTable)(es:Array (Int×AA))(h:Int)(x:AA):(layNew t es h x).2.1.led=t.led:=by
 unfold layNew;split
 ·show(SetTable.orStandIn _ _).led=t.led;unfold SetTable.orStandIn;split<;>rfl
 ·rfl
theorem b1j(t:SetTable)(es:Array (Int×AA))(n:Nat):(relayAll t es n).2.1.led=t.led:=by
 unfold relayAll;split
 ·rename_i t' order e;obtain⟨ow,e1,e2⟩:=bind_some e;cases e2;dsimp only;split<;>rfl
 ·rfl
theorem a8n(t:SetTable)(es:Array (Int×AA))(n:Nat)(hp:t.plain=false):(relayAll t es n).2.1.plain=false:=by
 unfold relayAll;split
 ·rename_i t' order e;obtain⟨ow,e1,e2⟩:=bind_some e;cases e2;dsimp only;split
  ·exact hp
  ·rfl
 ·rfl
section
theorem b40{h:Heap}{a:AB}{o:Obj}{es:Array (Int×AA)}{ep:Nat}{t:SetTable}(ho:h.get? a=ξ o)(hex:o.ExactSet)(hd:o.data= .set es ep t)
 {es':Array (Int×AA)} {t':SetTable} (hel:ElemsOf (m5 prog w) es'.toList) (hb:es'.size<scanBound) (hf:t'.fits es'.size=true) (hl:t'.led= !byT w) (hp:t'.plain=false):
 (h.update a (Obj.putSet es' t')).get? a=ξ {o with data:= .set es' (ep+1) t'}/\J8 prog w (h.update a (Obj.putSet es' t')) a es' (ep+1):=by
 have hg:(h.update a (Obj.putSet es' t')).get? a=ξ {o with data:= .set es' (ep+1) t'}:=by
  have:=Heap.get?_update_self (Obj.putSet es' t') ho (by rw [putSet_of es' t' hd];rfl)
  rw [putSet_of es' t' hd] at this;exact this
 exact⟨hg,_,t',hg,hex,rfl,hel,hb,hf,hl,λ_=>hp⟩
theorem b9i{g:Bool->Sem Unit}(hg:∀(b:Bool) (s₁:AE) (Q':Unit->AE->Prop),Q' () s₁->AG (model prog w) A (g b) Q' E s₁)
 {a:AB} {o:Obj} {es:Array (Int×AA)} {ep:Nat} {t:SetTable} (ho:s.heap.get? a=ξ o) (hex:o.ExactSet) (hd:o.data= .set es ep t)
 {es1:Array (Int×AA)} {t2:SetTable} (hel1:ElemsOf (m5 prog w) es1.toList) (hb1:es1.size<scanBound) (hf2:t2.fits es1.size=true) (hl:t2.led= !byT w) (hpl:t2.plain=false) {wasDummy:Bool} {R:Υ Bool->AE->Prop}
 (h:∀h' es' ep',Heap.SameBut a s.heap h'->es'.toList.Perm es1.toList->J8 prog w h' a es' ep'->R (ξ true) {s with heap:=h'}):
 AG (model prog w) A (do
  storeSet a es1 t2
  if(!wasDummy && t2.tooFull)=true then do
     g (relayAll t2 es1 (SetTable.grown es1.size)).2.2
     storeSet a (relayAll t2 es1 (SetTable.grown es1.size)).1 (relayAll t2 es1 (SetTable.grown es1.size)).2.1
     pure (ξ true)
   else pure (ξ true)) R E s:=by
 refine AC (wpAny_storeSet_of ho hd ?_ (fits_of_scanBound hb1))
 obtain⟨ho1,hS1⟩:=b40 (prog:=prog) (w:=w) ho hex hd hel1 hb1 hf2 hl hpl
 have hsb1:=Heap.SameBut.update s.heap a (Obj.putSet es1 t2)
 split
 ·have hp:=relayAll_perm t2 es1 (SetTable.grown es1.size)
  have hfr:=relayAll_fits t2 es1 (SetTable.grown es1.size)
  have hl2:=b1j t2 es1 (SetTable.grown es1.size)
  have hp2:=a8n t2 es1 (SetTable.grown es1.size) hpl
  generalize hRl:relayAll t2 es1 (SetTable.grown es1.size)=Rl at hp hfr hl2 hp2 ⊢
  obtain⟨es2,t3,gave2⟩:=Rl
  dsimp only at hp hfr hl2 hp2 ⊢
  have hel2:ElemsOf (m5 prog w) es2.toList:=hel1.perm hp
  have hsz:es2.size=es1.size:=by rw [<-Array.length_toList,hp.length_eq,Array.length_toList]
  have hb2:es2.size<scanBound:=by rw [hsz];exact hb1
  refine AC (hg _ _ _ ?_)
  refine AC (wpAny_storeSet_of ho1 rfl ?_ (fits_of_scanBound hb2))
  obtain⟨_,hS2⟩:=b40 (prog:=prog) (w:=w) ho1 hex rfl hel2 hb2 hfr (hl2.trans hl) hp2
  exact AH (h _ _ _ (hsb1.trans (Heap.SameBut.update _ a _)) hp hS2)
 ·exact AH (h _ _ _ hsb1 (List.Perm.refl _) hS1)
theorem TxE.perm(p:es'.toList.Perm es.toList)(T:TxE es zs):TxE es' zs where
 all:=λe he=>T.all e (p.mem_iff.mp he)
 nd:=((p.map _).nodup_iff).mpr T.nd
 mem:=λx=>((p.map _).mem_iff).trans (T.mem x)
theorem c3L(hS:J8 prog w s.heap a es ep)(T:TxE es zs)(hroom:es.size+1<scanBound)
 (h:∀h' es' ep' b,Heap.SameBut a s.heap h'->J8 prog w h' a es' ep'->TxE es' (x::zs)->es'.size<=es.size+1->Q b {s with heap:=h'}):
 AG (model prog w) A (setAddHashed a (.str x tk) ((m5 prog w).hash (.inr x))) Q E s:=by
 obtain⟨o,t,ho,hex,hd,hel,hb,hf,hl,hpl⟩:=hS
 have hsc:(Value.str x tk).scannable=true:=rfl
 have hkey:(m5 prog w).is (.inr x) (.str x tk)=true:=W3 prog w x tk
 unfold setAddHashed setAddHashedIn
 refine wpAny_holding (AC (wpAny_setState_of ho hd hf ?_))
 dsimp only
 rw [byScan_of hsc hb hel]
 simp only [↓reduceIte]
 unfold setAddByScan
 refine AC ?_
 refine AC (wpAny_rule ?_)
 refine AC (wpAny_setScan_of hkey ho hd hf hel ?_)
 cases hr:List.findIdx? (λe=>(m5 prog w).is (.inr x) e.2) es.toList with
 |some j=>
  dsimp only
  obtain⟨hj,hpj,_⟩:=List.findIdx?_eq_some_iff_getElem.mp hr
  have hm:x∈a7V es:=by
   refine Ae.mpr ⟨es.toList[j],List.getElem_mem hj, ?_⟩;rcases w6 (show a4O (.inr x) es.toList[j].2=true from hpj) with⟨i,u,q,_⟩|⟨y,u,q,e2⟩
   ·exact nomatch q
   ·cases q;rw [e2];rfl
  refine AH (AH ?_)
  have e:s={s with heap:=s.heap}:=by cases s;rfl
  rw [e]
  exact h s.heap es ep false (Heap.SameBut.refl a s.heap) ⟨o,t,ho,hex,hd,hel,hb,hf,hl,hpl⟩ ⟨T.all,T.nd,λy=>by
   rw [T.mem y,AX];exact⟨.inr,λz=>z.elim (λz=>by rw [z];exact(T.mem x).mp hm) id⟩⟩ (Nat.le_succ _)
 |none=>
  dsimp only
  have hgw:∀(b:Bool) {s₁:AE} {Q':Unit->AE->Prop},Q' () s₁->AG (model prog w) A (match b with|true=>rule "set.scan.the-table-gave-way"|false=>pure ()) Q' E s₁:=
   λb s₁ Q' hq=>by cases b<;>first|exact AH hq|exact wpAny_rule hq
  have hperm:=layNew_perm t es ((m5 prog w).hash (.inr x)) (.str x tk)
  have hfits:=layNew_fits t es ((m5 prog w).hash (.inr x)) (.str x tk)
  have hled:=b3o t es ((m5 prog w).hash (.inr x)) (.str x tk)
  generalize hL:layNew t es ((m5 prog w).hash (.inr x)) (.str x tk)=L at hperm hfits hled ⊢
  obtain⟨es1,t1,wasDummy,gave⟩:=L
  dsimp only at hperm hfits hled ⊢
  rw [Array.toList_push] at hperm
  have hel1:ElemsOf (m5 prog w) es1.toList:=(hel.push hkey hsc).perm hperm
  have hb1':es1.size<scanBound:=by rw [<-Array.length_toList,hperm.length_eq,Ar,Array.length_toList];simpa using hroom
  have hn:x∉a7V es:=λhm=>by
   obtain⟨e,he,e2⟩:=Ae.mp hm;obtain⟨y,u,ey⟩:=T.all e he;have:=List.findIdx?_eq_none_iff.mp hr e he;rw [ey] at e2 this;cases(show y=x from e2);rw [W3] at this;cases this
  have T1:TxE es1 (x::zs):=by
   refine⟨λe he=> ?_, ?_,λy=> ?_⟩
   ·rcases At.mp (hperm.mem_iff.mp he) with h|h
    ·exact T.all e h
    ·rw [List.mem_singleton] at h;subst h;exact⟨x,tk,rfl⟩
   ·refine((hperm.map _).nodup_iff).mpr ?_;rw [BF];refine List.nodup_append.mpr ⟨T.nd,by simp,λy hy z hz=> ?_⟩
    simp only [AI,Ab,List.mem_singleton] at hz;intro e;subst e;subst hz;exact hn hy
   ·rw [(hperm.map _).mem_iff,BF,At,T.mem y,AX];simp only [AI,Ab,List.mem_singleton];exact⟨λz=>z.elim .inr (λz=> .inl z),λz=>z.elim (λz=> .inr z) .inl⟩
  have hsz1:es1.size=es.size+1:=by rw [<-Array.length_toList,hperm.length_eq,Ar,Array.length_toList];rfl
  refine AC (hgw _ ?_)
  have hend:∀h' es' ep',Heap.SameBut a s.heap h'->es'.toList.Perm es1.toList->J8 prog w h' a es' ep'->Q true {s with heap:=h'}:=λh' es' ep' hsb p hS'=>by
   refine h h' es' ep' true hsb hS' (T1.perm p) ?_;rw [<-Array.length_toList,p.length_eq,Array.length_toList,hsz1];exact AM _
  split
  ·rename_i hpt
   refine AC ?_
   rw [hashByValue_scannable 8 hsc]
   refine AH ?_
   have hpk:plainKind (Value.str x tk)=false:=rfl
   simp only [hpk,Aw,↓reduceIte]
   refine b9i ?_ ho hex hd hel1 hb1' (SetTable.fits_plain_off hfits) (hled.trans hl) rfl ?_
   ·intro b s₁ Q' hq;cases b<;>first|exact AH hq|exact wpAny_rule hq
   ·intro h' es' ep' hsb p hS';dsimp only;exact AH (hend h' es' ep' hsb p hS')
  ·rename_i hpt
   refine AC (AH ?_)
   simp only [↓reduceIte]
   refine b9i ?_ ho hex hd hel1 hb1' hfits (hled.trans hl) (by simpa using hpt) ?_
   ·intro b s₁ Q' hq;cases b<;>first|exact AH hq|exact wpAny_rule hq
   ·intro h' es' ep' hsb p hS';dsimp only;exact AH (hend h' es' ep' hsb p hS')
end
set_option maxHeartbeats 3200000
def b6p(x:Str)(i:Nat):Str:=⟨#[x.cps.getD i 0]⟩
def sgs(x:Str)(i:Nat):List Str:=((AK i).map (b6p x)).reverse
theorem b9c(x:Str)(i:Nat):sgs x (i+1)=b6p x i::sgs x i:=by simp [sgs,List.range_succ]
abbrev a0O(w:AL):Obj:={cls:= .type "set",dict:=ζ,data:= .set #[] 0 (.fresh 0 0 (!byT w))}
section
theorem c2w{R:Result->AE->Prop}{I:AB}{fp wr:List AB}{G:Array GenState->Array GenState->Prop}{n:Nat}{St:Nat->AE->Prop}{x:Str}
 (W:WalksS prog w A.in1 I fp wr G n (SignAt x) St) (S:AB) (hSf:S∉fp) (hb:n+1<scanBound):
 ∀(k i:Nat) (s:AE) (es:Array (Int×AA)) (ep:Nat),n - i=k->i<=n->St i s->J8 prog w s.heap S es ep->TxE es (sgs x i)->es.size<=i->
  (∀s' es' ep',Moved (S::wr) G s s'->J8 prog w s'.heap S es' ep'->TxE es' (sgs x n)->es'.size<=n->R (.ok (.ret .none)) s')->
  codeAny (model prog w) A (.builtin "set.update.loop" ⟨[.ref S,.ref I],[]⟩) R s:=by
 have hSw:S∉wr:=λh=>hSf (W.sub _ h)
 have hsub:∀b∈wr,b∈S::wr:=λb hb=>Ag _ hb
 intro k
 induction k with
 |zero=>
  intro i s es ep hk hi hst hS hT hz hR
  have hin:i=n:=by lia
  subst hin
  refine codeAny_builtin F.entry_set_update_loop ?_
  rw [Around.under_plainId F.plain_set_update_loop _]
  show AG _ A.in1 (pyNext (.ref I)>>=_) _ _ s
  refine AC (W.done s _ _ hst λs' hm=> ?_)
  show AG _ A.in1 (ret Value.none) _ _ s'
  exact AH (hR s' es ep (hm.mono hsub) (hS.at' λo e=>hm.heap S _ hSw e) hT hz)
 |succ k ih=>
  intro i s es ep hk hi hst hS hT hz hR
  have hlt:i<n:=by lia
  refine codeAny_builtin F.entry_set_update_loop ?_
  rw [Around.under_plainId F.plain_set_update_loop _]
  show AG _ A.in1 (pyNext (.ref I)>>=_) _ _ s
  refine AC (W.item i s _ _ hlt hst λv s' hP hst' hm=> ?_)
  obtain⟨c,u,hc,rfl⟩:=hP
  have hS':J8 prog w s'.heap S es ep:=hS.at' λo e=>hm.heap S _ hSw e
  have hsg:(⟨#[c]⟩:Str)=b6p x i:=by unfold b6p;rw [Array.getD_eq_getD_getElem?,hc];rfl
  show AG _ A.in1 (holding [Value.str ⟨#[c]⟩ u] (setAdd S (.str ⟨#[c]⟩ u))>>=_) _ _ s'
  refine AC (wpAny_holding ?_)
  unfold setAdd
  refine wpAny_holding ?_
  refine AC ((m5 prog w).pyHash (k:= .inr ⟨#[c]⟩) (W3 _ _ _ _) ?_)
  refine c3L (s:={s' with toks:=s'.toks+1}) hS' hT (by lia) λh' es' ep' b hsb hS2 hT2 hz2=> ?_
  rw [hsg,<-b9c] at hT2
  refine AH ⟨plainId_quiet F.plain_set_update_loop _,ih (i+1) _ es' ep' (by lia) hlt (W.frame _ s' _ _ hst' (Nat.le_succ _) λb hb o e=> ?_) hS2 hT2 (by lia) λs'' es'' ep'' hm'' hS'' hT'' hz''=> ?_⟩
  ·rw [hsb.2 b (λh:b=S=>hSf (by rw [<-h];exact hb))];exact e
  ·refine hR s'' es'' ep'' (Moved.trans W.gtrans ((hm.mono hsub).then_heap (Nat.le_succ _) λb o hb e=> ?_) hm'') hS'' hT'' hz''
   rw [hsb.2 b (λh:b=S=>hb (by rw [h];exact AZ))];exact e
theorem c36(a:AA)(h:Q₁ (.ref s.heap.objs.size) {s with heap:=s.heap.push (a0O w)}):
 codeAny (model prog w) A (.call (.builtin "set.__new__") ⟨[.type "set",a],[]⟩) (wants Q₁ E) s:=by
 refine codeAny_of_tree ?_
 show AG _ A.in1 (do checkBuiltinCall "set.__new__" ⟨[.type "set",a],[]⟩;again (.builtin "set.__new__" ⟨[.type "set",a],[]⟩)) _ _ s
 refine AC (wpAny_of_eq (F.newCall_set_1 a) (AH ⟨plainId_quiet F.plain_set_new _,codeAny_builtin F.entry_set_new ?_⟩))
 rw [Around.under_plainId F.plain_set_new _]
 unfold Builtin.«set.__new__» Builtin.Frozenset.newClass
 have hsub:=sub_set_self
 obtain⟨hp,g,d,tk,os⟩:=s
 dsimp only
 wp_walk
 refine wpAny_askSetting (AH ?_)
 dsimp only
 simp only [newObj]
 refine AC (wpAny_alloc (AH ?_))
 exact AH h
theorem b2G:isSubtype (.type "str") (.type "set")=pure false:=by rw [isSubtype_type];kernel_rfl
theorem a5g:isSubtype (.type "str") (.type "frozenset")=pure false:=by rw [isSubtype_type];kernel_rfl
theorem c4k(hh:A.handled=ζ)(hb:x.cps.size+1<scanBound)
 (h:∀(h':Heap) (tk:Nat) es ep,J8 prog w h' s.heap.objs.size es ep->TxE es (sgs x x.cps.size)->es.size<=x.cps.size->
  (∀b o,b<s.heap.objs.size->s.heap.get? b=ξ o->h'.get? b=ξ o)->Q (.ref s.heap.objs.size) {s with heap:=h',toks:=tk}):
 AG (model prog w) A (call (.type "set") [.str x t]) Q E s:=by
 obtain⟨c,tl,hmro⟩:=F.called_set.mro
 have hmade:=F.called_set.made
 have hsub:=F.called_set.sub
 refine wpAny_call (codeAny_of_tree ?_)
 show AG _ _ (callAny (.type "set") _) _ _ _
 refine AH ⟨Code.quiet_builtin _ (by decide+kernel),codeAny_builtin F.entry_type_call ?_⟩
 rw [Around.under_plain (weight_type_call_type "set" [.str x t] []) rfl]
 have h1:=F.called_set.notType
 have h2:=F.called_set.canCreate
 have hct:=F.typeCall_set_1 (.str x t)
 repeat (any_goals (first|assumption|wp_step))
 refine codeAny_mono (c36 (.str x t) (E:=E) (Q₁:=λobj s₁=>obj= .ref s.heap.objs.size/\s₁={s with heap:=s.heap.push (a0O w)}) ⟨rfl,rfl⟩) λr s₁ hr=> ?_
 cases r with
 |error e=>exact hr
 |ok fl=>
  cases fl with
  |ret obj=>
   obtain⟨rfl,rfl⟩:=hr
   have hS:(s.heap.push (a0O w)).get? s.heap.objs.size=ξ (a0O w):=Ao _ rfl
   have hT:Shared.TypeIs {s with heap:=s.heap.push (a0O w)} (.ref s.heap.objs.size) "set":=⟨_,hS,rfl⟩
   have hli:=F.called_set.init.lookup
   have hbi:=F.called_set.init.bind (.ref s.heap.objs.size)
   repeat (any_goals (first|assumption|wp_step))
   refine codeAny_mono (codeAny_call_builtin (R:=wants (λr s₂=>r= .none/\∃h' tk es ep,s₂={s with heap:=h',toks:=tk}/\
    J8 prog w h' s.heap.objs.size es ep/\TxE es (sgs x x.cps.size)/\es.size<=x.cps.size/\
    (∀b o,b<s.heap.objs.size->s.heap.get? b=ξ o->h'.get? b=ξ o)) E) F.called_set.init.plain F.entry_set_init (check_set_init_1 hT ?_)) λr₂ s₂ hr₂=> ?_
   ·have hsls:=b2G
    have hslf:=a5g
    have hne:(Value.type "str"==Value.type "dict")=false:=by decide
    unfold Builtin.«set.__init__» noKeywords Builtin.Frozenset.updateFrom
    generalize hPI:pyIter=PI
    wp_walk
    subst hPI
    refine wpAny_pyIter_str λoI St W hst=> ?_
    refine AC (wpAny_runValue ?_)
    have hh3:A.in1.in1.in1.handled=ζ:=by simp [hh]
    have hSf:s.heap.objs.size∉[(s.heap.push (a0O w)).objs.size]:=by
     rw [Heap.size_push,List.mem_singleton];exact Aj (Nat.lt_succ_self _)
    refine c2w ((W _ hh3).toS) s.heap.objs.size hSf hb (x.cps.size - 0) 0 _ #[] 0 (by lia) (Nat.zero_le _) hst ?hS0 ⟨λe he=>by simp at he,by simp [a7V],λy=>by simp [a7V,sgs]⟩ (AM _) ?hR
    case hS0=>
     exact⟨a0O w,_,AY _ hS,⟨rfl,rfl,rfl⟩,rfl,λe he=>by simp at he,by decide,by rfl,rfl,λz=>absurd rfl z⟩
    case hR=>
     intro s' es ep hm hS' hT' hz'
     obtain⟨h',g',d',tk',os'⟩:=s'
     have eg:g'=s.gens:=hm.gens
     have ed:d'=s.drawn:=hm.drawn
     have eo:os'=s.os:=hm.os
     subst eg;subst ed;subst eo
     show AG _ _ _ _ _ _
     refine AH ?_
     show AG _ _ (ret Value.none) _ _ _
     refine AH ⟨rfl,h',tk',es,ep,rfl,hS',hT',hz',λb o hb e=> ?_⟩
     have hb1:b≠s.heap.objs.size:=Aj hb
     have hb2:b≠(s.heap.push (a0O w)).objs.size:=by
      rw [Heap.size_push];exact Aj (Nat.lt_succ_of_lt hb)
     exact hm.heap b o (by simp only [AX,List.mem_singleton,List.not_mem_nil,or_false,not_or];exact⟨hb1,hb2⟩) (AY _ (AY _ e))
   ·cases r₂ with
    |error e=>exact hr₂
    |ok fl₂=>
     cases fl₂ with
     |ret r=>
      obtain⟨rfl,h',tk,es,ep,rfl,hS',hT',hz',hk'⟩:=hr₂
      repeat (any_goals (first|assumption|wp_step))
      exact h _ _ es ep hS' hT' hz' hk'
     |_=>exact hr₂.elim
  |_=>exact hr.elim
end
set_option maxHeartbeats 1000000
theorem v3:Slot "set_iterator" "__next__" "set_iterator.__next__":=
 .of (owner:="set_iterator") (n:="__next__") (by rw [typeLookup_type,builtinLookup_eq_fast];kernel_rfl) (by decide+kernel) (by decide+kernel) (by decide+kernel)
  (by first|exact .inl (by decide+kernel)|exact .inr (by decide+kernel)) (by rw [isSubtype_type];kernel_rfl)
theorem a3Q:Slot "set_iterator" "__iter__" "set_iterator.__iter__":=
 .of (owner:="set_iterator") (n:="__iter__") (by rw [typeLookup_type,builtinLookup_eq_fast];kernel_rfl) (by decide+kernel) (by decide+kernel) (by decide+kernel)
  (by first|exact .inl (by decide+kernel)|exact .inr (by decide+kernel)) (by rw [isSubtype_type];kernel_rfl)
theorem P8:entryFor table "set_iterator.__next__"=ξ Builtin.«set_iterator.__next__»:=entryFor_of_tree (by kernel_rfl)
theorem a7C:entryFor table "set_iterator.__iter__"=ξ Builtin.«dict_keyiterator.__iter__»:=entryFor_alias (id':="dict_keyiterator.__iter__") (by kernel_rfl) rfl (by decide+kernel) (by kernel_rfl)
theorem b0F:entryFor table "set.__iter__"=ξ Builtin.«frozenset.__iter__»:=entryFor_alias (id':="frozenset.__iter__") (by kernel_rfl) rfl (by decide+kernel) (by kernel_rfl)
theorem a93:Manifest.owners.lookup (String.ofList ['r', 'o', 't', 'a', 'r', 'e', 't', 'i', '_', 't', 'e', 's'].reverse)=ξ Manifest.sig_set_iterator:=by kernel_rfl
theorem U2(a:AA):argsOk "set_iterator.__next__" ⟨[a],[]⟩:=by
 unfold argsOk;rw [signature?_of (id:="set_iterator.__next__") (n:=['_', '_', 't', 'x', 'e', 'n', '_', '_']) (o:=['r', 'o', 't', 'a', 'r', 'e', 't', 'i', '_', 't', 'e', 's']) (by kernel_rfl) a93];kernel_rfl
theorem a8S(a:AA):argsOk "set_iterator.__iter__" ⟨[a],[]⟩:=by
 unfold argsOk;rw [signature?_of (id:="set_iterator.__iter__") (n:=['_', '_', 'r', 'e', 't', 'i', '_', '_']) (o:=['r', 'o', 't', 'a', 'r', 'e', 't', 'i', '_', 't', 'e', 's']) (by kernel_rfl) a93];kernel_rfl
def V1(h:Heap)(it:AB)(first:AA)(i:Nat)(a:AB)(n ep:Nat):Prop:=∃o,h.get? it=ξ o/\o.cls= .type "set_iterator"/\o.data= .fields #[first,.int i 0,.ref a,.int n 0,.int ep 0]
theorem V1.typeIs{s:AE}{it:AB}{first:AA}{i:Nat}{a:AB}{n ep:Nat}(x:V1 s.heap it first i a n ep):s.TypeIs (.ref it) "set_iterator":=let ⟨o,ho,hc,_⟩:=x;⟨o,ho,hc⟩
theorem V1.at'(x:V1 h it first i a n ep)(e:∀o,h.get? it=ξ o->h'.get? it=ξ o):V1 h' it first i a n ep:=let ⟨o,ho,r⟩:=x;⟨o,e _ ho,r⟩
theorem a30:∀{l:List α} {i:Nat} (h:i<l.length),(l[i]::l.eraseIdx i).Perm l
 |x::l,0,h=>List.Perm.refl _
 |x::l,i+1,h=>by
  have ih:=a30 (l:=l) (i:=i) (by simpa using h)
  show(l[i]'(by simpa using h)::x::l.eraseIdx i).Perm (x::l)
  exact(List.Perm.swap _ _ _).trans (ih.cons x)
theorem a95(f:Nat->Nat):∀(n k:Nat) (left:List α) (out:Array α),left.length=n->(pickOrder.go f n k left out).toList.Perm (out.toList++left)
 |0,k,left,out,h=>by
  cases left with
  |nil=>rw [An];exact List.Perm.refl _
  |cons a l=>cases h
 |n+1,k,left,out,h=>by
  unfold pickOrder.go;have hlt:f k % left.length<left.length:=Nat.mod_lt _ (by lia)
  rw [Ax hlt];dsimp only;refine(a95 f n (k+1) _ _ (by rw [List.length_eraseIdx];split<;>lia)).trans ?_
  rw [Array.toList_push,List.append_assoc];exact List.Perm.append_left _ (a30 hlt)
theorem a0p(f:Nat->Nat)(xs:Array α):(pickOrder f xs).toList.Perm xs.toList:=by
 have:=a95 f xs.size 0 xs.toList #[] (by simp)
 simpa [pickOrder] using this
section
variable {prog:AS}{w:AL}{A:AU}{E:AA->AE->Prop}{s:AE}{it a:AB}{i ep:Nat}{es:Array (Int×AA)}
theorem b1r(hn:n≠0)(h:∀i,i<n->Q i {s with drawn:=s.drawn.bump src}):AG (model prog w) A (choose src n) Q E s:=
 λ_ _ _=>⟨hn,h _ (Nat.mod_lt _ (Nat.pos_of_ne_zero hn))⟩
theorem a9F:∀(n:Nat) (xs:List α) (s:AE) (Q:List α->AE->Prop),xs.length=n->(∀ys d,ys.Perm xs->Q ys {s with drawn:=d})->AG (model prog w) A (drawOrder n xs) Q E s
 |0,xs,s,Q,h,k=>by
  unfold drawOrder;cases xs with
  |nil=>exact AH (k [] s.drawn (List.Perm.refl _))
  |cons a l=>cases h
 |n+1,[],s,Q,h,k=>by cases h
 |n+1,x::l,s,Q,h,k=>by
  unfold drawOrder;refine AC (b1r (by simp) λi hi=> ?_)
  rw [Ax hi];dsimp only;refine AC (a9F n _ _ _ (by rw [List.length_eraseIdx];split<;>lia) λys d p=> ?_)
  refine AH ?_;exact k _ d ((p.cons _).trans (a30 hi))
theorem b0r(h:Q (byT w) s):AG (model prog w) A setsByText Q E s:=by
 unfold setsByText;exact AC (wpAny_askSetting (AH h))
theorem J8.typeIs(x:J8 prog w s.heap a es ep):s.TypeIs (.ref a) "set":=let ⟨o,_,ho,hc,_⟩:=x;⟨o,ho,hc.1⟩
theorem c1t(hb:byT w=true)(hS:J8 prog w s.heap a es ep)(h:Q (((pickOrder (w.params.setOrder a ep) es)[i]?).map λe=>(e.2,sl)) s):AG (model prog w) A (setNext a sl i ep) Q E s:=by
 obtain⟨o,t,ho,hex,hd,hel,hz,hf,hl,hpl⟩:=hS;unfold setNext;refine AC (wpAny_setState_of ho hd hf ?_);dsimp only;refine AC (b0r ?_);rw [hb];simp only [↓reduceIte,bne_self_eq_false,Aw];unfold setWalk;refine AC (AC (wpAny_setState_of ho hd hf ?_));dsimp only;refine AC (b0r ?_);rw [hb];simp only [↓reduceIte];refine AC (wpAny_askSetting ?_);exact AH (AH h)
theorem a1c(hS:J8 prog w s.heap a es ep)(h:Q es s):AG (model prog w) A (setEntries a) Q E s:=
 let ⟨_,_,ho,_,hd,_,_,hf,_⟩:=hS;wpAny_setEntries_of ho hd hf h
theorem b2y{sl nxt:Nat}{v:AA}{Q:Υ AA->AE->Prop}(hit:V1 s.heap it (.int sl 0) i a es.size ep)(hS:J8 prog w s.heap a es ep)
 (hN:∀(A:AU) (E:AA->AE->Prop) (Q:Υ (AA×Nat)->AE->Prop),Q (ξ (v,nxt)) s->AG (model prog w) A (setNext a sl i ep) Q E s)
 (hQ:∀h',V1 h' it (.int nxt 0) (i+1) a es.size ep->Heap.SameBut it s.heap h'->Q (ξ v) {s with heap:=h'}):AG (model prog w) A (pyNext (.ref it)) Q E s:=by
 obtain⟨o,ho,hc,hd⟩:=id hit
 unfold pyNext
 refine AC (wpAny_attempt (wpAny_callSpecial?_slot (name:=AR "__next__") hit.typeIs v3 (wpAny_call_entry v3 hit.typeIs P8 ?_ (U2 _))))
 unfold Builtin.«set_iterator.__next__»
 refine AC (AH ?_)
 refine AC (wpAny_fieldsOf ho hd ?_)
 show AG _ _ (setEntries a>>=_) _ _ s
 refine AC (a1c hS ?_)
 rw [if_neg (by simp)]
 refine AC (hN _ _ _ ?_)
 dsimp only
 refine AC (wpAny_setField ho hd (by simp) ?_)
 have hg1:=Heap.get?_update_self (Obj.mapFields (·.setIfInBounds 0 (rawInt nxt))) ho (Obj.isFreed_of_fields (Obj.data_mapFields hd _))
 have hd1:=Obj.data_mapFields hd (·.setIfInBounds 0 (rawInt nxt))
 refine AC (wpAny_setField hg1 hd1 (by simp) ?_)
 have hg2:=Heap.get?_update_self (Obj.mapFields (·.setIfInBounds 1 (rawInt ((i:Int)+1)))) hg1 (Obj.isFreed_of_fields (Obj.data_mapFields hd1 _))
 have hd2:=Obj.data_mapFields hd1 (·.setIfInBounds 1 (rawInt ((i:Int)+1)))
 refine AH ⟨_,rfl,AH (hQ _ ⟨_,hg2, ?_, ?_⟩ ((Heap.SameBut.update ..).trans (Heap.SameBut.update ..)))⟩
 ·exact(Obj.cls_mapFields ..).trans ((Obj.cls_mapFields ..).trans hc)
 ·rw [hd2];simp [rawInt]
theorem b4X{sl:Nat}{Q:Υ AA->AE->Prop}(hh:A.handled=ζ)(hit:V1 s.heap it (.int sl 0) i a es.size ep)(hS:J8 prog w s.heap a es ep)
 (hN:∀(A:AU) (E:AA->AE->Prop) (Q:Υ (AA×Nat)->AE->Prop),Q ζ s->AG (model prog w) A (setNext a sl i ep) Q E s)
 (hQ:∀h',Heap.ExtBut it s.heap h'->Q ζ {s with heap:=h'}):AG (model prog w) A (pyNext (.ref it)) Q E s:=by
 obtain⟨o,ho,hc,hd⟩:=id hit
 unfold pyNext
 refine AC (wpAny_attempt (wpAny_callSpecial?_slot (name:=AR "__next__") hit.typeIs v3 (wpAny_call_entry v3 hit.typeIs P8 ?_ (U2 _))))
 unfold Builtin.«set_iterator.__next__»
 refine AC (AH ?_)
 refine AC (wpAny_fieldsOf ho hd ?_)
 show AG _ _ (setEntries a>>=_) _ _ s
 refine AC (a1c hS ?_)
 rw [if_neg (by simp)]
 refine AC (hN _ _ _ ?_)
 dsimp only
 refine AC (wpAny_setField ho hd (by simp) ?_)
 refine AC ?_
 simp only [newExc,newTuple];refine AC (wpAny_newObj_type ?_ (by size_fits))
 refine AC (m:=firstArgMember _ _) (wpAny_of_eq (a:=Value.none) (by first|rfl|(simp only [firstArgMember];rfl)) (wpAny_newObj_type ?_ (by size_fits)))
 simp only [raiseNew];refine AC (wpAny_handled ?_);rw [show A.in1.handled=ζ from hh]
 refine AC (AH (wpAny_throw ?_));refine AC (wpAny_isInstance (T:="StopIteration") (b:=true) ⟨_,Ao _ rfl,rfl⟩ isSubtype_stop ?_)
 exact AH (hQ _ (((Heap.SameBut.update ..).extBut.push _).push _))
theorem b6q{ft:AB}{ps:List Nat}{pl:Nat}{v:Int×AA}{Q:Υ AA->AE->Prop}(hit:V1 s.heap it (.ref ft) i a es.size ep)(hS:J8 prog w s.heap a es ep)(hf:IsTup s.heap ft (ps.map λi:Nat=>rawInt i).toArray)
 (hp:ps[i]?=ξ pl) (hv:es[pl]?=ξ v)
 (hQ:∀h',V1 h' it (.ref ft) (i+1) a es.size ep->Heap.SameBut it s.heap h'->Q (ξ v.2) {s with heap:=h'}):AG (model prog w) A (pyNext (.ref it)) Q E s:=by
 obtain⟨o,ho,hc,hd⟩:=id hit
 obtain⟨oq,tq,hoq,hexq,hdq,helq,hzq,hfq,hlq,hplq⟩:=id hS
 obtain⟨of,hof,hcf,nf,hdf⟩:=id hf
 unfold pyNext
 refine AC (wpAny_attempt (wpAny_callSpecial?_slot (name:=AR "__next__") hit.typeIs v3 (wpAny_call_entry v3 hit.typeIs P8 ?_ (U2 _))))
 unfold Builtin.«set_iterator.__next__»
 refine AC (AH ?_)
 refine AC (wpAny_fieldsOf ho hd ?_)
 show AG _ _ (setEntries a>>=_) _ _ s
 refine AC (a1c hS ?_)
 rw [if_neg (by simp)]
 show AG _ _ (seqItems? (.ref ft)>>=_) _ _ s
 refine AC (wpAny_seqItems hof hdf ?_)
 have hg:((ps.map λi:Nat=>rawInt i).toArray)[i]?=ξ (rawInt pl):=by
  rw [List.getElem?_toArray,Ak,hp];rfl
 dsimp only
 rw [show((i:Int).toNat)=i from BH i,hg]
 show AG _ _ (setNextDrawn a ((pl:Int).toNat) ((ep:Int).toNat)>>=_) _ _ s
 unfold setNextDrawn
 refine AC (AC (wpAny_setState_of hoq hdq hfq ?_))
 dsimp only
 rw [show((ep:Int).toNat)=ep from BH ep,show((pl:Int).toNat)=pl from BH pl,hv]
 simp only [bne_self_eq_false,Aw,↓reduceIte]
 refine AH ?_
 refine AC (wpAny_setField ho hd (by simp) ?_)
 have hg1:=Heap.get?_update_self (Obj.mapFields (·.setIfInBounds 1 (rawInt ((i:Int)+1)))) ho (Obj.isFreed_of_fields (Obj.data_mapFields hd _))
 have hd1:=Obj.data_mapFields hd (·.setIfInBounds 1 (rawInt ((i:Int)+1)))
 refine AH ⟨_,rfl,AH (hQ _ ⟨_,hg1, ?_, ?_⟩ (Heap.SameBut.update ..))⟩
 ·exact(Obj.cls_mapFields ..).trans hc
 ·rw [hd1];simp [rawInt]
theorem b9d{ft:AB}{ps:List Nat}{Q:Υ AA->AE->Prop}(hh:A.handled=ζ)(hit:V1 s.heap it (.ref ft) i a es.size ep)(hS:J8 prog w s.heap a es ep)(hf:IsTup s.heap ft (ps.map λi:Nat=>rawInt i).toArray)
 (hp:ps[i]?=ζ)
 (hQ:∀h',Heap.ExtBut it s.heap h'->Q ζ {s with heap:=h'}):AG (model prog w) A (pyNext (.ref it)) Q E s:=by
 obtain⟨o,ho,hc,hd⟩:=id hit
 obtain⟨of,hof,hcf,nf,hdf⟩:=id hf
 unfold pyNext
 refine AC (wpAny_attempt (wpAny_callSpecial?_slot (name:=AR "__next__") hit.typeIs v3 (wpAny_call_entry v3 hit.typeIs P8 ?_ (U2 _))))
 unfold Builtin.«set_iterator.__next__»
 refine AC (AH ?_)
 refine AC (wpAny_fieldsOf ho hd ?_)
 show AG _ _ (setEntries a>>=_) _ _ s
 refine AC (a1c hS ?_)
 rw [if_neg (by simp)]
 show AG _ _ (seqItems? (.ref ft)>>=_) _ _ s
 refine AC (wpAny_seqItems hof hdf ?_)
 have hg:((ps.map λi:Nat=>rawInt i).toArray)[i]?=ζ:=by
  rw [List.getElem?_toArray,Ak,hp];rfl
 dsimp only
 rw [show((i:Int).toNat)=i from BH i,hg]
 dsimp only
 refine AC (wpAny_setField ho hd (by simp) ?_)
 have hg1:=Heap.get?_update_self (Obj.mapFields (·.setIfInBounds 0 (rawInt 0))) ho (Obj.isFreed_of_fields (Obj.data_mapFields hd _))
 have hd1:=Obj.data_mapFields hd (·.setIfInBounds 0 (rawInt 0))
 refine AC (wpAny_setField hg1 hd1 (by simp) ?_)
 refine AC ?_
 simp only [newExc,newTuple];refine AC (wpAny_newObj_type ?_ (by size_fits))
 refine AC (m:=firstArgMember _ _) (wpAny_of_eq (a:=Value.none) (by first|rfl|(simp only [firstArgMember];rfl)) (wpAny_newObj_type ?_ (by size_fits)))
 simp only [raiseNew];refine AC (wpAny_handled ?_);rw [show A.in1.handled=ζ from hh]
 refine AC (AH (wpAny_throw ?_));refine AC (wpAny_isInstance (T:="StopIteration") (b:=true) ⟨_,Ao _ rfl,rfl⟩ isSubtype_stop ?_)
 exact AH (hQ _ ((((Heap.SameBut.update ..).trans (Heap.SameBut.update ..)).extBut.push _).push _))
theorem a8C(hit:V1 s.heap it first i a n ep)(h:Q (.ref it) s):AG (model prog w) A (pyIter (.ref it)) Q E s:=by
 refine wpAny_pyIter_slot hit.typeIs a3Q (wpAny_call_entry a3Q hit.typeIs a7C ?_ (a8S _));show AG _ _ (ret (.ref it)) _ _ s;exact AH ⟨_,rfl,"set_iterator",_,hit.typeIs,v3.lookup,h⟩
end
section
variable {prog:AS}{w:AL}{A:AU}{E:AA->AE->Prop}{s:AE}{a:AB}{ep:Nat}{es:Array (Int×AA)}
def PlX(h:Heap)(a:AB)(es:Array (Int×AA))(ep:Nat)(pl:Array Nat):Prop:=∃o t,h.get? a=ξ o/\o.data= .set es ep t/\t.place=pl
theorem b8u(hb:byT w=false)(hS:J8 prog w s.heap a es ep)(hP:PlX s.heap a es ep pl)(h1:es.size<=1)
 (h:Q (match es[SetTable.below pl sl]?,pl[SetTable.below pl sl]? with|some (_,x),ξ j=>ξ (x,j+1)|_,_=>ζ) s):AG (model prog w) A (setNext a sl i ep) Q E s:=by
 obtain⟨o,t,ho,hex,hd,hel,hz,hf,hl,hpl⟩:=hS
 obtain⟨o',t',ho',hd',ep'⟩:=hP
 rw [ho] at ho';cases ho'
 rw [hd] at hd';cases hd'
 subst ep'
 rw [hb] at hl
 unfold setNext
 refine AC (wpAny_setState_of ho hd hf ?_)
 dsimp only
 refine AC (b0r ?_)
 rw [hb]
 simp only [Aw,↓reduceIte]
 show AG _ _ (if(!t.plain && decide (es.size>1))=true then _ else _) _ _ s
 rw [if_neg (by simp;lia)]
 show AG _ _ ((if(!t.led && !es.isEmpty)=true then _ else _)>>=_) _ _ s
 rw [hl]
 refine AC (AH ?_)
 exact AH h
theorem c1N(j:Nat):SetTable.below #[j] 0=0:=by simp [SetTable.below,SetTable.below.go]
theorem c1O(j:Nat):SetTable.below #[j] (j+1)=1:=by simp [SetTable.below,SetTable.below.go]
theorem c3B(hb:byT w=true)(hh:A.handled=ζ)(I:AB)(hne:a≠I):Walks prog w A I [I,a] [I] es.size (λi v=>((pickOrder (w.params.setOrder a ep) es).toList.map (·.2))[i]?=ξ v) (λi h=>V1 h I (.int (0:Nat) 0) i a es.size ep/\J8 prog w h a es ep) where
 sub:=λb hb=>by simp at hb;simp [hb]
 frame:=λ_ _ _ st hk=>⟨st.1.at' λo e=>hk I (by simp) o e,st.2.at' λo e=>hk a (by simp) o e⟩
 item:=λi s Q E hi st hQ=>by
  have hz:(pickOrder (w.params.setOrder a ep) es).size=es.size:=by
   have:=(a0p (w.params.setOrder a ep) es).length_eq
   simpa using this
  have hi':i<(pickOrder (w.params.setOrder a ep) es).size:=by lia
  refine b2y (nxt:=0) (v:=(pickOrder (w.params.setOrder a ep) es)[i].2) st.1 st.2 (λA E Q q=>c1t hb st.2 (by rw [getElem?_pos _ i hi'];exact q)) λh' hit' hs'=>hQ _ h' s.toks ?_ ⟨hit',st.2.at' λo e=>hs'.extBut a o hne e⟩ λb o hb e=>hs'.extBut b o (λh=>hb (by simp [h])) e
  rw [Ak,Array.getElem?_toList,getElem?_pos _ i hi'];rfl
 done:=λs Q E st hQ=>by
   have hz:(pickOrder (w.params.setOrder a ep) es).size=es.size:=by
    have:=(a0p (w.params.setOrder a ep) es).length_eq
    simpa using this
   exact b4X hh st.1 st.2 (λA E Q q=>c1t hb st.2 (by rw [getElem?_neg _ es.size (by lia)];exact q)) λh' he'=>hQ h' s.toks λb o hb e=>he' b o (λh=>hb (by simp [h])) e
 self:=λ_ _ _ _ st hQ=>a8C st.1 hQ
theorem c3z(hb:byT w=false)(h1:es.size<=1)(hh:A.handled=ζ)(I:AB)(hne:a≠I)(hp:pl.size=es.size):
 Walks prog w A I [I,a] [I] es.size (λi v=>(es.toList.map (·.2))[i]?=ξ v) (λi h=>∃sl:Nat,V1 h I (.int sl 0) i a es.size ep/\J8 prog w h a es ep/\PlX h a es ep pl/\(i=0->sl=0)/\(i≠0->sl=pl.getD 0 0+1)) where
 sub:=λb hb=>by simp at hb;simp [hb]
 frame:=λ_ _ _ ⟨sl,st1,st2,⟨o,t,ho,r⟩,st4,st5⟩ hk=>⟨sl,st1.at' λo e=>hk I (by simp) o e,st2.at' λo e=>hk a (by simp) o e,⟨o,t,hk a (by simp) o ho,r⟩,st4,st5⟩
 item:=λi s Q E hi ⟨sl,st1,st2,st3,st4,st5⟩ hQ=>by
  have hi0:i=0:=by lia
  subst hi0;cases st4 rfl;have hs1:es.size=1:=by lia
  obtain⟨j,rfl⟩:∃j,pl= #[j]:=by
   obtain⟨l⟩:=pl;cases l with
   |nil=>simp at hp;lia
   |cons j l=>
    cases l with
    |nil=>exact⟨j,rfl⟩
    |cons k l=>simp at hp;lia
  have h0:0<es.size:=by lia
  refine b2y (nxt:=j+1) (v:=es[0].2) st1 st2 (λA E Q q=>b8u hb st2 st3 h1 (by rw [c1N,getElem?_pos _ 0 h0];exact q)) λh' hit' hs'=>hQ _ h' s.toks ?_ ⟨j+1,hit',st2.at' λo e=>hs'.extBut a o hne e, ?_,λz=>absurd z (Nat.succ_ne_zero 0),λ_=>rfl⟩ λb o hb e=>hs'.extBut b o (λh=>hb (by simp [h])) e
  ·rw [Ak,Array.getElem?_toList,getElem?_pos _ 0 h0];rfl
  ·obtain⟨o,t,ho,r⟩:=st3;exact⟨o,t,hs'.extBut a o hne ho,r⟩
 done:=λs Q E ⟨sl,st1,st2,st3,st4,st5⟩ hQ=>by
   refine b4X hh st1 st2 (λA E Q q=>b8u hb st2 st3 h1 ?_) λh' he'=>hQ h' s.toks λb o hb e=>he' b o (λh=>hb (by simp [h])) e
   by_cases h0:es.size=0
   ·have e0:es[SetTable.below pl sl]?=ζ:=getElem?_neg _ _ (by lia)
    rw [e0];exact q
   ·cases st5 h0;obtain⟨j,rfl⟩:∃j,pl= #[j]:=by
     obtain⟨l⟩:=pl;cases l with
     |nil=>simp at hp;lia
     |cons j l=>
      cases l with
      |nil=>exact⟨j,rfl⟩
      |cons k l=>simp at hp;lia
    have e1:SetTable.below #[j] ((#[j]:Array Nat).getD 0 0+1)=1:=c1O j;rw [e1,getElem?_neg _ 1 (by lia)];exact q
 self:=λ_ _ _ _ ⟨_,st,_⟩ hQ=>a8C st hQ
theorem c3A(hh:A.handled=ζ)(I ft:AB)(hne:a≠I)(hnf:ft≠I){ps:List Nat}(hp:ps.Perm (AK es.size)):
 Walks prog w A I [I,a,ft] [I] es.size (λi v=>(ps.map λp:Nat=>(es[p]?.map (·.2)).getD .none)[i]?=ξ v) (λi h=>V1 h I (.ref ft) i a es.size ep/\J8 prog w h a es ep/\IsTup h ft (ps.map λi:Nat=>rawInt i).toArray) where
 sub:=λb hb=>by simp at hb;simp [hb]
 frame:=λ_ _ _ ⟨st1,st2,⟨o,ho,r⟩⟩ hk=>⟨st1.at' λo e=>hk I (by simp) o e,st2.at' λo e=>hk a (by simp) o e,⟨o,hk ft (by simp) o ho,r⟩⟩
 item:=λi s Q E hi ⟨st1,st2,st3⟩ hQ=>by
  have hl:ps.length=es.size:=by have:=hp.length_eq;simpa using this
  have hi':i<ps.length:=by lia
  have hm:ps[i]<es.size:=List.mem_range.mp (hp.mem_iff.mp (List.getElem_mem hi'));refine b6q (pl:=ps[i]) (v:=es[ps[i]]) st1 st2 st3 (Ax hi') (getElem?_pos es ps[i] hm) λh' hit' hs'=>hQ _ h' s.toks ?_ ⟨hit',st2.at' λo e=>hs'.extBut a o hne e, ?_⟩ λb o hb e=>hs'.extBut b o (λh=>hb (by simp [h])) e
  ·rw [Ak,Ax hi',BB,getElem?_pos es ps[i] hm];rfl
  ·obtain⟨o,ho,r⟩:=st3;exact⟨o,hs'.extBut ft o hnf ho,r⟩
 done:=λs Q E ⟨st1,st2,st3⟩ hQ=>by
   have hl:ps.length=es.size:=by have:=hp.length_eq;simpa using this
   exact b9d hh st1 st2 st3 (List.getElem?_eq_none (by lia)) λh' he'=>hQ h' s.toks λb o hb e=>he' b o (λh=>hb (by simp [h])) e
 self:=λ_ _ _ _ st hQ=>a8C st.1 hQ
theorem b2q{es:Array (Int×AA)}{ps:List Nat}(hp:ps.Perm (AK es.size)):(ps.map λp:Nat=>(es[p]?.map (·.2)).getD .none).Perm (es.toList.map (·.2)):=by
 refine(hp.map _).trans ?_;have:(AK es.size).map (λp:Nat=>(es[p]?.map (·.2)).getD .none)=es.toList.map (·.2):=by
  apply List.ext_getElem
  ·simp
  ·intro i h1 h2;simp only [AN,Av] at h1;simp [h1]
 rw [this]
theorem b9X(hS:J8 prog w s.heap a es ep)(h:∀t:SetTable,(es.size≠0->t.plain=false)->Q (!byT w &&(!t.plain && decide (es.size>1))) s):AG (model prog w) A (setDrawn a) Q E s:=by
 obtain⟨o,t,ho,hex,hd,hel,hz,hf,hl,hpl⟩:=hS;unfold setDrawn;refine AC (wpAny_setState_of ho hd hf ?_);dsimp only;refine AC (b0r ?_);exact AH (h t hpl)
theorem b4f(hS:J8 prog w s.heap a es ep)(h:Q ep s):AG (model prog w) A (setEpoch a) Q E s:=
 let ⟨_,_,ho,_,hd,_,_,hf,_⟩:=hS;wpAny_setEpoch_of ho hd hf h
theorem c2j{Q:AA->AE->Prop}(hS:J8 prog w s.heap a es ep)
 (h:∀(h':Heap) d I fp (St:Nat->Heap->Prop) (ord:List AA),(∀b o,s.heap.get? b=ξ o->h'.get? b=ξ o)->s.heap.objs.size<=I->(∀b∈fp,s.heap.objs.size<=b\/b=a)->ord.Perm (es.toList.map (·.2))->
  (∀A':AU,A'.handled=ζ->Walks prog w A' I fp [I] es.size (λi v=>ord[i]?=ξ v) St)->St 0 h'->Q (.ref I) {s with heap:=h',drawn:=d}):AG (model prog w) A (pyIter (.ref a)) Q E s:=by
 have hlt:a<s.heap.objs.size:=let ⟨_,_,ho,_⟩:=hS;Ac ho
 refine wpAny_pyIter_slot hS.typeIs F.slot_set_iter (wpAny_call_entry F.slot_set_iter hS.typeIs b0F ?_ (F.args_set_iter_1 _))
 unfold Builtin.«frozenset.__iter__»
 refine AC (AH ?_)
 show AG _ _ (Builtin.Frozenset.sizeOf a>>=_) _ _ s
 unfold Builtin.Frozenset.sizeOf
 refine AC (AC (a1c hS (AH ?_)))
 refine AC (b9X hS λt ht=> ?_)
 by_cases hd:(!byT w &&(!t.plain && decide (es.size>1)))=true
 ·rw [if_pos hd]
  simp only [χ,Bool.not_eq_true',decide_eq_true_eq] at hd
  refine AC (a9F es.size (AK es.size) s _ (by simp) λps d hp=> ?_)
  simp only [newTuple]
  refine AC (wpAny_newObj_type ?_ ?_)
  ·have hk:∀b o,s.heap.get? b=ξ o->(s.heap.push {cls:= .type "tuple",data:= .seq (ps.map λi:Nat=>rawInt i).toArray}).get? b=ξ o:=λb o e=>AY _ e
   refine AC (b4f (hS.at' λo e=>hk a o e) ?_)
   simp only [newFields]
   refine AC (wpAny_newObj_type ?_ (by size_fits))
   refine AH ⟨_,rfl,"set_iterator",_,⟨_,Ao _ rfl,rfl⟩,v3.lookup, ?_⟩
   refine h _ d _ [s.heap.objs.size+1,a,s.heap.objs.size] (λi h=>V1 h (s.heap.objs.size+1) (.ref s.heap.objs.size) i a es.size ep/\J8 prog w h a es ep/\IsTup h s.heap.objs.size (ps.map λi:Nat=>rawInt i).toArray) _ (λb o e=>AY _ (hk b o e)) (by rw [Heap.size_push];exact Nat.le_succ _) (λb hb=> ?_) (b2q hp) (λA' hA=> ?_) ?_
   rotate_left
   ·have:=c3A (prog:=prog) (w:=w) (ep:=ep) hA (s.heap.objs.size+1) s.heap.objs.size (Aj (Nat.lt_succ_of_lt hlt)) (Aj (Nat.lt_succ_self _)) hp
    rw [Heap.size_push]
    exact this
   ·have e1:(s.heap.push {cls:= .type "tuple",data:= .seq (ps.map λi:Nat=>rawInt i).toArray}).objs.size=s.heap.objs.size+1:=Heap.size_push ..
    refine⟨⟨{cls:= .type "set_iterator",data:= .fields [.ref s.heap.objs.size,rawInt 0,.ref a,rawInt es.size,rawInt ep].toArray}, ?_,rfl,rfl⟩,hS.at' λo e=>AY _ (hk a o e),_,AY _ (Ao _ rfl),rfl,_,rfl⟩
    rw [<-e1]
    exact Ao _ rfl
   ·simp only [AX,List.not_mem_nil,or_false] at hb
    rcases hb with rfl|rfl|rfl
    ·exact .inl (Nat.le_succ _)
    ·exact .inr rfl
    ·exact .inl (AM _)
  ·have hz:es.size<scanBound:=let ⟨_,_,_,_,_,_,hz,_⟩:=hS;hz
   have hl:ps.length=es.size:=by have:=hp.length_eq;simpa using this
   have hsl:=sizeLine_eq
   unfold scanBound at hz
   show(ps.map λi:Nat=>rawInt i).toArray.size<=AQ
   simp [hl]
   lia
 ·rw [if_neg hd]
  refine AC (AH ?_)
  refine AC (b4f hS ?_)
  simp only [newFields]
  refine AC (wpAny_newObj_type ?_ (by size_fits))
  refine AH ⟨_,rfl,"set_iterator",_,⟨_,Ao _ rfl,rfl⟩,v3.lookup, ?_⟩
  have hit:V1 (s.heap.push {cls:= .type "set_iterator",data:= .fields [rawInt 0,rawInt 0,.ref a,rawInt es.size,rawInt ep].toArray}) s.heap.objs.size (.int (0:Nat) 0) 0 a es.size ep:=⟨_,Ao _ rfl,rfl,rfl⟩
  have hS':=hS.at' (h':=s.heap.push {cls:= .type "set_iterator",data:= .fields [rawInt 0,rawInt 0,.ref a,rawInt es.size,rawInt ep].toArray}) λo e=>AY _ e
  have hfp:∀b∈[s.heap.objs.size,a],s.heap.objs.size<=b\/b=a:=λb hb=>by
   simp only [AX,List.not_mem_nil,or_false] at hb;rcases hb with rfl|rfl
   ·exact .inl (AM _)
   ·exact .inr rfl
  cases hb:byT w with
  |true=>exact h _ s.drawn _ [s.heap.objs.size,a] _ _ (λb o e=>AY _ e) (AM _) hfp ((a0p (w.params.setOrder a ep) es).map _) (λA' hA=>c3B hb hA _ (Aj hlt)) ⟨hit,hS'⟩
  |false=>
   have h1:es.size<=1:=by
    rw [hb] at hd
    by_cases hz:es.size<=1
    ·exact hz
    ·exfalso
     rw [ht (by lia)] at hd
     simp at hd
     lia
   obtain⟨o,t',ho,hex,hdd,hel,hzz,hf,hl,hpl⟩:=id hS
   have hps:t'.place.size=es.size:=by
    simp only [SetTable.fits,χ,beq_iff_eq] at hf;exact hf.1
   exact h _ s.drawn _ [s.heap.objs.size,a] _ _ (λb o e=>AY _ e) (AM _) hfp (List.Perm.refl _) (λA' hA=>c3z hb h1 hA _ (Aj hlt) hps) ⟨0,hit,hS',⟨o,t',AY _ ho,hdd,rfl⟩,λ_=>rfl,λz=>absurd rfl z⟩
theorem b7I(hT:s.TypeIs (.ref r) "set")(h:Q false s):AG (model prog w) A (Builtin.List.listLengthHint (.ref r)) Q E s:=by
 unfold Builtin.List.listLengthHint;refine AC (wpAny_specialOf hT PySem.F.slot_set_len.lookup ?_);generalize hid:("set.__len__":String)=id0
 wp_delta
 rw [show splitId id0=ξ ("set","__len__") from by subst hid;decide+kernel]
 subst hid;refine AC (wpAny_isInstance (T:="set") (b:=true) hT (by rw [isSubtype_type];kernel_rfl) ?_)
 refine wpAny_ite_split (λhab=>absurd hab (by decide)) (λ_=> ?_)
 refine wpAny_ite_split (λ_=> ?_) (λhab=>absurd (by decide+kernel) hab)
 refine AC (wpAny_typeOf hT ?_);exact AH h
theorem b5k(hh:A.handled=ζ)(hS:J8 prog w s.heap a es ep)
 (hQ:∀h' tk d ord,(∀b o,s.heap.get? b=ξ o->h'.get? b=ξ o)->ord.Perm (es.toList.map (·.2))->Q ord {s with heap:=h',toks:=tk,drawn:=d}):AG (model prog w) A (collect (.ref a)) Q E s:=by
 have hlt:a<s.heap.objs.size:=let ⟨_,_,ho,_⟩:=hS;Ac ho
 have hn:es.size<=AQ:=by
  have hz:es.size<scanBound:=let ⟨_,_,_,_,_,_,hz,_⟩:=hS;hz;have hsl:=sizeLine_eq;unfold scanBound at hz
  lia
 unfold collect
 refine AC (wpAny_runValue (codeAny_builtin F.entry_proto_collect ?_));rw [Around.under_plainId F.plain_proto_collect _]
 show AG _ A.in1 (newList []>>=λl=>again (.builtin "list.__iadd__" ⟨[l,.ref a],[]⟩)) _ _ s;refine AC (wpAny_newObj_type ?_)
 refine AH ⟨plainId_quiet F.plain_list_iadd _,codeAny_builtin F.entry_list_iadd ?_⟩;rw [Around.under_plainId F.plain_list_iadd _]
 show AG _ A.in1 (Builtin.List.listExtendWith (.ref s.heap.objs.size) (.ref a) (.ref s.heap.objs.size)) _ _ _
 have hS0:(s.heap.push {cls:= .type "list",data:= .seq ([]:List AA).toArray}).get? s.heap.objs.size=ξ {cls:= .type "list",data:= .seq ([]:List AA).toArray}:=Ao _ rfl
 have hSX:=hS.at' (h':=s.heap.push {cls:= .type "list",data:= .seq ([]:List AA).toArray}) λo e=>AY _ e
 have hk0:∀b o,s.heap.get? b=ξ o->(s.heap.push {cls:= .type "list",data:= .seq ([]:List AA).toArray}).get? b=ξ o:=λb o e=>AY _ e
 have hsz:(s.heap.push {cls:= .type "list",data:= .seq ([]:List AA).toArray}).objs.size=s.heap.objs.size+1:=Heap.size_push ..
 generalize hH:s.heap.push {cls:= .type "list",data:= .seq ([]:List AA).toArray}=H at hS0 hSX hk0 hsz ⊢
 unfold Builtin.List.listExtendWith
 refine AC (wpAny_typeOf (T:="set") hSX.typeIs ?_)
 have hne:s.heap.objs.size≠a:=Nat.ne_of_gt hlt
 have h1:Builtin.List.listSameRef (.ref s.heap.objs.size) (.ref a)=false:=by simp [Builtin.List.listSameRef,hne]
 have h2:(Value.type "set"==Value.type "list")=false:=by decide
 have h3:(Value.type "set"==Value.type "tuple")=false:=by decide
 simp only [h1,h2,h3,Bool.or_false,Aw,if_false]
 refine AC (c2j hSX λh' d I fp St ord hk hI hfp hp W hst=> ?_)
 refine AC (wpAny_holding (b7I (hSX.at' λo e=>hk _ _ e).typeIs ?_))
 have hSf:s.heap.objs.size∉fp:=λhb=>by
  rcases hfp _ hb with h|h
  ·rw [hsz] at h;exact absurd h (Nat.not_le.mpr (Nat.lt_succ_self _))
  ·exact hne h
 have hIlt:s.heap.objs.size<I:=by
  have hI':s.heap.objs.size+1<=I:=by rw [<-hsz];exact hI
  exact hI'
 have key:∀(h2:Heap) (c₁:Nat),St 0 h2->(∀b o,b≠s.heap.objs.size->s.heap.get? b=ξ o->h2.get? b=ξ o)->h2.get? s.heap.objs.size=ξ {cls:= .type "list",data:= .seq #[] c₁}->
  codeAny (model prog w) A (.builtin "list.extend.loop" ⟨[.ref s.heap.objs.size,.ref I,.ref s.heap.objs.size],[]⟩) (λr s'=>match r with| .ok (.ret v)=>AG (model prog w) A (match v with| .ref a=>(do let o<-load a;match o.data with| .seq xs _=>pure xs.toList|_=>unsupported "internal:collect")|_=>unsupported "internal:collect") Q E s'| .ok _=>False| .error e=>E e s') {s with heap:=h2,drawn:=d}:=by
  intro h2 c₁ hst2 hk2 hS2
  refine codeAny_extend_loopS (W A.in1 hh).toS hn s.heap.objs.size hSf _ es.size 0 _ #[] c₁ rfl (Nat.zero_le _) hst2 hS2 (ItemsOf.nil _) λs' acc' c' hm hS' hacc=> ?_
  show AG _ A (load s.heap.objs.size>>=_) _ _ _
  refine AC (wpAny_load hS' ?_)
  have e:acc'.toList=ord:=by
   have hl:ord.length=es.size:=by have:=hp.length_eq;simpa using this
   apply List.ext_getElem?;intro j
   by_cases hj:j<acc'.size
   ·have h1:j<acc'.size:=hj;have:=hacc.2 j acc'[j] (by simp [h1])
    rw [this,Array.getElem?_toList,getElem?_pos acc' j h1]
   ·rw [Array.getElem?_toList,getElem?_neg acc' j hj,List.getElem?_eq_none (by rw [hl,<-hacc.1];lia)]
  refine AH ?_
  obtain⟨h3,g3,d3,tk3,os3⟩:=s'
  have eg:g3=s.gens:=hm.gens
  have ed:d3=d:=hm.drawn
  have eo:os3=s.os:=hm.os
  subst eg;subst ed;subst eo
  show Q acc'.toList _
  rw [e]
  refine hQ h3 tk3 d3 ord (λb o q=> ?_) hp
  have hblt:=Ac q
  refine hm.heap b o (λhb=> ?_) (hk2 b o (Aj hblt) q)
  rcases AX.mp hb with h|h
  ·exact absurd hblt (by rw [h];exact Nat.lt_irrefl _)
  ·rw [List.mem_singleton.mp h] at hblt;exact absurd hblt (Nat.not_lt.mpr (BG hIlt))
 refine wpAny_ite_split (λ_=> ?_) (λ_=>AH ⟨plainId_quiet PySem.F.plain_extend_loop _,key _ _ hst (λb o hb q=>hk _ _ (hk0 _ _ q)) (hk _ _ hS0)⟩)
 refine AC (wpAny_rule ?_)
 refine AC ?_
 show AG _ _ (updateSeq s.heap.objs.size (·.push .none)>>=λ_=>updateSeq s.heap.objs.size (·.pop)) _ _ _
 have hS1:=hk _ _ hS0
 refine AC (wpAny_updateSeq hS1 rfl ?_)
 have hS₂:=Heap.get?_update_self (Obj.mapSeq (·.push Value.none)) hS1 rfl
 refine wpAny_updateSeq (hz:=by seq_fits) hS₂ rfl ?_
 have hS₃:=Heap.get?_update_self (Obj.mapSeq (·.pop)) hS₂ rfl
 refine AH ⟨plainId_quiet PySem.F.plain_extend_loop _,key _ _ ?_ (λb o hb e=> ?_) hS₃⟩
 ·refine(W A.in1 hh).frame 0 _ _ hst λb hb o e=> ?_
  have hbS:b≠s.heap.objs.size:=λh=>hSf (h▸hb)
  exact(Heap.get?_update_other _ _ (Ne.symm hbS)).trans ((Heap.get?_update_other _ _ (Ne.symm hbS)).trans e)
 ·exact(Heap.get?_update_other _ _ (Ne.symm hb)).trans ((Heap.get?_update_other _ _ (Ne.symm hb)).trans (hk _ _ (hk0 _ _ e)))
theorem a6B{l:AB}{C:List AA->Prop}{Q:AA->AE->Prop}
 (hcol:∀(Q':List AA->AE->Prop) (E':AA->AE->Prop),(∀h1 tk d vs,(∀b o,s.heap.get? b=ξ o->h1.get? b=ξ o)->C vs->Q' vs {s with heap:=h1,toks:=tk,drawn:=d})->AG (model prog w) A.in1 (collect (.ref l)) Q' E' s)
 (hC:∀vs,C vs->vs.length<64/\∃ss,StrsAre vs ss)
 (h:∀(h1 h':Heap) (tk:Tok) d (e:Nat) (vs us:List AA) (ss:List Str),(∀b o',s.heap.get? b=ξ o'->h1.get? b=ξ o')->(∀b o',h1.get? b=ξ o'->h'.get? b=ξ o')->C vs->StrsAre vs ss->StrsAre us (a0v ss)->
  h'.get? h1.objs.size=ξ (seqObj "list" us.toArray e)->Q (.ref h1.objs.size) {s with heap:=h',toks:=tk,drawn:=d}):
 AG (model prog w) A (call (.builtin "sorted") [.ref l]) Q E s:=by
 refine Calls.call_function_entry kind_sorted plain_sorted entry_sorted (args_sorted1 _) ?_
 unfold Builtin.«sorted»
 refine AC (m:=checkCount "sorted" 1 1 _) (AH ?_)
 refine AC (hcol _ _ λh1 tk d vs k1 hv=> ?_)
 obtain⟨h64,ss,hS⟩:=hC vs hv
 refine AC (wpAny_newList ?_ (by rw [sizeLine_eq];lia))
 have hoL:(h1.push (seqObj "list" vs.toArray 0)).get? h1.objs.size=ξ (seqObj "list" vs.toArray 0):=Ao _ rfl
 show AG _ _ _ _ _ {s with heap:=h1.push (seqObj "list" vs.toArray 0),toks:=tk,drawn:=d}
 refine AC (wpAny_holding (wpAny_call_entry slot_list_sort ⟨_,hoL,rfl⟩ entry_list_sort (list_sort_treeK strKind_oneLt hoL hS.keysOf (λv₁ v₂ rest e=>keyKind_strs (by rw [<-e];exact hS)) h64 λst' a1 a2=>⟨_,rfl, ?_⟩) (args_list_sort _)))
 obtain⟨ss',g1,g2,g3⟩:=sorted_out_str hS a1 a2
 have e1:ss'=a0v ss:=a0P (a8G g3) (L5 ss) (g2.trans (E8 ss).symm)
 subst e1
 obtain⟨e,he⟩:=sortedHeap_at (out:=(arrOf st').map (·.2)) hoL
 refine AH ⟨_,rfl,h h1 _ tk d e vs _ ss k1 (λb o' hb1=> ?_) hv hS g1 (by rw [Array.toArray_toList];exact he)⟩
 have hlt:=Ac hb1
 rw [sortedHeap_old (Aj hlt) (by rw [size_push'];exact Nat.lt_succ_of_lt hlt),Heap.get?_push_ne _ _ _ (Aj hlt)]
 exact hb1
end
noncomputable def b3k(x:Str):List Str->List Str
 |[]=>[x]
 |y::r=>if x=y then y::r else if y.cps.toList<x.cps.toList then y::b3k x r else x::y::r
def W7:List Str->List Str
 |[]=>[]
 |x::r=>b3k x (W7 r)
theorem a7P(x z:Str):∀l:List Str,z∈b3k x l↔z=x\/z∈l
 |[]=>by simp [b3k]
 |y::r=>by
  unfold b3k;split
  ·rename_i c;subst c;rw [AX];exact⟨λh=> .inr h,λh=>h.elim .inl id⟩
  ·split
   ·rw [AX,a7P x z r,AX];exact⟨λh=>h.elim (λh=> .inr (.inl h)) λh=>h.elim .inl λh=> .inr (.inr h),λh=>h.elim (λh=> .inr (.inl h)) λh=>h.elim .inl λh=> .inr (.inr h)⟩
   ·rw [AX]
theorem a53(z:Str):∀l:List Str,z∈W7 l↔z∈l
 |[]=>Iff.rfl
 |x::r=>by unfold W7;rw [a7P,a53 z r,AX]
def ltS(a b:Str):Prop:=a.cps.toList<b.cps.toList
theorem b54(h:ltS a b)(g:ltS b c):ltS a c:=List.lt_trans h g
theorem b4u(x:Str):∀{l:List Str},l.Pairwise ltS->(b3k x l).Pairwise ltS
 |[],_=>List.pairwise_singleton _ _
 |y::r,h=>by
  unfold b3k;have h':=List.pairwise_cons.mp h;split
  ·exact h
  ·rename_i c;split
   ·rename_i c2;refine List.pairwise_cons.mpr ⟨λz hz=> ?_,b4u x h'.2⟩;rcases(a7P x z r).mp hz with e|e
    ·subst e;exact c2
    ·exact h'.1 z e
   ·rename_i c2;have hxy:ltS x y:=by
     have h1:leS x y:=c2;rcases Classical.em (ltS x y) with h|h
     ·exact h
     ·exact absurd (a7Y h1 h) c
    refine List.pairwise_cons.mpr ⟨λz hz=> ?_,h⟩;rcases AX.mp hz with e|e
    ·subst e;exact hxy
    ·exact b54 hxy (h'.1 z e)
theorem a5f:∀l:List Str,(W7 l).Pairwise ltS
 |[]=>List.Pairwise.nil
 |x::r=>b4u x (a5f r)
theorem c0o(a:Str):¬ltS a a:=List.lt_irrefl _
theorem b2M{l:List Str}(h:l.Pairwise ltS):l.Nodup:=h.imp λ {a b} c e=>by subst e;exact c0o a c
theorem c4z{l:List Str}(h:l.Pairwise ltS):l.Pairwise leS:=h.imp λ {a b} c=>List.lt_asymm c
theorem b3Q{l zs:List Str}(h:l.Pairwise leS)(nd:l.Nodup)(m:∀x,x∈l↔x∈zs):l=W7 zs:=
 a0P h (c4z (a5f zs)) ((List.perm_ext_iff_of_nodup nd (b2M (a5f zs))).mpr λx=>(m x).trans (a53 x zs).symm)
def E7(z:Str):List Str:=z.cps.toList.map λc=>(⟨#[c]⟩:Str)
theorem c0V(z x:Str):x∈sgs z z.cps.size↔x∈E7 z:=by
 unfold sgs E7;rw [List.mem_reverse,Ae,Ae];constructor
 ·rintro⟨i,hi,rfl⟩;have hi:=List.mem_range.mp hi;refine⟨z.cps[i],by simp, ?_⟩
  unfold b6p;rw [Array.getD_eq_getD_getElem?,getElem?_pos z.cps i hi];rfl
 ·rintro⟨c,hc,rfl⟩;obtain⟨i,hi,rfl⟩:=List.getElem_of_mem hc;have hi':i<z.cps.size:=by simpa using hi
  refine⟨i,List.mem_range.mpr hi', ?_⟩;unfold b6p;rw [Array.getD_eq_getD_getElem?,getElem?_pos z.cps i hi'];rfl
def a2G(x:g5):Υ g5:=match x with
 | .v (.str z)=>if z.length+1<4096/\(W7 (E7 z)).length<64 then ξ (.own ((W7 (E7 z)).map .str)) else ζ
 |_=>ζ
theorem a8I:∀{vs:List AA},(∀v∈vs,∃x t,v= .str x t)->StrsAre vs (vs.map sOf)
 |[],_=> .nil
 |v::r,h=>by
  obtain⟨x,t,rfl⟩:=h v AZ;exact .cons x t (a8I λu hu=>h u (Ag _ hu))
theorem a0Q:∀{vs:List AA} {ss:List Str},StrsAre vs ss->ss=vs.map sOf
 |_,_,.nil=>rfl
 |_,_,.cons x t h=>by rw [AI,<-a0Q h];rfl
section
variable {X:Cx}{pins:List (AB×Obj)}{σ:L2.St}{H:Hp}{s:AE}
theorem b4x(I:j4 X pins σ H s)(d:Drawn):j4 X pins σ H {s with drawn:=d}:=⟨I.ok,I.os,I.bare,I.base,I.loc,I.cell,I.free,I.freeC,I.pin,I.hok,I.len⟩
def c4g(X:Cx):List V->Hp->VK->Prop:=λxs H Q=>∃z:Str,xs=[.str z]/\z.length+1<4096/\∀p es ep,H p=ζ->TxE es (E7 z)->es.size<=z.length->Q (.ref p) (n5 H p (.ext λh=>J8 X.prog X.w h p es ep))
theorem b5h(hc:X.calm=true):E4 X (.type "set") (c4g X):=by
 intro pins s σ H xs us Q I rv h;obtain⟨z,rfl,hz,q⟩:=h;obtain⟨u,rfl,ru⟩:=a0R rv;obtain⟨t,rfl⟩:=ru;refine c4k (I.ok.hd hc) (by unfold scanBound;exact hz) λh' tk es ep hS hT hle hk=> ?_
 refine⟨.ref s.heap.objs.size,_,I.laid (a:=s.heap.objs.size) (t':=tk) (o:= .ext λh=>J8 X.prog X.w h s.heap.objs.size es ep) (λb o e=>hk b o (Ac e) e) (AM _) ⟨hS, ?_, ?_⟩,rfl,q _ es ep (I.hok.fresh (AM _)) ⟨hT.all,hT.nd,λx=>(hT.mem x).trans (c0V z x)⟩ hle⟩
 ·obtain⟨o,_,ho,_⟩:=hS;exact⟨o,ho⟩
 ·exact λh1 h2 p k=>p.at' k
def c3b(X:Cx):List V->Hp->VK->Prop:=λxs H Q=>∃p es ep zs,xs=[.ref p]/\H p=ξ (.ext λh=>J8 X.prog X.w h p es ep)/\TxE es zs/\(W7 zs).length<64/\∀q,H q=ζ->Q (.ref q) (n5 H q (.lst ((W7 zs).map V.str)))
theorem b23(hc:X.calm=true):E4 X (.builtin "sorted") (c3b X):=by
 intro pins s σ H xs us Q I rv h;obtain⟨p,es,ep,zs,rfl,hp,hT,h64,q⟩:=h;obtain⟨u,rfl,ru⟩:=a0R rv;cases ru;obtain⟨hS,_,_⟩:=(show z8 X.prog X.w H s.heap p (.ext λh=>J8 X.prog X.w h p es ep) from I.hok p _ hp);have facts:∀vs:List AA,vs.Perm (es.toList.map (·.2))->StrsAre vs (vs.map sOf)/\a0v (vs.map sOf)=W7 zs:=λvs pm=>by
  refine⟨a8I λv hv=> ?_, ?_⟩
  ·obtain⟨e,he,rfl⟩:=Ae.mp (pm.mem_iff.mp hv);exact hT.all e he
  ·have pk:(a0v (vs.map sOf)).Perm (a7V es):=by
    refine(E8 _).trans ?_;have:=pm.map sOf;rw [Au] at this;exact this
   exact b3Q (L5 _) (pk.nodup_iff.mpr hT.nd) λx=>(pk.mem_iff).trans (hT.mem x)
 refine a6B (C:=λvs=>vs.Perm (es.toList.map (·.2))) (λQ' E' hq=>b5k (A:=X.A.in1) (I.ok.hd hc) hS λh' tk d ord kp pm=>hq h' tk d ord kp pm) (λvs pm=> ?_) λhp1 hp2 tk d en vs us ss k1 k2 pm hs hu he=> ?_
 ·obtain⟨f1,f2⟩:=facts vs pm;refine⟨?_,_,f1⟩;have:=(E8 (vs.map sOf)).length_eq;rw [f2,AN] at this
  lia
 ·obtain⟨f1,f2⟩:=facts vs pm;cases a0Q hs;rw [f2] at hu;have I1:j4 X pins σ H {s with heap:=hp1,toks:=tk,drawn:=d}:=b4x (I.kept (t':=tk) k1) d
  have hf:H hp1.objs.size=ζ:=I1.hok.fresh (AM _);exact⟨.ref hp1.objs.size,_,I1.laid (t':=tk) (h':=hp2) (o:= .lst ((W7 zs).map V.str)) k2 (AM _) ⟨by rw [AN,sizeLine_eq];lia,us,en,a3r hu,he⟩,rfl,q _ hf⟩
theorem b29(hc:X.calm=true)(hg:Gl X "sorted")(hm:X.mg "sorted"=ζ)(hg2:Gl X "set")(hm2:X.mg "set"=ζ)(ha:EE X e m)
 (hv:bootBuiltins "sorted"=ξ (.builtin "sorted"):=by rfl) (hv2:bootBuiltins "set"=ξ (.type "set"):=by rfl)
 (hs:AJ [e] X.env=(false,eval e X.env)::AJ [] X.env:=by rfl) (hpl:(backTo pos2 (AJ [] X.env)).any (·.1)=false:=by rfl)
 (hs2:AJ [.Call (.Name "set" p2) [e] [] pos2] X.env=(false,eval (.Call (.Name "set" p2) [e] [] pos2) X.env)::AJ [] X.env:=by rfl) (hpl2:(backTo pos (AJ [] X.env)).any (·.1)=false:=by rfl):
 EE X (.Call (.Name "sorted" p) [.Call (.Name "set" p2) [e] [] pos2] [] pos) (m1 a2G m):=
 u5 (a2V (b23 hc) hg hm hv (y0 (a5S (b5h hc) hg2 hm2 hv2 (y0 ha O3 hs) (by decide) (by decide) hs hpl) O3 hs2) (by decide) (by decide) hs2 hpl2) λσ H Q h0=>u0 h0 λF ρ r en em k=>by
  obtain⟨rx,e1,e2⟩:=bind_some em;refine⟨F,ρ,rx,en,e1,λv F1 H1 o1=> ?_⟩;unfold a2G at e2;split at e2
  ·rename_i z;split at e2
   ·rename_i c;cases e2;refine⟨z,by rw [show v=V.str z from o1.rep],c.1,λp es ep hp hT hle=> ?_⟩
    refine⟨p,es,ep,E7 z,rfl,g8,hT,c.2,λq hq=>k _ F1 _ ?_⟩;have s1:m3 F1 (n5 H1 p (.ext λh=>J8 X.prog X.w h p es ep)):=o1.x.fh.trans (B1 hp);have x1:R5 F1 H1 F1 (n5 H1 p (.ext λh=>J8 X.prog X.w h p es ep)):=R5.layH o1.x.fh hp;exact w8.trans (o1.x.trans x1) (w8.lst x1.fh hq (a3q _))
   ·cases e2
  ·cases e2
end
theorem b3f(z:Str):a2G (.v (.str z))=if z.length+1<4096/\(W7 (E7 z)).length<64 then ξ (.own ((W7 (E7 z)).map .str)) else ζ:=ω
open L2
def unE:List (PV×PV)->Υ (Γ)
 |[]=>ξ []
 |(.tuple ks,p)::r=>(keysOf ks).bind λk=>(unE r).map λt=>(k,p)::t
 |_::_=>ζ
theorem a0K:∀k:List k4,keysOf (k.map kP)=ξ k
 |[]=>rfl
 | .inl i::k=>by
   rw [AI];unfold keysOf;rw [a0K k]
   rfl
 | .inr x::k=>by
   rw [AI];unfold keysOf;rw [a0K k]
   rfl
theorem a68{K:AD}{F:Hp}:∀{es:List (PV×PV)} {xs:List (List k4×V)},a2i K F es xs->∃kvs,unE es=ξ kvs/\v9 K F kvs xs
 |[],_,h=>by cases h;exact⟨[],rfl,rfl⟩
 |(k,p)::es,_,⟨kk,v,t,e,z,q,h⟩=>by
  subst e;subst z;obtain⟨kvs,h1,h2⟩:=a68 h;refine⟨(kk,p)::kvs, ?_,v,t,rfl,q,h2⟩;unfold unE;rw [a0K,h1]
  rfl
abbrev dv(kvs:Γ):PV:= .dict ((.tuple [],.none)::kvs.map λkv=>(PyData.tuple (kv.1.map kP),kv.2))
theorem b3W:∀kvs:Γ,unE (kvs.map λkv=>(PyData.tuple (kv.1.map kP),kv.2))=ξ kvs
 |[]=>rfl
 |(k,p)::r=>by
  rw [AI];unfold unE;rw [a0K,b3W r]
  rfl
def dvw(i:Nat)(ρ:d5):Υ (Γ):=match ρ[i]? with
 |some (ξ (.v (.dict ((.tuple [],.none)::es))))=>unE es
 |_=>ζ
theorem c1Z(h:ρ[i]?=ξ (ξ (.v (dv kvs)))):dvw i ρ=ξ kvs:=by
 unfold dvw;rw [h];exact b3W kvs
theorem c1Y{K:AD}{F H:Hp}{σ:L2.St}{ρ:d5}(en:O4 K F H σ ρ){i:Nat}{kvs:Γ}(h:dvw i ρ=ξ kvs):∃a xs,σ[i]?=ξ (ξ (.ref a))/\F a=ξ (.dT xs)/\v9 K F kvs xs:=by
 unfold dvw at h;split at h
 ·rename_i es eo;obtain⟨v,hv,hr⟩:=en.at_ i _ eo;rcases hr with⟨a,ys,rfl,ha,kk,w,t,e,z,_,hr⟩|⟨a,xs,rfl,ha,kk,w,t,e,_,_,hr⟩|⟨x,t,e,_⟩|⟨x,m,fs,_,_,_,_,_,e,_⟩
  ·cases ys with
   |nil=>cases e
   |cons y ys=>
    cases e;cases z
  ·cases e;obtain⟨kvs',h1,h2⟩:=a68 hr;rw [h] at h1;cases h1;exact⟨a,_,hv,ha,h2⟩
  ·cases e
  ·cases e
 ·cases h
section
def b3u(i:Nat)(mk:MA):M:=λρ=>(mk ρ).bind λks=>if ks.length<=AQ then(keysOf ks).bind λk=>(dvw i ρ).bind λkvs=>(p7 kvs k).map .v else ζ
theorem b7h(i:Nat){x:Str}{p tp pos:Pos}{es:List AO}{x1}{mk:MA}(hu:X.A.units+64<cLine)(hx:PE X (.Name x p) (G9 i))(hi:EA X es mk)(hs:b5d (.Tuple es x1 tp):=by intro _ _;rfl):EE X (.Subscript (.Name x p) (.Tuple es x1 tp) pos) (b3u i mk):=
 u5 (a44 (by lia) hx (b1e hi) hs) λσ H Q h0=>u0 h0 λF ρ r en e k=>by
  obtain⟨ks,e1,e⟩:=bind_some e;split at e
  ·rename_i hl;obtain⟨kk,e2,e⟩:=bind_some e;obtain⟨kvs,e3,e⟩:=bind_some e;cases hv:p7 kvs kk with
   |none=>rw [hv] at e;cases e
   |some q=>
    rw [hv] at e;cases e;obtain⟨a,xs,hw1,ha',rl⟩:=c1Y en e3;obtain⟨y,hy,ry⟩:=(rl.val (k:=kk)).1 q hv;refine⟨.ref a,hw1,F,ρ,ks,en,e1,λvs F3 H3 x3 rl3=>⟨by rw [rl3.length];exact hl,λb hb=> ?_⟩⟩
    have ev:=T4 e2 rl3;have ha3:=x3.h _ _ (en.fh _ _ ha');have hne:a≠b:=λh=>by subst h;rw [hb] at ha3;cases ha3
    have ha4:n5 H3 b (.tup vs) a=ξ (.dT xs):=by rw [f9 hne];exact ha3
    ext ae
  ·cases e
end
mutual
def nd:PV->Bool
 | .list ps=>ndL ps
 | .tuple ps=>ndL ps
 | .dict ((.tuple _,_)::_)=>false
 | .dict ((.str _,.bool false)::_)=>false
 | .dict ((.str _,.int _)::_)=>false
 |_=>true
def ndL:List PV->Bool
 |[]=>true
 |p::ps=>nd p && ndL ps
end
noncomputable def ndD:Γ->Bool
 |[]=>true
 |(_,p)::r=>nd p && ndD r
def g5.noD:g5->Bool
 | .v p=>nd p
 | .ow (.lst ps)=>ndL ps
 | .ow (.dct kvs)=>ndD kvs
 | .ow (.txt kvs)=>ndD kvs
 | .bo _=>false
section
variable {K:AD}{F:Hp}{a:AB}{xs:List (List k4×V)}
mutual
theorem a8o(ha:F a=ξ (.dT xs)):∀(p:PV) {v:V},A3 K F p v->nd p=true->A3 K (drp F a) p v
 | .none,_,h,_=>h
 | .bool _,_,h,_=>h
 | .int _,_,h,_=>h
 | .str _,_,h,_=>h
 | .list ps,_,⟨b,ys,e,q,r⟩,n=>⟨b,ys,e,(by
  rcases q with(q|⟨o,q⟩)|q
  ·exact .inl (.inl (by rw [M1 (Q7 q ha (λz=>nomatch z))];exact q))
  ·exact .inl (.inr ⟨o,by rw [M1 (Q7 q ha (λz=>nomatch z))];exact q⟩)
  ·exact .inr q),a3o ha ps r (by simpa [nd] using n)⟩
 | .tuple ps,_,⟨b,ys,e,q,r⟩,n=>⟨b,ys,e,(by
  rcases q with q|q
  ·exact .inl (by rw [M1 (Q7 q ha (λz=>nomatch z))];exact q)
  ·exact .inr q),a3o ha ps r (by simpa [nd] using n)⟩
 | .dict kvs,_,h,n=>by
   rcases h with⟨b,ys,q,h,hr⟩|⟨b,ys,q,h,hr⟩|⟨x,t,e,h|⟨z,b,C,φ,q,h,r⟩⟩|⟨x,m,fs,h,hr⟩
   ·cases kvs with
    |nil=>
     have e0:=List.map_eq_nil_iff.mp hr;subst e0;exact .inl ⟨b,[],q,by rw [M1 (Q7 h ha (λz=>nomatch z))];exact h,rfl⟩
    |cons f fs=>
     exfalso
     obtain⟨k,p⟩:=f;obtain⟨kk,w,t,e,z,_⟩:=hr;subst z;simp [nd] at n
   ·exfalso
    cases kvs with
    |nil=>cases hr
    |cons f fs=>
     obtain⟨k,p⟩:=f;obtain⟨kk,w,t,e,z,_⟩:=hr;subst z;simp [nd] at n
   ·exact .inr (.inr (.inl ⟨x,t,e,.inl h⟩))
   ·exact .inr (.inr (.inl ⟨x,t,e,.inr ⟨z,b,C,φ,q,by rw [M1 (Q7 h ha (λz=>nomatch z))];exact h,r⟩⟩))
   ·exfalso
    cases kvs with
    |nil=>cases hr
    |cons f fs'=>
     obtain⟨k,p⟩:=f;obtain⟨f',v',t',e,z,q,_⟩:=hr;subst z;cases e;rcases h with⟨rfl,_⟩|⟨rfl,_⟩
     ·cases p with
      |bool b=>cases q;simp [nd] at n
      |tuple _=>obtain⟨_,_,e,_⟩:=q;cases e
      |list _=>obtain⟨_,_,e,_⟩:=q;cases e
      |dict _=>
       rcases q with⟨_,_,e,_⟩|⟨_,_,e,_⟩|⟨_,_,_,q⟩|⟨_,_,_,q,_⟩
       ·cases e
       ·cases e
       ·ext ab
       ·ext ab
      |_=>cases q
     ·cases p with
      |int b=>simp [nd] at n
      |tuple _=>obtain⟨_,_,e,_⟩:=q;cases e
      |list _=>obtain⟨_,_,e,_⟩:=q;cases e
      |dict _=>
       rcases q with⟨_,_,e,_⟩|⟨_,_,e,_⟩|⟨_,_,_,q⟩|⟨_,_,_,q,_⟩
       ·cases e
       ·cases e
       ·ext ab
       ·ext ab
      |_=>cases q
theorem a3o(ha:F a=ξ (.dT xs)):∀(ps:List PV) {vs:List V},m7 K F ps vs->ndL ps=true->m7 K (drp F a) ps vs
 |[],_,h,_=>h
 |p::ps,_,⟨v,r,e,q,t⟩,n=>by
  simp only [ndL,χ] at n;exact⟨v,r,e,a8o ha p q n.1,a3o ha ps t n.2⟩
end
theorem a5U(ha:F a=ξ (.dT xs)):∀(kvs:Γ) {ys:List (List k4×V)},v9 K F kvs ys->ndD kvs=true->v9 K (drp F a) kvs ys
 |[],_,h,_=>h
 |(k,p)::r,_,⟨v,t,e,q,h⟩,n=>by
  simp only [ndD,χ] at n;exact⟨v,t,e,a8o ha p q n.1,a5U ha r h n.2⟩
theorem b6m(ha:F a=ξ (.dT xs)):∀{r:g5},M5 K F H v r->r.noD=true->M5 K (drp F a) H v r
 | .v p,h,n=>a8o ha p h n
 | .ow (.lst ps),⟨b,ys,e,f,q,r⟩,n=>⟨b,ys,e,a1a f,q,a3o ha ps r n⟩
 | .ow (.dct kvs),⟨b,ys,e,f,q,r⟩,n=>⟨b,ys,e,a1a f,q,a5U ha kvs r n⟩
 | .ow (.txt kvs),⟨b,ys,e,f,q,r⟩,n=>⟨b,ys,e,a1a f,q,a5U ha kvs r n⟩
 | .bo _,_,n=>nomatch n
end
def a6Z(g:Λ)(i:Nat)(m:M):M:=λρ=>((m ρ).bind g5.toVal).bind λp=>match ρ[i]? with
 |some (ξ (.ow (.dct kvs)))=>(g [p,dv kvs]).bind λr=>if r.noD=true then ξ r else ζ
 |_=>ζ
section
theorem b5X{K:AD}{F2 H1 F3 H3:Hp}{a:AB}{xs:List (List k4×V)}{u:V}{r:g5}(fa:F2 a=ζ)(o3:w8 K (n5 F2 a (.dT xs)) H1 F3 H3 u r)(c:r.noD=true):w8 K F2 H1 (drp F3 a) H3 u r:=by
 have up:m3 F2 (n5 F2 a (.dT xs)):=B1 fa;refine⟨⟨λb o z=> ?_,o3.x.h,λb o z=> ?_,λb o z y t=> ?_,λb w u z=> ?_⟩,b6m (o3.x.f _ _ g8) o3.rep c,o3.fr⟩
 ·have hb:=j8 z fa;rw [M1 hb];exact o3.x.f _ _ (up _ _ z)
 ·by_cases hb:b=a
  ·subst hb;rw [a1b] at z;cases z
  ·rw [M1 hb] at z;exact o3.x.fh _ _ z
 ·by_cases hb:b=a
  ·subst hb;exact a1b
  ·rw [M1 hb];exact o3.x.nw b o (by rw [f9 hb];exact z) y t
 ·by_cases hb:b=a
  ·subst hb;rw [a1b] at z;cases z
  ·rw [M1 hb] at z;have:=o3.x.nf _ _ _ z;rw [f9 hb] at this;exact this
theorem c0l(fh:m3 F2 H1)(ha:H1 a=ξ (.dT xs)):m3 (n5 F2 a (.dT xs)) H1:=λb o z=>by
 by_cases hb:b=a
 ·subst hb;rw [g8] at z;cases z;exact ha
 ·rw [f9 hb] at z;exact fh _ _ z
theorem b73{K:AD}{F2:Hp}{a:AB}{xs:List (List k4×V)}{kvs:Γ}(fa:F2 a=ζ)(rl:v9 K F2 kvs xs):A3 K (n5 F2 a (.dT xs)) (dv kvs) (.ref a):=Or.inr (Or.inl ⟨a,xs,rfl,g8,[],.non,xs,rfl,rfl,rfl,a2i.of (B1 fa) rl⟩)
theorem b7f(i:Nat)
 (d:u7 X.prog X.w X.K X.mg X.base x [pa,pb] k g) (hr:G8 k' X.A) (hk:k<=k') (hg:Gl X x) (ha:EE X e m) (hy:PE X (.Name y py) (G9 i))
 (hdb:Δ x:=by decide) (he:AJ [e,.Name y py] X.env=(false,eval e X.env)::AJ [.Name y py] X.env:=by rfl) (he2:AJ [.Name y py] X.env=(false,eval (.Name y py) X.env)::AJ [] X.env:=by rfl)
 (hpl:(backTo pos (AJ [.Name y py] X.env)).any (·.1)=false:=by rfl):
 EE X (.Call (.Name x p) [e,.Name y py] [] pos) (a6Z g i m):=by
 obtain⟨f,fd,G,h1,h2,h3⟩:=d
 refine u5 (a64 G (hr.mono hk) hg h1 h2 h3 .nil b2p (y0 ha (y0 hy O3 he2) he) hdb he hpl) λσ H Q h0=>u0 h0 λF ρ r en hm kq=> ?_
 obtain⟨q,e1,hm⟩:=bind_some hm
 obtain⟨rq,e2,e3'⟩:=bind_some e1
 split at hm
 ·rename_i kvs eo
  obtain⟨r',e7,hm⟩:=bind_some hm
  split at hm
  ·rename_i c
   cases hm
   refine⟨F,ρ,rq,en,e2,λv F1 H1 o1=> ?_⟩
   obtain⟨F2,o2⟩:=o1.toVal e3'
   have en2:=en.ext o2.x
   obtain⟨w,hw,a,xs,rfl,fa,ha',rl⟩:=en2.at_ i _ eo
   refine⟨.ref a,hw, ?_⟩
   show spP X.K 2 g ([v,.ref a]++[]) H1 Q E0
   rw [An]
   have up:m3 F2 (n5 F2 a (.dT xs)):=B1 fa
   exact⟨n5 F2 a (.dT xs),[q,dv kvs],_,c0l o2.x.fh ha',⟨v,[.ref a],rfl,A3.mono up _ o2.rep,.ref a,[],rfl,b73 fa rl,rfl⟩,rfl,e7,λu F5 H5 o5=>kq u (drp F5 a) H5 (w8.trans o2.x (b5X fa o5 c))⟩
  ·cases hm
 ·cases hm
end
section
variable {prog:AS}{w:AL}{K:Type}[DecidableEq K]{kd:KeyKind prog w K}{A:AU}{E:AA->AE->Prop}{s:AE}
end
section
end
theorem a55(k:k4):∀xs:List (k4×V),U0 (xs.map s1) [k]=U0 xs k
 |[]=>rfl
 |x::r=>by
  rw [AI]
  by_cases c:x.1=k
  ·rw [a1r (p:=x) c,a1r (p:=s1 x) (by show [x.1]=[k];rw [c])];rfl
  ·rw [a1q (p:=x) c,a1q (p:=s1 x) (by show ¬[x.1]=[k];intro h;exact c (List.cons.inj h).1),a55 k r]
theorem b6Q(k:k4):∀xs:List (k4×V),((xs.map s1).any λkv=>decide (kv.1=[k]))=(xs.any λkv=>decide (kv.1=k))
 |[]=>rfl
 |x::r=>by
  rw [AI,List.any_cons,List.any_cons,b6Q k r]
  congr 1
  show decide ([x.1]=[k])=decide (x.1=k);simp
theorem b4U(k:k4)(v:V):∀xs:List (k4×V),(xs.map λkv=>if kv.1=k then(kv.1,v) else kv).map s1=(xs.map s1).map λkv=>if kv.1=[k] then(kv.1,v) else kv
 |[]=>rfl
 |x::r=>by
  rw [AI,AI,AI,AI,b4U k v r]
  congr 1
  by_cases c:x.1=k
  ·rw [if_pos c,if_pos (show(s1 x).1=[k] by show [x.1]=[k];rw [c])];rfl
  ·rw [if_neg c,if_neg (show ¬(s1 x).1=[k] by show ¬[x.1]=[k];intro h;exact c (List.cons.inj h).1)]
theorem c27(k:k4)(v:V)(xs:List (k4×V)):(a1O xs k v).map s1=a1O (xs.map s1) [k] v:=by
 unfold a1O;rw [b6Q];split
 ·exact b4U k v xs
 ·rw [BF];rfl
theorem w8.txt{K:AD}{F H:Hp}{a:AB}(s:m3 F H)(n:H a=ζ):w8 K F H F (n5 H a (.dK [])) (.ref a) (.ow (.txt [])):=
 ⟨R5.layH s n,⟨a,[],rfl,s.free n,g8,rfl⟩,λ_ _ _ e=>by cases e;exact n⟩
theorem a7T{K:AD}{F H:Hp}{r:g5}{x:Str}{v:V}(e:b0S r=ξ x)(h:M5 K F H v r):v=kV (.inr x):=by
 unfold b0S at e;split at e
 ·cases e;exact h
 ·cases e
section
variable {X:Cx}
def c0r:M:=λ_=>ξ (.ow (.txt []))
theorem b7m{pos:Pos}:EE X (.Dict [] [] pos) c0r:=
 u5 b8K λσ H Q h0=>u0 h0 λF ρ r en e k=>by
  cases e;exact λd hd=>k _ _ _ (w8.txt en.fh hd)
def b2K(i:Nat)(ρ:d5)(p:PV)(x:Str):Υ Fl:=match ρ[i]? with
 |some (ξ (.ow (.txt kvs)))=>if kvs.length<AQ then ξ (.nx (ρ.set i (ξ (.ow (.txt (G2 kvs [.inr x] p)))))) else ζ
 |_=>ζ
def b4E(i:Nat)(mk mv:M):MS:=λρ=>((mv ρ).bind g5.toVal).bind λp=>((mk ρ).bind b0S).bind (b2K i ρ p)
theorem b4h(i:Nat){x:Str}{p tp2 pos:Pos}{ek e:AO}{mk mv:M}(hu:X.A.units+64<cLine)(hx:PE X (.Name x p) (G9 i))(hi:EE X ek mk)(he:EE X e mv)
 (hs:swapsWith e (ξ (.Subscript (.Name x p) ek tp2)) pos.line X.env=pure false:=by rfl):ES X (.Assign [.Subscript (.Name x p) ek tp2] e pos) (b4E i mk mv):=
 B0 (b1f (by lia) hx hi he hs) λD σ H h0=>D9 h0 λF0 H0 F ρ fl so e fin=>by
  ext l
  unfold b2K at e;split at e
  ·rename_i kvs eo;split at e
   ·ext ad
    refine⟨.ref a,hw1,F2,ρ,rk,so2.e,e4,λy F3 H3 o3=> ?_⟩;cases a7T e5 o3.rep;have ha3:=o3.x.h _ _ ha';have so3:=so2.ext o3.x
    ext s
    refine⟨a,_,rfl,b0l.k (k:= .inr k) ha3 (by rw [hlen];exact hl), ?_⟩
    refine fin σ _ _ (o2.x.f.trans o3.x.f) (so3.putT eo hw1 ?_);rw [c27];exact(v9.mono o3.x.f _ rl).put (A3.mono o3.x.f _ o2.rep)
   ·cases e
  ·cases e
def b2I(i:Nat)(ρ:d5)(x:Str):Υ g5:=match ρ[i]? with
 |some (ξ (.ow (.txt kvs)))=>(p7 kvs [.inr x]).map .v
 |_=>ζ
def a74(i:Nat)(mk:M):M:=λρ=>((mk ρ).bind b0S).bind (b2I i ρ)
theorem b4e(i:Nat){x:Str}{p pos:Pos}{ek:AO}{mk:M}(hu:X.A.units+64<cLine)(hx:PE X (.Name x p) (G9 i))(hi:EE X ek mk)(hs:b5d ek:=by intro _ _;rfl):EE X (.Subscript (.Name x p) ek pos) (a74 i mk):=
 u5 (a44 (by lia) hx hi hs) λσ H Q h0=>u0 h0 λF ρ r en e k=>by
  obtain⟨kk,e4,e⟩:=bind_some e;obtain⟨rk,e4,e5⟩:=bind_some e4;unfold b2I at e;split at e
  ·rename_i kvs eo;cases hv:p7 kvs [.inr kk] with
   |none=>rw [hv] at e;cases e
   |some q=>
    rw [hv] at e;cases e;obtain⟨w,hw1,a,xs,rfl,fa,ha',rl⟩:=en.at_ i _ eo;obtain⟨y,hy,ry⟩:=(rl.val (k:=[.inr kk])).1 q hv;rw [a55] at hy;refine⟨.ref a,hw1,F,ρ,rk,en,e4,λz F3 H3 o3=> ?_⟩;cases a7T e5 o3.rep;exact⟨a,y,rfl,by rw [<-hy];exact a2d.k (o3.x.h _ _ ha'),k _ _ _ (w8.val o3.x (A3.mono o3.x.f _ ry))⟩
  ·cases e
def a8L(i:Nat)(ρ:d5)(x:Str)(d:PV):Υ g5:=match ρ[i]? with
 |some (ξ (.ow (.txt kvs)))=>ξ (.v ((p7 kvs [.inr x]).getD d))
 |_=>ζ
def b3x(i:Nat)(mk md:M):M:=λρ=>((mk ρ).bind b0S).bind λx=>((md ρ).bind g5.toVal).bind λd=>a8L i ρ x d
theorem b7k(i:Nat){x:Str}{p apos cpos:Pos}{ek f:AO}{mk:M}{md:M}(hu:X.A.units+64<cLine)(hx:PE X (.Name x p) (G9 i))(hi:EE X ek mk)(hf:EE X f md)
 (m:M2 X (.Name x p) "get" apos ek f cpos:=by exact⟨rfl,rfl,rfl,rfl⟩):EE X (.Call (.Attribute (.Name x p) "get" apos) [ek,f] [] cpos) (b3x i mk md):=
 u5 (b8J (by lia) hx hi hf m) λσ H Q h0=>u0 h0 λF ρ r en e k=>by
  obtain⟨kk,e4,e⟩:=bind_some e;obtain⟨rk,e4,e5⟩:=bind_some e4;obtain⟨d,e6,e⟩:=bind_some e;obtain⟨rd,e6,e7⟩:=bind_some e6;unfold a8L at e;split at e
  ·rename_i kvs eo;cases e;obtain⟨w,hw1,a,xs,rfl,fa,ha',rl⟩:=en.at_ i _ eo;refine⟨.ref a,hw1,a,rfl,.inl ⟨xs,.inl ha'⟩,F,ρ,rk,en,e4,λy F3 H3 o3=> ?_⟩;cases a7T e5 o3.rep;refine⟨_,ρ,rd,en.ext o3.x,e6,λz F4 H4 o4=> ?_⟩;obtain⟨F5,o5⟩:=o4.toVal e7;have x5:=o3.x.trans o5.x;refine⟨_,a2d.k (k:= .inr kk) (o5.x.h _ _ (o3.x.h _ _ ha')),k _ _ _ (w8.val x5 ?_)⟩;cases hv:p7 kvs [.inr kk] with
   |none=>
    have:=(rl.val (k:=[.inr kk])).2 hv;rw [a55] at this;rw [this];exact o5.rep
   |some q=>
    obtain⟨y,hy,ry⟩:=(rl.val (k:=[.inr kk])).1 q hv;rw [a55] at hy;rw [hy];exact A3.mono x5.f _ ry
  ·cases e
end
theorem b2d(ρ:d5):c0r ρ=ξ (.ow (.txt [])):=ω
theorem a9Y(i:Nat)(mk mv:M)(ρ:d5):b4E i mk mv ρ=((mv ρ).bind g5.toVal).bind λp=>((mk ρ).bind b0S).bind (b2K i ρ p):=ω
theorem a9X(i:Nat)(mk:M)(ρ:d5):a74 i mk ρ=((mk ρ).bind b0S).bind (b2I i ρ):=ω
theorem b3y(i:Nat)(mk md:M)(ρ:d5):b3x i mk md ρ=((mk ρ).bind b0S).bind λx=>((md ρ).bind g5.toVal).bind λd=>a8L i ρ x d:=ω
section
variable {prog:AS}{w:AL}{K:Type}[DecidableEq K]{knd:KeyKind prog w K}{A:AU}{E:AA->AE->Prop}{s:AE}
end
section
variable {prog:AS}{w:AL}{A:AU}{E:AA->AE->Prop}{s:AE}
end
end PU
namespace TS
open L2 PU
section
variable {prog:AS}{w:AL}{A:AU}{E:AA->AE->Prop}{s:AE}
variable {κ:SortKind}{S:Heap->Keyed->Prop}{R:Heap->Keyed->Keyed->Bool}
end
end TS
namespace PU
open L2 PySem.W
section
variable {X:Cx}{pins:List (AB×Obj)}{σ:L2.St}{H H':Hp}{s:AE}{h':Heap}
end
theorem b7T(h:a4O k u=true):m8 (kV k) u:=by
 rcases w6 h with⟨i,t,rfl,rfl⟩|⟨x,t,rfl,rfl⟩
 ·exact⟨t,rfl⟩
 ·exact⟨t,rfl⟩
section
variable {X:Cx}
end
open L2
section
variable {X:Cx}{pins:List (AB×Obj)}{σ:L2.St}{H:Hp}{s:AE}{a:AB}{kvs:List (k4×V)}{k:k4}{v:V}{u r:AA}{A:AU}{E:AA->AE->Prop}
end
section
variable {X:Cx}{pins:List (AB×Obj)}{σ:L2.St}{A:AU}{R:Result->AE->Prop}
end
section
variable {X:Cx}
end
abbrev tv(kvs:Γ):PV:= .dict (kvs.map λkv=>(PyData.tuple (kv.1.map kP),kv.2))
def b8z(kvs:Γ):Bool:=kvs.all λkv=>kv.1.length==1
def tvw(i:Nat)(ρ:d5):Υ (Γ):=match ρ[i]? with
 |some (ξ (.v (.dict es)))=>(unE es).bind λkvs=>if b8z kvs=true then ξ kvs else ζ
 |_=>ζ
theorem c3t(h:ρ[i]?=ξ (ξ (.v (tv kvs))))(ho:b8z kvs=true):tvw i ρ=ξ kvs:=by
 unfold tvw;rw [h];show(unE _).bind _=_;rw [b3W,AF,if_pos ho]
theorem b9m{K:AD}{F H:Hp}{σ:L2.St}{ρ:d5}(en:O4 K F H σ ρ){i:Nat}{kvs:Γ}(h:tvw i ρ=ξ kvs):∃a xs,σ[i]?=ξ (ξ (.ref a))/\F a=ξ (.dK xs)/\v9 K F kvs (xs.map s1):=by
 unfold tvw at h;split at h
 ·rename_i es eo;obtain⟨kvs',e1,h⟩:=bind_some h;split at h
  ·rename_i ho;cases h;obtain⟨v,hv,hr⟩:=en.at_ i _ eo;rcases hr with⟨a,ys,rfl,ha,hr⟩|⟨a,xs,rfl,ha,hr⟩|⟨x,t,e,_⟩|⟨x,m,fs,_,hr⟩
   ·obtain⟨kvs',h1,h2⟩:=a68 hr;rw [e1] at h1;cases h1;exact⟨a,ys,hv,ha,h2⟩
   ·exfalso
    obtain⟨kvs',h1,h2⟩:=a68 hr;rw [e1] at h1;cases h1;cases kvs with
    |nil=>cases h2
    |cons f fs=>
     obtain⟨k,p⟩:=f;obtain⟨v,t,e,_⟩:=h2;cases e;simp [b8z] at ho
   ·subst e;simp [unE] at e1
   ·cases es with
    |nil=>cases hr
    |cons f es=>obtain⟨k,p⟩:=f;obtain⟨_,_,_,_,z,_⟩:=hr;subst z;simp [unE] at e1
  ·cases h
 ·cases h
section
variable {X:Cx}
end
mutual
def nk:PV->Bool
 | .list ps=>nkL ps
 | .tuple ps=>nkL ps
 | .dict _=>false
 |_=>true
def nkL:List PV->Bool
 |[]=>true
 |p::ps=>nk p && nkL ps
end
noncomputable def nkD:Γ->Bool
 |[]=>true
 |(_,p)::r=>nk p && nkD r
def g5.noK:g5->Bool
 | .v p=>nk p
 | .ow (.lst ps)=>nkL ps
 | .ow (.dct kvs)=>nkD kvs
 | .ow (.txt kvs)=>nkD kvs
 | .bo _=>false
section
variable {K:AD}{F:Hp}{a:AB}{xs:List (k4×V)}
mutual
theorem a8p(ha:F a=ξ (.dK xs)):∀(p:PV) {v:V},A3 K F p v->nk p=true->A3 K (drp F a) p v
 | .none,_,h,_=>h
 | .bool _,_,h,_=>h
 | .int _,_,h,_=>h
 | .str _,_,h,_=>h
 | .list ps,_,⟨b,ys,e,q,r⟩,n=>⟨b,ys,e,(by
  rcases q with(q|⟨o,q⟩)|q
  ·exact .inl (.inl (by rw [M1 (Q7 q ha (λz=>nomatch z))];exact q))
  ·exact .inl (.inr ⟨o,by rw [M1 (Q7 q ha (λz=>nomatch z))];exact q⟩)
  ·exact .inr q),a3p ha ps r (by simpa [nk] using n)⟩
 | .tuple ps,_,⟨b,ys,e,q,r⟩,n=>⟨b,ys,e,(by
  rcases q with q|q
  ·exact .inl (by rw [M1 (Q7 q ha (λz=>nomatch z))];exact q)
  ·exact .inr q),a3p ha ps r (by simpa [nk] using n)⟩
 | .dict kvs,_,h,n=>by simp [nk] at n
theorem a3p(ha:F a=ξ (.dK xs)):∀(ps:List PV) {vs:List V},m7 K F ps vs->nkL ps=true->m7 K (drp F a) ps vs
 |[],_,h,_=>h
 |p::ps,_,⟨v,r,e,q,t⟩,n=>by
  simp only [nkL,χ] at n;exact⟨v,r,e,a8p ha p q n.1,a3p ha ps t n.2⟩
end
theorem a5V(ha:F a=ξ (.dK xs)):∀(kvs:Γ) {ys:List (List k4×V)},v9 K F kvs ys->nkD kvs=true->v9 K (drp F a) kvs ys
 |[],_,h,_=>h
 |(k,p)::r,_,⟨v,t,e,q,h⟩,n=>by
  simp only [nkD,χ] at n;exact⟨v,t,e,a8p ha p q n.1,a5V ha r h n.2⟩
theorem b6n(ha:F a=ξ (.dK xs)):∀{r:g5},M5 K F H v r->r.noK=true->M5 K (drp F a) H v r
 | .v p,h,n=>a8p ha p h n
 | .ow (.lst ps),⟨b,ys,e,f,q,r⟩,n=>⟨b,ys,e,a1a f,q,a3p ha ps r n⟩
 | .ow (.dct kvs),⟨b,ys,e,f,q,r⟩,n=>⟨b,ys,e,a1a f,q,a5V ha kvs r n⟩
 | .ow (.txt kvs),⟨b,ys,e,f,q,r⟩,n=>⟨b,ys,e,a1a f,q,a5V ha kvs r n⟩
 | .bo _,_,n=>nomatch n
end
theorem b3q{K:AD}{F2 H1 F3 H3:Hp}{a:AB}{xs:List (k4×V)}{u:V}{r:g5}(fa:F2 a=ζ)(o3:w8 K (n5 F2 a (.dK xs)) H1 F3 H3 u r)(c:r.noK=true):w8 K F2 H1 (drp F3 a) H3 u r:=by
 have up:m3 F2 (n5 F2 a (.dK xs)):=B1 fa;refine⟨⟨λb o z=> ?_,o3.x.h,λb o z=> ?_,λb o z y t=> ?_,λb w u z=> ?_⟩,b6n (o3.x.f _ _ g8) o3.rep c,o3.fr⟩
 ·have hb:b≠a:=j8 z fa;rw [M1 hb];exact o3.x.f _ _ (up _ _ z)
 ·by_cases hb:b=a
  ·subst hb;rw [a1b] at z;cases z
  ·rw [M1 hb] at z;exact o3.x.fh _ _ z
 ·by_cases hb:b=a
  ·subst hb;exact a1b
  ·rw [M1 hb];exact o3.x.nw b o (by rw [f9 hb];exact z) y t
 ·by_cases hb:b=a
  ·subst hb;rw [a1b] at z;cases z
  ·rw [M1 hb] at z;have:=o3.x.nf _ _ _ z;rw [f9 hb] at this;exact this
theorem b74(fh:m3 F2 H1)(ha:H1 a=ξ (.dK xs)):m3 (n5 F2 a (.dK xs)) H1:=λb o z=>by
 by_cases hb:b=a
 ·subst hb;rw [g8] at z;cases z;exact ha
 ·rw [f9 hb] at z;exact fh _ _ z
theorem b5Y{K:AD}{F2:Hp}{a:AB}{xs:List (k4×V)}{kvs:Γ}(fa:F2 a=ζ)(rl:v9 K F2 kvs (xs.map s1)):A3 K (n5 F2 a (.dK xs)) (tv kvs) (.ref a):=Or.inl ⟨a,xs,rfl,g8,a2i.of (B1 fa) rl⟩
def a60(g:Λ)(i:Nat)(m:M):M:=λρ=>((m ρ).bind g5.toVal).bind λp=>match ρ[i]? with
 |some (ξ (.ow (.txt kvs)))=>(g [tv kvs,p]).bind λr=>if r.noK=true then ξ r else ζ
 |_=>ζ
section
variable {X:Cx}
theorem b7g(i:Nat)
 (d:u7 X.prog X.w X.K X.mg X.base x [pa,pb] k g) (hr:G8 k' X.A) (hk:k<=k') (hg:Gl X x) (hy:PE X (.Name y py) (G9 i)) (ha:EE X e m)
 (hdb:Δ x:=by decide) (he:AJ [.Name y py,e] X.env=(false,eval (.Name y py) X.env)::AJ [e] X.env:=by rfl) (he2:AJ [e] X.env=(false,eval e X.env)::AJ [] X.env:=by rfl)
 (hpl:(backTo pos (AJ [e] X.env)).any (·.1)=false:=by rfl):
 EE X (.Call (.Name x p) [.Name y py,e] [] pos) (a60 g i m):=by
 obtain⟨f,fd,G,h1,h2,h3⟩:=d
 refine u5 (a64 G (hr.mono hk) hg h1 h2 h3 .nil b2p (y0 hy (y0 ha O3 he2) he) hdb he hpl) λσ H Q h0=>u0 h0 λF ρ r en hm kq=> ?_
 obtain⟨q,e1,hm⟩:=bind_some hm
 obtain⟨rq,e2,e3'⟩:=bind_some e1
 split at hm
 ·rename_i kvs eo
  obtain⟨r',e7,hm⟩:=bind_some hm
  split at hm
  ·rename_i c
   cases hm
   obtain⟨w0,hw0,a,xs0,rfl,_⟩:=en.at_ i _ eo
   refine⟨.ref a,hw0,F,ρ,rq,en,e2,λv F1 H1 o1=> ?_⟩
   obtain⟨F2,o2⟩:=o1.toVal e3'
   have en2:=en.ext o2.x
   obtain⟨w,hw,a',xs,rfl,fa,ha',rl⟩:=en2.at_ i _ eo
   rw [hw0] at hw
   cases hw
   show spP X.K 2 g ([.ref a,v]++[]) H1 Q E0
   rw [An]
   have up:m3 F2 (n5 F2 a (.dK xs)):=B1 fa
   exact⟨n5 F2 a (.dK xs),[tv kvs,q],_,b74 o2.x.fh ha',⟨.ref a,[v],rfl,b5Y fa rl,v,[],rfl,A3.mono up _ o2.rep,rfl⟩,rfl,e7,λu F5 H5 o5=>kq u (drp F5 a) H5 (w8.trans o2.x (b3q fa o5 c))⟩
  ·cases hm
 ·cases hm
end
section
variable {prog:AS}{w:AL}{A:AU}{E:AA->AE->Prop}{s:AE}{z TI TO i1 i2:AB}{n1 n2 i:Nat}{P1 P2:Nat->AA->Prop}{St1 St2:Nat->Heap->Prop}{a b:AA}
end
section
variable {X:Cx}
end
section
variable {prog:AS}{w:AL}{K:Type}[DecidableEq K]{knd:KeyKind prog w K}{A:AU}{E:AA->AE->Prop}{s:AE}
end
section
variable {X:Cx}
end
theorem j4.retold(I:j4 X pins σ H s)(hn:∀b,H b=ζ->H' b=ζ)(tups:∀b xs,H b=ξ (.tup xs)->H' b=ξ (.tup xs))
 (frzs:∀b o u,X.H₀ b=ξ (.frz o u)->H' b=ξ (.frz o u)) (tbls:∀b ps,H b=ξ (.tbl ps)->H' b=ξ (.tbl ps)) (hok:HOk X.prog X.w H' s.heap):j4 X pins σ H' s:=
 ⟨I.ok,I.os,I.bare,⟨I.base.keep,I.base.slot,λb o e n hx=>hn b (I.base.free b o e n hx),I.base.there,λb xs e=>tups b xs (I.base.tups b xs e),frzs,λb ps e=>let ⟨m,q⟩:=I.base.tbls b ps e;⟨m,tbls _ _ q⟩⟩,
  I.loc,I.cell,hn _ I.free,λx c e=>hn _ (I.freeC x c e),λp hp=>let ⟨a,b,c⟩:=I.pin p hp;⟨a,hn _ b,c⟩,hok,I.len⟩
theorem j4.frzD(I:j4 X pins σ H s)(ha:H a=ξ (.dK xs)):∃o,j4 X pins σ (n5 H a (.frz o (.dK xs))) s:=by
 have hd:=I.hok a _ ha;obtain⟨o,ho⟩:∃o,s.heap.get? a=ξ o:=by obtain⟨_,_,_,_,o,_,_,e,_⟩:=hd;exact⟨o,e⟩
 refine⟨o,j4.retold I (λb q=> ?_) (λb ys q=> ?_) (λb o' u q=> ?_) (λb ps q=> ?_) (λb u q=> ?_)⟩
 ·rw [f9 (λz=>by rw [z,ha] at q;cases q)];exact q
 ·rw [f9 (Q7 q ha (λz=>nomatch z))];exact q
 ·have:=I.base.frzs b o' u q;rw [f9 (Q7 this ha (λz=>nomatch z))];exact this
 ·rw [f9 (Q7 q ha (λz=>nomatch z))];exact q
 ·have st:∀c w,H c=ξ w->z8 X.prog X.w (n5 H a (.frz o (.dK xs))) s.heap c w:=λc w q=>(I.hok c w q).stay (λ_ _ _ e=>e) (λd z=>by rw [f9 (Q7 z ha (λz=>nomatch z))];exact z) λd ys z=>by rw [f9 (Q7 z ha (λz=>nomatch z))];exact z
  by_cases hb:b=a
  ·subst hb;rw [g8] at q;cases q;exact⟨ho,st _ _ ha⟩
  ·rw [f9 hb] at q;exact st _ _ q
theorem j4.unfrz(I:j4 X pins σ H s)(ha:H a=ξ (.frz o (.dK xs)))(h0:∀o u,X.H₀ a≠ξ (.frz o u)):j4 X pins σ (n5 H a (.dK xs)) s:=by
 have st:∀c w,H c=ξ w->z8 X.prog X.w (n5 H a (.dK xs)) s.heap c w:=λc w q=>(I.hok c w q).stay (λ_ _ _ e=>e) (λd z=>by rw [f9 (Q7 z ha (λz=>nomatch z))];exact z) λd ys z=>by rw [f9 (Q7 z ha (λz=>nomatch z))];exact z
 refine j4.retold I (λb q=> ?_) (λb ys q=> ?_) (λb o' u q=> ?_) (λb ps q=> ?_) (λb u q=> ?_)
 ·rw [f9 (λz=>by rw [z,ha] at q;cases q)];exact q
 ·rw [f9 (Q7 q ha (λz=>nomatch z))];exact q
 ·rw [f9 (λz=>by rw [z] at q;exact h0 _ _ q)];exact I.base.frzs b o' u q
 ·rw [f9 (Q7 q ha (λz=>nomatch z))];exact q
 ·by_cases hb:b=a
  ·subst hb;rw [g8] at q;cases q;exact(st _ _ ha).2
  ·rw [f9 hb] at q;exact st _ _ q
def Itk(a:AB)(o:Obj)(xs:List (k4×V)):It:=⟨λi H=>H a=ξ (.frz o (.dK xs))/\i<xs.length,λi H v H'=>H'=H/\∃p,xs[i]?=ξ p/\v=kV p.1,λi H=>H a=ξ (.frz o (.dK xs))/\xs.length=i⟩
def epO(o:Obj):Nat:=match o.data with
 | .dict _ ep=>ep
 |_=>0
theorem b7a(I:j4 X pins σ H s)(ha:H a=ξ (.frz o (.dK xs))):(a==sysModules)=false/\∃vs,KV xs vs/\s.heap.DictAt (m5 X.prog X.w) a vs (epO o):=by
 obtain⟨ho,z,hd,vs,rel,o2,es,ep,e,c,d,r⟩:=(show z8 X.prog X.w H s.heap a (.frz o (.dK xs)) from I.hok a _ ha);have:o2=o:=by rw [ho] at e;exact(Option.some.inj e).symm
 subst this;refine⟨hd,vs,rel,o2,es,e,c, ?_,r⟩;rw [d];unfold epO;rw [d]
theorem c4e:∀{l₁:List α} {l₂:List β} {i:Nat} {a:α},Paired F l₁ l₂->l₁[i]?=ξ a->∃b,l₂[i]?=ξ b/\F a b
 |_,_,_,_,.nil,h=>by simp at h
 |_,_,0,_,.cons r t,h=>by cases h;exact⟨_,rfl,r⟩
 |_,_,i+1,_,.cons r t,h=>c4e (i:=i) t h
theorem b6u{P:AS}{w:AL}{K:AD}{tg:AO}{it a:AB}{o:Obj}{xs:List (k4×V)}:b2Y P w K tg (Itk a o xs) [it] it (λi h=>h.IsKeyIter it a i xs.length (epO o)) where
 mem:=by simp
 obj:=λi h st b hb=>by
  have hb:b=it:=by simpa using hb
  subst hb
  ext d
 keep:=λi h h' st k=>st.at λo e=>k it (by simp) o e
 item:=by
  ext c
  ext h
  obtain⟨ha,hlt⟩:=hg;obtain⟨hd,vs,rel,dd⟩:=b7a I ha;have hl:vs.length=xs.length:=(Paired.length rel).symm;have hx:xs[i]?=ξ xs[i]:=by simp [hlt]
  obtain⟨q,hq,rq⟩:=c4e rel hx;rw [<-hl] at st;refine wpAny_pyNext_dict_item st dd (k:=q.1) (v:=q.2) hq λkey h' kk st' sb=>⟨key,rfl, ?_⟩;rw [hl] at st';have I1:j4 X pins σ H {s with heap:=h'}:=I.turned (t':=s.toks) (λb o hb e=>(sb.2 b hb).trans e) f0 f1 f3 f4 f5
  obtain⟨o',e',c',d'⟩:=id st';refine b4r (s:={s with heap:=h'}) (n:="dict_keyiterator") e' c' d' (by decide) ⟨kV q.1,H,I1,b7T kk,⟨rfl,xs[i],hx,by rw [rq.1]⟩,st',λb hb=>(hf b hb).1⟩
 done:=by
   ext c
   ext h
   obtain⟨ha,hlt⟩:=hg;obtain⟨hd,vs,rel,dd⟩:=b7a I ha;have hl:vs.length=xs.length:=(Paired.length rel).symm;rw [<-hl] at st;exact wpAny_pyNext_dict_end (I.ok.hd hc) st dd (by simp;lia) λh' eb=>⟨rfl,I.turned (t':=s.toks) (λb o hb e=>eb b o hb e) f0 f1 f3 f4 f5⟩
 self:=λ_ _ _ _ _ st h=>wpAny_pyIter_keyiter st h
section
variable {X:Cx}{tg:AO}
def c4J(tl:TE):TI:=λσ H R=>tl σ H λx H1=>∃a o xs,x= .ref a/\H1 a=ξ (.frz o (.dK xs))/\R (Itk a o xs) H1
theorem b8N{l:AO}{tl:TE}(hl:PE X l tl):PI X tg l (c4J tl):=by
 intro pins s σ H R I h;refine E2 (hl pins s σ H _ I h) λv s1 h0=>o0 h0 λx H1 I1 r1 q1=> ?_;obtain⟨a,o,xs,e,ha,q⟩:=q1;subst e;obtain rfl:v=Value.ref a:=r1;obtain⟨hd,vs,rel,dd⟩:=b7a I1 ha;have hl:vs.length=xs.length:=(Paired.length rel).symm;refine wpAny_pyIter_dict hd dd ⟨s1.heap.objs.size,[s1.heap.objs.size],_,_,H1,rfl,I1.kept (t':=s1.toks) λb o e=>AY _ e,b6u,⟨_,Ao _ rfl,rfl,by rw [hl];rfl⟩,λc hb=> ?_,q⟩
 have e:c=s1.heap.objs.size:=by simpa using hb
 subst e;exact I1.fpOk (AM _) (I1.hok.fresh (AM _))
def Vls(xs:List (k4×V))(vs:List V):Prop:=vs.length=xs.length/\∀(j:Nat) p,xs[j]?=ξ p->∃v,vs[j]?=ξ v/\U0 xs p.1=ξ v
def c3h(i:Nat):TE:=λσ H Q=>∃a xs vs,σ[i]?=ξ (ξ (.ref a))/\H a=ξ (.dK xs)/\xs.length<AQ/\Vls xs vs/\∀D,H D=ζ->Q (.ref D) (n5 H D (.lst vs))
theorem b8I(i:Nat)(hx:∀e s,X.xe e s->False)(hc:X.calm=true)(S:C5 X.N N0 [y] X.env scope)
 (hd:PE X (.Name x p) (G9 i)) (hu:X.A.units+1<cLine) (hg:∀C fp pins s H,PG (t6 X N0 scope [y] C fp pins s H) (.Name y p2) (a4K X.N.length)) (he1:∀C fp pins s H,PE (t6 X N0 scope [y] C fp pins s H) (.Name x p3) (G9 i))
 (he2:∀C fp pins s H,PE (t6 X N0 scope [y] C fp pins s H) (.Name y p4) (G9 X.N.length)) (hs:∀x',foldedSetIterable (.Name x p) X.env x'=pure x':=by intro _;rfl):
 PE X (.ListComp (.Subscript (.Name x p3) (.Name y p4) sp) [⟨.Name y p2,.Name x p,[],0⟩] scope pos) (c3h i):=by
 intro pins s σ H Q I ⟨a,xs,vs,hσ,ha,hz,⟨hl,hv⟩,q⟩
 obtain⟨o,I1⟩:=j4.frzD I ha
 have h0:∀o u,X.H₀ a≠ξ (.frz o u):=λo u z=>by have:=I.base.frzs a o u z;rw [ha] at this;cases this
 have hR:=b1d (X:=X) (pos:=pos) hx hc S (b8N hd) hg (λC fp pins s H=>b4L) (λC fp pins s H=>a44 (X:=t6 X N0 scope [y] C fp pins s H) (pos:=sp) hu (he1 C fp pins s H) (he2 C fp pins s H) (by intro _ _;rfl)) hs pins s σ (n5 H a (.frz o (.dK xs)))
  (λv H1=>∃D,v= .ref D/\H D=ζ/\H1=n5 (n5 H a (.frz o (.dK xs))) D (.lst vs)) I1 ?_
 ·refine E2 hR λv s1 ⟨x',H1,I2,r2,D,ex,hD,eH⟩=> ?_
  subst ex eH
  have hne:D≠a:=λz=>by rw [z,ha] at hD;cases hD
  refine⟨.ref D,n5 H D (.lst vs), ?_,r2,q D hD⟩
  have hfa:n5 (n5 H a (.frz o (.dK xs))) D (.lst vs) a=ξ (.frz o (.dK xs)):=by rw [f9 (Ne.symm hne),g8]
  have:=j4.unfrz I2 hfa h0
  have eq:n5 (n5 (n5 H a (.frz o (.dK xs))) D (.lst vs)) a (.dK xs)=n5 H D (.lst vs):=by
   funext b
   unfold n5
   by_cases h1:b=a
   ·rw [if_pos h1,h1,if_neg (Ne.symm hne),ha]
   ·rw [if_neg h1,if_neg h1]
  rw [eq] at this
  exact this
 ·refine⟨.ref a,hσ,a,o,xs,rfl,g8,λD hD=> ?_⟩
  have hDa:D≠a:=λz=>by rw [z,g8] at hD;cases hD
  have hD':H D=ζ:=by rw [f9 hDa] at hD;exact hD
  refine⟨λi m ys H2=>m=xs.length - i/\i<=xs.length/\ys=vs.take i/\H2=n5 (n5 H a (.frz o (.dK xs))) D (.lst ys),⟨xs.length,by simp,Nat.zero_le _,by simp,rfl⟩, ?_⟩
  rintro j m ys H2 ⟨rfl,hj,rfl,rfl⟩ -
  have hfa:∀zs,n5 (n5 H a (.frz o (.dK xs))) D (.lst zs) a=ξ (.frz o (.dK xs)):=λzs=>by rw [f9 (Ne.symm hDa),g8]
  by_cases hlt:j<xs.length
  ·refine .inr ⟨⟨hfa _,hlt⟩,λv H3 ⟨e3,pr,hp,e4⟩=> ?_⟩
   subst e3 e4
   obtain⟨v,hv1,hv2⟩:=hv j pr hp
   refine⟨λjj w hw=> ?_, ?_⟩
   ·by_cases hjj:jj=X.N.length
    ·subst hjj
     rw [<-I.len] at hw
     simp at hw
    ·rw [List.getElem?_set_ne (Ne.symm hjj)];exact hw
   ·dsimp only [c1A]
    rw [if_pos rfl]
    have hil:i<σ.length:=(Al.mp hσ).1
    refine⟨.ref a, ?_,kV pr.1, ?_,a,v,rfl, ?_,g8, ?_,xs.length - (j+1),by lia,rfl,hlt, ?_, ?_⟩
    ·rw [List.getElem?_set_ne (by rw [<-I.len];lia),BC hil];exact hσ
    ·rw [BI (by rw [<-I.len];simp)]
    ·rw [<-hv2];exact .inl ⟨xs,pr.1,.inr ⟨o,hfa _⟩,rfl,rfl⟩
    ·rw [List.length_take];lia
    ·rw [List.take_succ,hv1];rfl
    ·rw [b45]
  ·have ej:j=xs.length:=by lia
   refine .inl ⟨⟨hfa _,ej.symm⟩,D,rfl,hD', ?_⟩
   rw [ej,<-hl,List.take_length]
theorem b9s{K:AD}{F:Hp}{kvs:Γ}{xs:List (k4×V)}(rl:v9 K F kvs (xs.map s1)):∀{es:Γ} {ys:List (k4×V)} {rs:List PV},v9 K F es (ys.map s1)->(es.mapM λe=>p7 kvs e.1)=ξ rs->
 ∃vs,m7 K F rs vs/\vs.length=ys.length/\∀(j:Nat) p,ys[j]?=ξ p->∃v,vs[j]?=ξ v/\U0 xs p.1=ξ v
 |[],[],_,_,h=>by cases h;exact⟨[],rfl,rfl,λj p z=>by simp at z⟩
 |[],y::ys,_,r,_=>by cases r
 |(k,q)::es,[],_,⟨_,_,e,_⟩,_=>by cases e
 |(k,q)::es,y::ys,rs,⟨v,t,e,rv,rt⟩,h=>by
  injection e with e1 e2
  subst e2;have ek:[y.1]=k:=by have:=congrArg Prod.fst e1;exact this
  rw [List.mapM_cons] at h;obtain⟨r1,h1,h⟩:=bind_some h;obtain⟨rs',h2,h⟩:=bind_some h;cases h;obtain⟨vs,g1,g2,g3⟩:=b9s rl rt h2;have h1:p7 kvs [y.1]=ξ r1:=by rw [ek];exact h1
  obtain⟨u,hu,ru⟩:=(rl.val (k:=[y.1])).1 _ h1;rw [a55] at hu;refine⟨u::vs,⟨u,vs,rfl,ru,g1⟩,by rw [AT,AT,g2],λj p z=> ?_⟩
  cases j with
  |zero=>cases z;exact⟨u,rfl,hu⟩
  |succ j=>exact g3 j p z
end
set_option maxHeartbeats 3200000
section
variable {prog:AS}{w:AL}{A:AU}{E:AA->AE->Prop}{s:AE}
end
end PU
set_option maxHeartbeats 1000000
namespace PU
open L2
section
variable {X:Cx}
def a62(i:Nat):M:=λρ=>(tvw i ρ).bind λkvs=>if kvs.length<AQ then(kvs.mapM λe=>p7 kvs e.1).map .own else ζ
theorem b5t(i:Nat)(hx:∀e s,X.xe e s->False)(hc:X.calm=true)(S:C5 X.N N0 [y] X.env scope)
 (hd:PE X (.Name x p) (G9 i)) (hu:X.A.units+64<cLine) (hg:∀C fp pins s H,PG (t6 X N0 scope [y] C fp pins s H) (.Name y p2) (a4K X.N.length)) (he1:∀C fp pins s H,PE (t6 X N0 scope [y] C fp pins s H) (.Name x p3) (G9 i))
 (he2:∀C fp pins s H,PE (t6 X N0 scope [y] C fp pins s H) (.Name y p4) (G9 X.N.length)) (hs:∀x',foldedSetIterable (.Name x p) X.env x'=pure x':=by intro _;rfl):
 EE X (.ListComp (.Subscript (.Name x p3) (.Name y p4) sp) [⟨.Name y p2,.Name x p,[],0⟩] scope pos) (a62 i):=
 u5 (b8I i hx hc S hd (by lia) hg he1 he2 hs) λσ H Q h0=>u0 h0 λF ρ r en e k=>by
  obtain⟨kvs,eo,e⟩:=bind_some e;split at e
  ·rename_i hl;obtain⟨a,xs,hw1,ha',rl⟩:=b9m en eo;cases hm:kvs.mapM λe=>p7 kvs e.1 with
   |none=>rw [hm] at e;cases e
   |some rs=>
    rw [hm] at e;cases e;obtain⟨vs,g1,g2,g3⟩:=b9s rl rl hm
    ext s
    exact⟨a,xs,vs,hw1,en.fh _ _ ha',by rw [hlen];exact hl,⟨g2,g3⟩,λD hD=>k _ F _ (w8.lst en.fh hD g1)⟩
  ·cases e
theorem b4S{K:AD}{F:Hp}:∀{kvs:Γ} {xs:List (List k4×V)},v9 K F kvs xs->∀{q},q∈xs->∃e∈kvs,e.1=q.1
 |[],_,r,q,h=>by cases r;cases h
 |(k,p)::r,_,⟨v,t,e,rv,rt⟩,q,h=>by
  subst e;rcases AX.mp h with rfl|h
  ·exact⟨(k,p),AZ,rfl⟩
  ·obtain⟨e,he,e1⟩:=b4S rt h;exact⟨e,Ag _ he,e1⟩
def qK(xs:List (k4×V))(z:Int)(p:k4×V):Bool:=decide (U0 xs p.1=ξ (.int z))
def c3g(i j:Nat):TE:=λσ H Q=>∃a xs z,σ[i]?=ξ (ξ (.ref a))/\σ[j]?=ξ (ξ (.int z))/\H a=ξ (.dK xs)/\xs.length<AQ/\(∀p∈xs,∃k:Int,U0 xs p.1=ξ (.int k))/\∀D,H D=ζ->Q (.ref D) (n5 H D (.lst ((xs.filter (qK xs z)).map λp=>kV p.1)))
theorem b8H(i j:Nat)(hx:∀e s,X.xe e s->False)(hc:X.calm=true)(S:C5 X.N N0 [y] X.env scope)
 (hd:PE X (.Name x p) (G9 i)) (hu:X.A.units+1<cLine) (hg:∀C fp pins s H,PG (t6 X N0 scope [y] C fp pins s H) (.Name y p2) (a4K X.N.length)) (he1:∀C fp pins s H,PE (t6 X N0 scope [y] C fp pins s H) (.Name x p3) (G9 i))
 (he2:∀C fp pins s H,PE (t6 X N0 scope [y] C fp pins s H) (.Name y p4) (G9 X.N.length)) (he3:∀C fp pins s H,PE (t6 X N0 scope [y] C fp pins s H) (.Name u p5) (G9 j)) (he4:∀C fp pins s H,PE (t6 X N0 scope [y] C fp pins s H) (.Name y p6) (G9 X.N.length)) (hs:∀x',foldedSetIterable (.Name x p) X.env x'=pure x':=by intro _;rfl):
 PE X (.ListComp (.Name y p6) [⟨.Name y p2,.Name x p,[.Compare (.Subscript (.Name x p3) (.Name y p4) sp) [.Eq] [.Name u p5] cp],0⟩] scope pos) (c3g i j):=by
 intro pins s σ H Q I ⟨a,xs,z,hσ,hj,ha,hz,hv,q⟩
 obtain⟨o,I1⟩:=j4.frzD I ha
 have h0:∀o u,X.H₀ a≠ξ (.frz o u):=λo u z=>by have:=I.base.frzs a o u z;rw [ha] at this;cases this
 have hR:=b1d (X:=X) (pos:=pos) hx hc S (b8N hd) hg (λC fp pins s H=>b4M (b4Q (X:=t6 X N0 scope [y] C fp pins s H) (pos:=cp) c37 (a44 (X:=t6 X N0 scope [y] C fp pins s H) (pos:=sp) hu (he1 C fp pins s H) (he2 C fp pins s H) (by intro _ _;rfl)) (he3 C fp pins s H) (a1M _))) he4 hs pins s σ (n5 H a (.frz o (.dK xs)))
  (λv H1=>∃D,v= .ref D/\H D=ζ/\H1=n5 (n5 H a (.frz o (.dK xs))) D (.lst ((xs.filter (qK xs z)).map λp=>kV p.1))) I1 ?_
 ·refine E2 hR λv s1 ⟨x',H1,I2,r2,D,ex,hD,eH⟩=> ?_
  subst ex eH
  have hne:D≠a:=λz=>by rw [z,ha] at hD;cases hD
  refine⟨.ref D,n5 H D (.lst ((xs.filter (qK xs z)).map λp=>kV p.1)), ?_,r2,q D hD⟩
  have hfa:n5 (n5 H a (.frz o (.dK xs))) D (.lst ((xs.filter (qK xs z)).map λp=>kV p.1)) a=ξ (.frz o (.dK xs)):=by rw [f9 (Ne.symm hne),g8]
  have:=j4.unfrz I2 hfa h0
  have eq:n5 (n5 (n5 H a (.frz o (.dK xs))) D (.lst ((xs.filter (qK xs z)).map λp=>kV p.1))) a (.dK xs)=n5 H D (.lst ((xs.filter (qK xs z)).map λp=>kV p.1)):=by
   funext b
   unfold n5
   by_cases h1:b=a
   ·rw [if_pos h1,h1,if_neg (Ne.symm hne),ha]
   ·rw [if_neg h1,if_neg h1]
  rw [eq] at this
  exact this
 ·refine⟨.ref a,hσ,a,o,xs,rfl,g8,λD hD=> ?_⟩
  have hDa:D≠a:=λz=>by rw [z,g8] at hD;cases hD
  have hD':H D=ζ:=by rw [f9 hDa] at hD;exact hD
  refine⟨λi m ys H2=>m=xs.length - i/\i<=xs.length/\ys=((xs.take i).filter (qK xs z)).map (λp=>kV p.1)/\H2=n5 (n5 H a (.frz o (.dK xs))) D (.lst ys),⟨xs.length,by simp,Nat.zero_le _,by simp,rfl⟩, ?_⟩
  rintro jj m ys H2 ⟨rfl,hjj,rfl,rfl⟩ -
  have hfa:∀zs,n5 (n5 H a (.frz o (.dK xs))) D (.lst zs) a=ξ (.frz o (.dK xs)):=λzs=>by rw [f9 (Ne.symm hDa),g8]
  have hil:i<σ.length:=(Al.mp hσ).1
  have hjl:j<σ.length:=(Al.mp hj).1
  by_cases hlt:jj<xs.length
  ·refine .inr ⟨⟨hfa _,hlt⟩,λv H3 ⟨e3,pr,hp,e4⟩=> ?_⟩
   subst e3 e4
   obtain⟨k,hk⟩:=hv pr (BE hp)
   have ht:xs.take (jj+1)=xs.take jj++[pr]:=by rw [List.take_succ,hp];rfl
   refine⟨λq w hw=> ?_, ?_⟩
   ·by_cases hq:q=X.N.length
    ·subst hq
     rw [<-I.len] at hw
     simp at hw
    ·rw [List.getElem?_set_ne (Ne.symm hq)];exact hw
   ·refine⟨.ref a, ?_,kV pr.1, ?_,a,.int k,rfl, ?_,.int z, ?_,⟨rfl,_,rfl, ?_⟩⟩
    ·rw [List.getElem?_set_ne (by rw [<-I.len];lia),BC hil];exact hσ
    ·rw [BI (by rw [<-I.len];simp)]
    ·rw [<-hk];exact .inl ⟨xs,pr.1,.inr ⟨o,hfa _⟩,rfl,rfl⟩
    ·rw [List.getElem?_set_ne (by rw [<-I.len];lia),BC hjl];exact hj
    ·by_cases c:k=z
     ·subst c
      rw [show(decide (V.int k=V.int k))=true by simp]
      dsimp only
      rw [if_pos rfl]
      have hq:qK xs k pr=true:=by unfold qK;rw [hk];simp
      have hf:((xs.take (jj+1)).filter (qK xs k)).map (λp=>kV p.1)=((xs.take jj).filter (qK xs k)).map (λp=>kV p.1)++[kV pr.1]:=by
       rw [ht,List.filter_append,BF,List.filter_cons,if_pos hq];rfl
      refine⟨kV pr.1,by rw [BI (by rw [<-I.len];simp)],g8, ?_,xs.length - (jj+1),by lia,rfl,hlt,hf.symm, ?_⟩
      ·have h1:=List.length_filter_le (qK xs k) (xs.take jj)
       rw [AN]
       rw [List.length_take] at h1
       lia
      ·rw [b45]
     ·rw [show(decide (V.int k=V.int z))=false by simp [c]]
      dsimp only
      rw [if_neg As]
      have hq:¬qK xs z pr=true:=by unfold qK;rw [hk];simp [c]
      have hf:((xs.take (jj+1)).filter (qK xs z)).map (λp=>kV p.1)=((xs.take jj).filter (qK xs z)).map (λp=>kV p.1):=by
       rw [ht,List.filter_append,List.filter_cons,if_neg hq];simp
      exact⟨g8,xs.length - (jj+1),by lia,rfl,hlt,hf.symm,rfl⟩
  ·have ej:jj=xs.length:=by lia
   refine .inl ⟨⟨hfa _,ej.symm⟩,D,rfl,hD', ?_⟩
   rw [ej,List.take_length]
def kPV:List k4->PV
 |[.inr x]=> .str x
 |[.inl i]=> .int i
 |_=> .none
def qP(kvs:Γ)(z:Int)(e:List k4×PV):Bool:=match p7 kvs e.1 with
 |some (.int k)=>decide (k=z)
 |_=>false
def b9F(kvs:Γ):Bool:=kvs.all λe=>match p7 kvs e.1 with
 |some (.int _)=>true
 |_=>false
def a61(i j:Nat):M:=λρ=>(tvw i ρ).bind λkvs=>match ρ[j]? with
 |some (ξ (.v (.int z)))=>if kvs.length<AQ/\b9F kvs=true then ξ (.own ((kvs.filter (qP kvs z)).map λe=>kPV e.1)) else ζ
 |_=>ζ
theorem b4B{K:AD}{F:Hp}{kvs:Γ}{xs:List (k4×V)}(rl:v9 K F kvs (xs.map s1))(z:Int)(hall:∀p∈xs,∃k:Int,U0 xs p.1=ξ (.int k)/\p7 kvs [p.1]=ξ (.int k)):∀{es:Γ} {ys:List (k4×V)},v9 K F es (ys.map s1)->(∀p∈ys,p∈xs)->
 m7 K F ((es.filter (qP kvs z)).map λe=>kPV e.1) ((ys.filter (qK xs z)).map λp=>kV p.1)
 |[],[],_,_=>rfl
 |[],y::ys,r,_=>by cases r
 |(k,q)::es,[],⟨_,_,e,_⟩,_=>by cases e
 |(k,q)::es,y::ys,⟨v,t,e,rv,rt⟩,hs=>by
  injection e with e1 e2
  subst e2;have ek:[y.1]=k:=by have:=congrArg Prod.fst e1;exact this
  subst ek;have ih:=b4B rl z hall rt λp hp=>hs p (Ag _ hp);obtain⟨k,h1,h2⟩:=hall y (hs y AZ);have a1:qK xs z y=decide (k=z):=by unfold qK;rw [h1];simp
  have a2:qP kvs z ([y.1],q)=decide (k=z):=by unfold qP;simp only [h2]
  rw [List.filter_cons,List.filter_cons,a1,a2]
  by_cases c:k=z
  ·rw [decide_eq_true c,if_pos rfl,if_pos rfl,AI,AI];refine⟨_,_,rfl, ?_,ih⟩;cases hy:y.1 with
   |inl i=>exact rfl
   |inr x=>exact rfl
  ·rw [decide_eq_false c,if_neg As,if_neg As];exact ih
theorem c3X{K:AD}{F:Hp}{kvs:Γ}{xs:List (k4×V)}(rl:v9 K F kvs (xs.map s1))(c:b9F kvs=true)(p:k4×V)(hp:p∈xs):∃k:Int,U0 xs p.1=ξ (.int k)/\p7 kvs [p.1]=ξ (.int k):=by
 have hk:∃e∈kvs,e.1=[p.1]:=b4S rl (Ae.mpr ⟨p,hp,rfl⟩);obtain⟨e,he,e1⟩:=hk;have:=List.all_eq_true.mp c e he;rw [e1] at this;cases hv:p7 kvs [p.1] with
 |none=>rw [hv] at this;cases this
 |some q=>
  rw [hv] at this;cases q with
  |int k=>
   obtain⟨u,hu,ru⟩:=(rl.val (k:=[p.1])).1 _ hv;rw [a55] at hu;cases ru;exact⟨k,hu,rfl⟩
  |_=>cases this
theorem b5s(i j:Nat){x y u:Str}{p p2 p3 p4 p5 p6 sp cp pos:Pos}{scope:Scope}{N0:List Str}(hx:∀e s,X.xe e s->False)(hc:X.calm=true)(S:C5 X.N N0 [y] X.env scope)
 (hd:PE X (.Name x p) (G9 i)) (hu:X.A.units+64<cLine) (hg:∀C fp pins s H,PG (t6 X N0 scope [y] C fp pins s H) (.Name y p2) (a4K X.N.length)) (he1:∀C fp pins s H,PE (t6 X N0 scope [y] C fp pins s H) (.Name x p3) (G9 i))
 (he2:∀C fp pins s H,PE (t6 X N0 scope [y] C fp pins s H) (.Name y p4) (G9 X.N.length)) (he3:∀C fp pins s H,PE (t6 X N0 scope [y] C fp pins s H) (.Name u p5) (G9 j)) (he4:∀C fp pins s H,PE (t6 X N0 scope [y] C fp pins s H) (.Name y p6) (G9 X.N.length)) (hs:∀x',foldedSetIterable (.Name x p) X.env x'=pure x':=by intro _;rfl):
 EE X (.ListComp (.Name y p6) [⟨.Name y p2,.Name x p,[.Compare (.Subscript (.Name x p3) (.Name y p4) sp) [.Eq] [.Name u p5] cp],0⟩] scope pos) (a61 i j):=
 u5 (b8H i j hx hc S hd (by lia) hg he1 he2 he3 he4 hs) λσ H Q h0=>u0 h0 λF ρ r en e k=>by
  obtain⟨kvs,eo,e⟩:=bind_some e;split at e
  ·rename_i z ez;split at e
   ·rename_i c;cases e;obtain⟨a,xs,hw1,ha',rl⟩:=b9m en eo;obtain⟨w,hz,rz⟩:=en.at_ j _ ez;cases rz
    ext s
    have hall:=c3X rl c.2;refine⟨a,xs,z,hw1,hz,en.fh _ _ ha',by rw [hlen];exact c.1,λp hp=>let ⟨k,h,_⟩:=hall p hp;⟨k,h⟩,λD hD=>k _ F _ (w8.lst en.fh hD (b4B rl z hall rl λp hp=>hp))⟩
   ·cases e
  ·cases e
end
def a5x(x y:g5):Υ g5:=match x,y with
 | .v (.str z),.v (.str y)=>ξ (.v (.int (Txt.count z y)))
 |_,_=>ζ
section
variable {X:Cx}
theorem b8o:MtR X "str.count" (λx xs H Q=>∃F y rx ry rz,xs=[y]/\m3 F H/\M5 X.K F H x rx/\M5 X.K F H y ry/\a5x rx ry=ξ rz/\∀v F' H',w8 X.K F H F' H' v rz->Q v H'):=by
 intro pins s σ H x xs v us Q I rx rv h;obtain⟨F,y,ra,rb,rz,rfl,s0,h1,h2,h3,k⟩:=h;obtain⟨u,rfl,ru⟩:=a0R rv;unfold a5x at h3;split at h3
 ·rename_i z y;cases h3;cases h1;cases h2;obtain⟨t,rfl⟩:=rx;obtain⟨t2,rfl⟩:=ru;exact call_gives PySem.F.slot_str_count (typeIs_str _ _ _) PySem.F.entry_str_count (PySem.F.args_str_count_2 _ _) (gives_str_count z y t t2) ⟨.int _,H,I.tok _,⟨_,rfl⟩,k _ F H (w8.here s0 rfl)⟩
 ·cases h3
theorem b7e(ho:EE X o m)(ha:EE X e n)
 (hbase:attributeBase o "count" X.env (eval o X.env)=eval o X.env:=by rfl)
 (hfew:((backTo cpos (AJ [e] X.env)).all (λx=> !x.1)&&(backToKw cpos (keywordEach [] X.env)).all (λx=>x.1.isSome)
  && decide ([e].length+([]:List Keyword).length+(if([]:List Keyword).isEmpty then 0 else 1)<30))=true:=by rfl)
 (hline:(apos.endLine==cpos.line)=true:=by rfl) (hs:AJ [e] X.env=(false,eval e X.env)::AJ [] X.env:=by rfl) (hplain:(backTo cpos (AJ [] X.env)).any (·.1)=false:=by rfl):
 EE X (.Call (.Attribute o "count" apos) [e] [] cpos) (m2 a5x m n):=
 u5 (b8F PySem.F.plainAttrs_str PySem.F.slot_str_count PySem.F.type_str_count b8o ho (y0 ha O3 hs) hbase hfew hline hs hplain) λσ H Q h0=>u0 h0 λF ρ r he hm k=>by
  ext f
  unfold a5x at hm;split at hm
  ·cases o1.rep;rfl
  ·cases hm
noncomputable def a2J:List PV->Υ (List Int)
 |[]=>ξ []
 | .int i::r=>(a2J r).map (i::·)
 |_=>ζ
def a14(is:List Int):Int:=is.getD (argBest (λi j=>decide (is.getD i 0>is.getD j 0)) (is.length - 1)) 0
def a9K(x:g5):Υ g5:=match x with
 | .ow (.lst ps)=>(a2J ps).bind λis=>if 0<is.length then ξ (.v (.int (a14 is))) else ζ
 |_=>ζ
theorem a7Q{K:AD}{F:Hp}:∀{ps:List PV} {is:List Int} {xs:List V},a2J ps=ξ is->m7 K F ps xs->xs=is.map V.int
 |[],_,_,h,r=>by cases h;cases r;rfl
 |p::ps,is,xs,h,⟨v,vs,e,rv,rt⟩=>by
  subst e;cases p with
  |int z=>
   cases hs:a2J ps with
   |none=>simp [a2J,hs] at h
   |some is'=>
    have h:is=z::is':=by simpa [a2J,hs] using h.symm
    subst h;have e1:=a7Q hs rt;cases rv;rw [e1];rfl
  |_=>simp [a2J] at h
theorem a8N:∀{is:List Int} {its:List AA},t0 (is.map V.int) its->∃xs:List (Int×Tok),xs.map (·.1)=is/\its=xs.map λp=>Value.int p.1 p.2
 |[],_,.nil=>⟨[],rfl,rfl⟩
 |i::is,_,.cons r t=>by
  obtain⟨xs,h1,h2⟩:=a8N t;obtain⟨u,rfl⟩:=r;exact⟨(i,u)::xs,by rw [AI,h1],by rw [AI,h2]⟩
theorem b39(hc:X.calm=true):E4 X (.builtin "max") (rC1 X.K a9K):=by
 ext b
 obtain⟨u,rfl,ru⟩:=a0R rv;unfold a9K at h2;split at h2
 ·rename_i ps;obtain⟨is,e1,h2⟩:=bind_some h2;split at h2
  ·rename_i c;cases h2;obtain⟨a,ys,rfl,fa,ha,rl⟩:=h1;cases ru;have ey:=a7Q e1 rl;subst ey;obtain⟨_,its,n,vv,e⟩:=(show z8 X.prog X.w H s.heap a (.lst (is.map V.int)) from I.hok a _ ha);obtain⟨zs,hz1,hz2⟩:=a8N vv;have hit:its.toArray=intItems zs.toArray:=by rw [hz2];simp [intItems]
   have hat:∀i,numAt zs.toArray i=is.getD i 0:=λi=>by
    unfold numAt;rw [<-hz1,List.getD_eq_getElem?_getD,Ak];simp
   have hlen:zs.length=is.length:=by rw [<-hz1,AN]
   refine max_intList (l:=a) (xs:=zs.toArray) (I.ok.hd hc) ⟨_,e,rfl,n,by rw [hit]⟩ (by simp;lia) λv h' tk hv hk=> ?_
   obtain⟨t,rfl⟩:=intItems_at hv;have hb:numAt zs.toArray (argBest (λi j=>decide (numAt zs.toArray i>numAt zs.toArray j)) (zs.toArray.size - 1))=a14 is:=by
    unfold a14;rw [hat,show zs.toArray.size=is.length by simp [hlen]]
    congr 2
    funext i j
    rw [hat,hat]
   rw [hb];exact⟨.int (a14 is),H,I.kept (t':=tk) hk,⟨t,rfl⟩,k _ F H (w8.here s0 rfl)⟩
  ·cases h2
 ·cases h2
end
def b8f:MS:=λ_=>ζ
theorem b7o{X:Cx}{st:Stmt}:ES X st b8f:=B0 b8Q λD σ H h0=>D9 h0 λF0 H0 F ρ fl so e fin=>by cases e
section
variable {X:Cx}
end
end PU
set_option maxHeartbeats 2000000
namespace PU
open L2 PySem.W
section
variable {prog:AS}{w:AL}{A:AU}{E:AA->AE->Prop}{s:AE}
end
section
variable {X:Cx}
end
section
variable {P:AS}{w:AL}{K:AD}{mg:Str->Υ AA}{base:Heap}
theorem b4n{x:Str}{st:Stmt}{N ps:List Str}{k:Nat}{m:MX}(D:Df K mg x st)(S:j6 N ps (f6 st))
 (hi:∀(kV doc pm:AA) (an:Υ AB) (cdv ct:AA) (us:List AA),us.length=ps.length->bindArgs (PySem.W.fnOf x x (P5 st) (B2 st) (f6 st) .none kV doc pm an cdv ct) ⟨us,[]⟩=pure (ps.zip us))
 (hb:∀(f:AB) (cdv:AA) (A:AU) (outer:List Env) (s:AE) (H:Hp) (E:XK),G8 k (A.deeper (envOfC x (f6 st) s.heap.objs.size f cdv))->a1s (CX1 P w) (a2w (CX1 P w) P w K mg base N x (f6 st) f cdv A outer s H E) (λ_=>E)->EXs (a2w (CX1 P w) P w K mg base N x (f6 st) f cdv A outer s H E) (λ_=>E) (B2 st) m):
 a7e P w K mg base x ps (k+1) (b84 (N.length - ps.length) m):=
 let ⟨f,fd,F,hm⟩:=D
 ⟨f,fd,c18 F S λcdv A outer s H E hr=>hb f cdv A outer s H E hr λpins σ H s e s' I h=>b3p pins σ H s e s' I h,hm,F.kp,F.binds hi⟩
end
open L2
end PU
set_option maxHeartbeats 1000000
namespace PU
open L2
section
open PySem.AutoSeq1 (wpAny_loadPart')
open PySem.MeetsSeq3 (plain_eq_loop entry_eq_loop)
theorem b55(l b:AB)(xs ys:Array AA)(n n2:Nat)(dd dd2:Υ AB)(sl sl2:Array (Υ AA))(e:Nat->Bool)(c:Bool)(k:Nat):
 ∀i:Nat,min xs.size ys.size - i=k->i<=min xs.size ys.size->(∀j,j<i->e j=true)->Meets (Builtin.«list.__eq__.loop» ⟨[.ref l,.ref b,rawInt i,rawInt 0],[]⟩)
  (λA R s=>s.heap.get? l=ξ {cls:= .type "list",dict:=dd,data:= .seq xs n,slots:=sl}/\s.heap.get? b=ξ {cls:= .type "list",dict:=dd2,data:= .seq ys n2,slots:=sl2}/\
   (∀j (h1:j<xs.size) (h2:j<ys.size),SeqAt.EqAt A.in1 s xs[j] ys[j] (e j))/\(∀j (h1:j<xs.size) (h2:j<ys.size),(∀k,k<j->e k=true)->e j=false->a4r A.in1 s xs[j] ys[j] c)/\
   ((∀k,k<min xs.size ys.size->e k=true)->c=decide (xs.size<ys.size))/\R (.ok (.ret (.bool c))) s):=by
 induction k with
 |zero=>
  intro i hk hi hb4 prog w A R s h
  obtain⟨hp,g,d,tk,os⟩:=s;obtain⟨hl,hb,he,hlt,hce,h⟩:=h
  have hce':=hce λk hk'=>hb4 k (by lia)
  wp_walk using wpAny_loadPart' hl,wpAny_loadPart' hb
  rcases Nat.lt_or_ge i xs.size with h1|h1
  ·have h2:ys.size<=i:=by lia
   have hi1:xs[((i:Nat):Int).toNat]?=ξ xs[i]:=by simp [h1]
   have hi2:ys[((i:Nat):Int).toNat]?=ζ:=by simp;lia
   rw [hi1,hi2]
   wp_walk using wpAny_loadPart' hl,wpAny_loadPart' hb
   show R (.ok (.ret (.bool (decide (xs.size<ys.size))))) _
   rw [<-hce'];exact h
  ·have hi1:xs[((i:Nat):Int).toNat]?=ζ:=by simp;lia
   rw [hi1]
   wp_walk using wpAny_loadPart' hl,wpAny_loadPart' hb
   show R (.ok (.ret (.bool (decide (xs.size<ys.size))))) _
   rw [<-hce'];exact h
 |succ k ih=>
  intro i hk hi hb4 prog w A R s h
  obtain⟨hp,g,d,tk,os⟩:=s;obtain⟨hl,hb,he,hlt,hce,h⟩:=h
  wp_walk using wpAny_loadPart' hl,wpAny_loadPart' hb
  have h1:i<xs.size:=by lia
  have h2:i<ys.size:=by lia
  have hi1:xs[((i:Nat):Int).toNat]?=ξ xs[i]:=by simp [h1]
  have hi2:ys[((i:Nat):Int).toNat]?=ξ ys[i]:=by simp [h2]
  have hc:((i:Int)+1)=((i+1:Nat):Int):=by push_cast;rfl
  rw [hi1,hi2]
  refine AC (he i h1 h2 prog w _ _ ?_)
  cases hq:e i with
  |true=>
   wp_walk
   rw [hc]
   exact⟨plainId_quiet plain_eq_loop _,codeAny_builtin entry_eq_loop (by
    rw [Around.under_plainId plain_eq_loop _];exact ih (i+1) (by lia) (by lia) (λj hj=>by
     rcases Nat.lt_or_ge j i with h'|h'
     ·exact hb4 j h'
     ·rw [show j=i by lia];exact hq) prog w A R _ ⟨hl,hb,he,hlt,hce,h⟩)⟩
  |false=>
   have hl3:=hlt i h1 h2 hb4 hq
   wp_walk using wpAny_loadPart' hl,wpAny_loadPart' hb
   rw [hi1,hi2]
   show AG _ A.in1 (richCompare .Lt xs[i] ys[i]>>=λv=>ret v) _ _ _
   refine AC (hl3 prog w _ _ ?_)
   exact AH h
theorem a80(l b:AB)(xs ys:Array AA)(n n2:Nat)(dd dd2:Υ AB)(sl sl2:Array (Υ AA))(e:Nat->Bool)(c:Bool):
 Meets (Builtin.«list.__lt__» ⟨[.ref l,.ref b],[]⟩)
  (λA R s=>s.heap.get? l=ξ {cls:= .type "list",dict:=dd,data:= .seq xs n,slots:=sl}/\s.heap.get? b=ξ {cls:= .type "list",dict:=dd2,data:= .seq ys n2,slots:=sl2}/\
   (∀j (h1:j<xs.size) (h2:j<ys.size),SeqAt.EqAt A.in1 s xs[j] ys[j] (e j))/\(∀j (h1:j<xs.size) (h2:j<ys.size),(∀k,k<j->e k=true)->e j=false->a4r A.in1 s xs[j] ys[j] c)/\
   ((∀k,k<min xs.size ys.size->e k=true)->c=decide (xs.size<ys.size))/\R (.ok (.ret (.bool c))) s):=by
 intro prog w A R s h
 obtain⟨hp,g,d,tk,os⟩:=s;obtain⟨hl,hb,he,hlt,hce,h⟩:=h
 have f3:=AutoSeq1.sub_list_list
 wp_walk using wpAny_loadPart' hl,wpAny_loadPart' hb
 exact⟨plainId_quiet plain_eq_loop _,codeAny_builtin entry_eq_loop (by
  rw [Around.under_plainId plain_eq_loop _];exact b55 l b xs ys n n2 dd dd2 sl sl2 e c _ 0 rfl (Nat.zero_le _) (λj hj=>by lia) prog w A R _ ⟨hl,hb,he,hlt,hce,h⟩)⟩
variable {A:AU}{s:AE}
end
open L2 PySem.W
abbrev PtL:=List (Int×Int)
def plv(p:Int×Int):PV:= .tuple [.int p.1,.int p.2]
def llv(L:PtL):PV:= .list (L.map plv)
def b8V:PV->Υ (Int×Int)
 | .tuple [.int a,.int b]=>ξ (a,b)
 |_=>ζ
def b53:PV->Υ PtL
 | .list qs=>qs.mapM b8V
 |_=>ζ
theorem c0L(h:b8V p=ξ q):p=plv q:=by
 unfold b8V at h;split at h
 ·cases h;rfl
 ·cases h
theorem a75{α β:Type}{f:α->Υ β}{g:β->α}(hf:∀a b,f a=ξ b->a=g b):∀{l:List α} {m:List β},l.mapM f=ξ m->l=m.map g
 |[],m,h=>by cases h;rfl
 |a::l,m,h=>by
  rw [List.mapM_cons] at h;obtain⟨b,h1,h⟩:=bind_some h;obtain⟨m',h2,h⟩:=bind_some h;cases h;rw [AI,hf a b h1,a75 hf h2]
theorem c0n{p:PV}{L:PtL}(h:b53 p=ξ L):p=llv L:=by
 unfold b53 at h;split at h
 ·rename_i qs;unfold llv;rw [a75 (λa b=>c0L) h]
 ·cases h
def flK(L:PtL):List k4:=L.flatMap λp=>[.inl p.1,.inl p.2]
def ltF(a b:PtL):Bool:=R4 (flK a) (flK b)
theorem a1e(p:Int×Int)(L:PtL):flK (p::L)= .inl p.1:: .inl p.2::flK L:=rfl
theorem b4l:∀{a b:PtL},flK a=flK b->a=b
 |[],[],_=>rfl
 |[],p::r,h=>by rw [a1e] at h;cases h
 |p::r,[],h=>by rw [a1e] at h;cases h
 |p::r,q::t,h=>by
  rw [a1e,a1e] at h;injection h with h1 h
  injection h with h2 h
  rw [b4l h,show p=q from Prod.ext (Sum.inl.inj h1) (Sum.inl.inj h2)]
theorem b4D:b2V ltF:=⟨λa b c h1 h2=>a0m.tr _ _ _ h1 h2,λa b h=>a0m.as _ _ h,λa b h1 h2=>b4l (a0m.an _ _ h1 h2)⟩
theorem b91(p q:Int×Int):η (plv p) (plv q)=decide (p=q):=by
 obtain⟨a,b⟩:=p;obtain⟨x,y⟩:=q;rw [Bool.eq_iff_iff,decide_eq_true_eq,Prod.mk.injEq];simp [plv,η,θ]
theorem b8a:∀L M:PtL,a35 (L.map plv) (M.map plv)=ξ (ltF L M)
 |[],[]=>rfl
 |[],q::t=>rfl
 |p::r,[]=>rfl
 |p::r,q::t=>by
  rw [AI,AI];unfold a35;rw [b91];unfold ltF;rw [a1e,a1e]
  by_cases c:p=q
  ·subst c;rw [decide_eq_true rfl,if_pos rfl,b8a r t];show _=ξ (R4 (.inl p.1:: .inl p.2::flK r) (.inl p.1:: .inl p.2::flK t));unfold R4;rw [if_pos rfl]
   conv=>rhs;unfold R4
   rw [if_pos rfl]
   rfl
  ·rw [decide_eq_false c,if_neg As];show a35 [.int p.1,.int p.2] [.int q.1,.int q.2]=_;unfold a35;unfold R4
   by_cases c1:p.1=q.1
   ·have c2:p.2≠q.2:=λe=>c (Prod.ext c1 e);rw [if_pos (show η (.int p.1) (.int q.1)=true by simp [η,c1]),if_pos (by rw [c1])]
    unfold a35 R4;rw [if_neg (show ¬η (.int p.2) (.int q.2)=true by simp [η,c2]),if_neg (λe=>c2 (Sum.inl.inj e))]
    rfl
   ·rw [if_neg (show ¬η (.int p.1) (.int q.1)=true by simp [η,c1]),if_neg (λe=>c1 (Sum.inl.inj e))]
    rfl
def a6V(x:g5):Υ g5:=match PyData.items? x.rd with
 |some ps=>(ps.mapM b53).bind λLs=>if Ls.length<64 then ξ (.own ((a19 ltF Ls).map llv)) else ζ
 |none=>ζ
theorem b6e{prog:AS}{w:AL}{A:AU}{E:AA->AE->Prop}{s:AE}{l b:AB}{xs ys:Array AA}{e:Nat->Bool}{c:Bool}{Q:Bool->AE->Prop}(hl:s.heap.IsList l xs)(hb:s.heap.IsList b ys)(hu:A.units<cLine)
 (he:∀j (h1:j<xs.size) (h2:j<ys.size),SeqAt.EqAt A.in1 s xs[j] ys[j] (e j)) (hlt:∀j (h1:j<xs.size) (h2:j<ys.size),(∀k,k<j->e k=true)->e j=false->a4r A.in1 s xs[j] ys[j] c)
 (hce:(∀k,k<min xs.size ys.size->e k=true)->c=decide (xs.size<ys.size)) (h:Q c s):AG (model prog w) A (oneLt' true (.ref l) (.ref b)) Q E s:=by
 obtain⟨⟨c1,d1,t1,s1⟩,o1,e1,n1,k1⟩:=id hl
 obtain⟨⟨c2,d2,t2,s2⟩,o2,e2,n2,k2⟩:=id hb
 simp only at e1 k1 e2 k2
 subst e1 k1 e2 k2
 rw [oneLt'_eq]
 simp only [if_true]
 refine AC (wpAny_cRoomFor hu ?_)
 refine AC (wpAny_callSpecialIfBound?_slot ⟨_,o1,rfl⟩ PySem.F.slot_list_lt (call_meets PySem.F.slot_list_lt ⟨_,o1,rfl⟩ PySem.F.entry_list_lt (PySem.F.args_list_lt_2 _ _) (a80 l b xs ys n1 n2 d1 d2 s1 s2 e c) ⟨o1,o2,he,hlt,hce, ?_⟩))
 exact wpAny_truthy_bool h
section
variable {X:Cx}{pins:List (AB×Obj)}{σ:L2.St}{H:Hp}{s:AE}
def Gd(X:Cx)(H:Hp)(v:AA)(L:PtL):Prop:=∃x,m8 x v/\A3 X.K H (llv L) x
theorem c0F(h:plv p=plv q):p=q:=by
 unfold plv at h;injection h with h
 injection h with h1 h
 injection h with h2 _
 injection h1 with h1
 injection h2 with h2
 exact Prod.ext h1 h2
theorem c0m{L M:PtL}(h:llv L=llv M):L=M:=by
 unfold llv at h;injection h with h
 exact List.map_inj_right (λ_ _=>c0F)|>.mp h
theorem b75(L:PtL):n8 (llv L) 9=true:=by
 show w4 (L.map plv) 8=true
 induction L with
 |nil=>rfl
 |cons p L ih=>rw [AI,w4,ih];rfl
theorem Gd.uniq(I:j4 X pins σ H s){v:AA}{L M:PtL}(h:Gd X H v L)(g:Gd X H v M):L=M:=by
 obtain⟨x,r,h⟩:=h;obtain⟨y,t,g⟩:=g;obtain⟨a,xs,rfl,h1,h2⟩:=id h;obtain⟨b,ys,rfl,g1,g2⟩:=id g;cases r;cases t;exact c0m (A3.inj I _ _ (b75 _) (b75 _) h g)
def dec(X:Cx)(H:Hp)(v:AA):PtL:=by
 classical exact if h:∃L,Gd X H v L then h.choose else []
theorem b0A(I:j4 X pins σ H s){v:AA}{L:PtL}(h:Gd X H v L):dec X H v=L:=by
 have hx:∃L,Gd X H v L:=⟨L,h⟩;unfold dec;rw [dif_pos hx];exact Gd.uniq I hx.choose_spec h
theorem a41:∀{ps:List PV},(∀p∈ps,n8 p n=true)->w4 ps n=true
 |[],_=>by simp [w4]
 |p::ps,h=>by
  have h1:=h p AZ;have h2:=a41 λq hq=>h q (Ag _ hq);simp [w4,h1,h2]
theorem a63(L:PtL)(n:Nat):w4 (L.map plv) (n+2)=true:=a41 λp hp=>by
 obtain⟨x,_,rfl⟩:=Ae.mp hp;simp [plv,n8,w4]
theorem b5Z(I:j4 X pins σ H s){A:AU}{E:AA->AE->Prop}(hu:A.units+16<cLine):TS.Cmp X.prog X.w A E s oneType' (λx=>∃L,Gd X H x.1 L) (λx y=>ltF (dec X H x.1) (dec X H y.1)) where
 lt:=by
  rintro⟨x,x'⟩ ⟨y,y'⟩ ⟨L,hL⟩ ⟨M,hM⟩ st Q hκ h;dsimp only at*;rw [b0A I hL,b0A I hM] at h;rw [lt'_eq];refine wpS_bind (wpS_get ?_);rw [hκ];refine wpS_bind (wpS_lift (wpAny_attempt ?_));rw [keyLt'_oneType];obtain⟨vx,rx,a,xs,rfl,hs,r⟩:=hL;obtain⟨vy,ry,b,ys,rfl,hs',r'⟩:=hM;cases rx;cases ry;obtain⟨its,rv,pl,hz⟩:=I.list hs;obtain⟨its2,rv',pl',hz'⟩:=I.list hs';have hle:its.toArray.size=L.length:=by rw [<-AN (f:=plv),<-r.length,rv.length];simp
  have hle':its2.toArray.size=M.length:=by rw [<-AN (f:=plv),<-r'.length,rv'.length];simp
  have hu1:A.in1.units+4<cLine:=by rw [Z9];lia
  have he:=a5i (A:=A.in1) (s:=s) r r' rv rv' λp q x y u w hp' hq' rp' rq' rx' ry'=>a7D I 4 A.in1 p q x y u w hu1 (x6 (a63 L 2) hp') (x6 (a63 M 2) hq') rp' rq' rx' ry';refine b6e pl.isList pl'.isList (by lia) he (λj h1 h2 hk hj=> ?_) (λhk=> ?_) (c:=ltF L M) ?_
  ·have h1':j<its.length:=by simpa using h1
   have h2':j<its2.length:=by simpa using h2
   obtain⟨x,ex,rx⟩:=a0S rv h1';obtain⟨y,ey,ry⟩:=a0S rv' h2';obtain⟨p,ep,hp⟩:=r.getV ex;obtain⟨q,eq,hq⟩:=r'.getV ey;have:=c2x I 4 A.in1 p q x y _ _ (ltF L M) hu1 (x6 (a63 L 2) (BE ep)) (x6 (a63 M 2) (BE eq)) (b0X (b8a L M) j p q ep eq hk hj) hp hq rx ry
   simpa using this
  ·rw [hle,hle'];have:=a72 (b8a L M) λk hk'=>hk k (by rw [hle,hle'];simpa using hk')
   simpa using this
  ·exact⟨rfl,wpS_pure h⟩
 tr:=λx y z _ _ _=>b4D.tr _ _ _
 as:=λx y _ _=>b4D.as _ _
theorem b5n(hu:X.A.units+64<cLine):E4 X (.builtin "sorted") (rC1 X.K a6V):=by
 ext b
 unfold a6V at h2;split at h2
 ·rename_i ps e;obtain⟨Ls,e1,h2⟩:=bind_some h2;split at h2
  ·ext o
   have ep:=a75 (λa b=>c0n) e1;subst ep;have fin:∀(its:List AA) (T:String) (o:Obj) (n:Nat),(T="list"\/T="tuple")->s.heap.get? a=ξ o->o.cls= .type T->o.data= .seq its.toArray n->t0 xs its->AG (model X.prog X.w) X.A (call (.builtin "sorted") [.ref a]) (EP X pins σ Q) X.xe s:=by
    intro its T o n hT ho hc hd rvv;have hall:∀v∈its,∃L∈Ls,∃y,m8 y v/\A3 X.K F (llv L) y:=λv hv=>by
     obtain⟨i,hi,rfl⟩:=List.getElem_of_mem hv;obtain⟨y,ey,ry⟩:=a0S rvv hi;obtain⟨p,ep,hp⟩:=r.getV ey;rw [Ak] at ep;cases hL:Ls[i]? with
     |none=>rw [hL] at ep;cases ep
     |some L=>
      rw [hL] at ep;cases ep;exact⟨L,BE hL,y,ry,hp⟩
    have hlen:its.length=Ls.length:=by rw [<-rvv.length,r.length,AN]
    have gd:∀v∈its,∃L,Gd X H v L:=λv hv=>let ⟨L,_,y,ry,hp⟩:=hall v hv;⟨L,y,ry,A3.mono s0 _ hp⟩;refine TS.a8H (κ:=oneType') (S:=λx=>∃L,Gd X H x.1 L) (R:=λx y=>ltF (dec X H x.1) (dec X H y.1)) hT ho hc hd (by first|(rw [hlen];exact c)|(rw [hlen];lia)) (λh2 h' kp=>⟨λQ' hq'=> ?_, ?_⟩) gd λhp1 hp2 en us k1 k2 pm pw he=> ?_
    ·refine kas_kind (T:= .type "list") h2 (λv hv=> ?_) (by decide) (by decide) hq'
     obtain⟨L,y,ry,hp⟩:=gd v hv;obtain⟨b,ys,rfl,hs,_⟩:=id hp;cases ry;obtain⟨_,_,pl,_⟩:=I.list hs;obtain⟨o',ho',hc',_⟩:=pl.isList;rw [<-hc'];exact(Looks.ld (kp _ _ ho')).andThen .now
    ·exact b5Z (s:={s with heap:=h'}) (I.kept (t':=s.toks) kp) (by rw [Z9,Z9];lia)
    ·have I1:j4 X pins σ H {s with heap:=hp1}:=I.kept (t':=s.toks) k1
     have hdec:its.map (dec X H)=Ls:=by
      refine List.ext_getElem? λi=> ?_;rw [Ak]
      by_cases hi:i<its.length
      ·rw [Ax hi];obtain⟨y,ey,ry⟩:=a0S rvv hi;obtain⟨p,ep,hp⟩:=r.getV ey;rw [Ak] at ep;cases hL:Ls[i]? with
       |none=>rw [hL] at ep;cases ep
       |some L=>
        rw [hL] at ep;cases ep;show ξ (dec X H its[i])=ξ L;rw [b0A I ⟨y,ry,A3.mono s0 _ hp⟩]
      ·rw [List.getElem?_eq_none (by lia),List.getElem?_eq_none (by lia)];rfl
     have hsort:us.map (dec X H)=a19 ltF Ls:=by
      symm
      refine b2z b4D (List.pairwise_map.mpr pw) ?_;have:=pm.map (dec X H);rw [hdec] at this;exact this
     have back:∀{us:List AA},(∀u∈us,∃L y,m8 y u/\A3 X.K F (llv L) y)->∃ys,t0 ys us/\m7 X.K F ((us.map (dec X H)).map llv) ys:=λ {us} hu'=>by
      induction us with
      |nil=>exact⟨[],.nil,rfl⟩
      |cons u us ih=>
       obtain⟨ys,h1,h2⟩:=ih λu' h'=>hu' u' (Ag _ h');obtain⟨L,y,h4,h5⟩:=hu' u AZ;refine⟨y::ys,.cons h4 h1,y,ys,rfl, ?_,h2⟩;rw [b0A I ⟨y,h4,A3.mono s0 _ h5⟩];exact h5
     obtain⟨ys,v1,r1⟩:=back (us:=us) λu hu'=>let ⟨L,_,y,ry,hp⟩:=hall u (pm.mem_iff.mp hu');⟨L,y,ry,hp⟩;rw [hsort] at r1;have hf:H hp1.objs.size=ζ:=I1.hok.fresh (AM _);have hyl:ys.length<=AQ:=by rw [v1.length,pm.length_eq,hlen,sizeLine_eq];lia
     exact⟨.ref hp1.objs.size,_,I1.laid (t':=s.toks) (h':=hp2) (o:= .lst ys) k2 (AM _) ⟨hyl,us,en,v1,he⟩,rfl,k _ F _ (w8.lst s0 hf r1)⟩
   rcases hq with hq|hq
   ·ext k
   ·ext q
  ·cases h2
 ·cases h2
end
end PU
namespace L2
end L2
namespace PU
open L2
open PySem.W (Looks InstAt looks_findIn looks_find looks_subIn looks_mroIn)
noncomputable def b3X(K:AD)(D:AB):Bool:=(PySem.W.clsIn K D).isSome && PySem.W.findIn K (.ref D) "__getattribute__"==ξ (ξ (.builtin "BaseException.__getattribute__"))&& PySem.W.findIn K (.ref D) "__getattr__"==ξ ζ
 && PySem.W.findIn K (.ref D) "__class__"==ξ (ξ (.builtin "object.__class__"))&& PySem.W.specialIn K (.builtin "object.__class__") "__get__"==ξ (ξ (.builtin "getset_descriptor.__get__"))&& PySem.W.takesIn K (.builtin "object.__class__")==ξ true
 && PySem.W.mroIn K D (.type "object")==ξ true && PySem.W.subIn K (.ref D) (.type "BaseException")==ξ true
structure XcF(K:AD)(D:AB):Prop where
 cl:(PySem.W.clsIn K D).isSome=true
 ga:PySem.W.findIn K (.ref D) "__getattribute__"=ξ (ξ (.builtin "BaseException.__getattribute__"))
 gt:PySem.W.findIn K (.ref D) "__getattr__"=ξ ζ
 ob:∀od,PySem.W.findObj K D od "__class__"=ξ (.bind (.builtin "getset_descriptor.__get__") (.builtin "object.__class__"))
 mo:PySem.W.mroIn K D (.type "object")=ξ true
 sb:PySem.W.subIn K (.ref D) (.type "BaseException")=ξ true
theorem c1c{K:AD}{D:AB}(h:b3X K D=true):XcF K D:=by
 unfold b3X at h;simp only [χ,beq_iff_eq] at h;obtain⟨⟨⟨⟨⟨⟨⟨h1,h2⟩,h3⟩,h4⟩,h5⟩,h6⟩,h7⟩,h8⟩:=h;refine⟨h1,h2,h3,λod=> ?_,h7,h8⟩;obtain⟨cd,hc⟩:=Option.isSome_iff_exists.mp h1;unfold PySem.W.findObj;rw [hc,AF,h4,AF];simp [h5,h6]
section
variable {prog:AS}{w:AL}{A:AU}{E:AA->AE->Prop}{s:AE}{K:AD}{x D:AB}{ox:Obj}{od:Υ Obj}
theorem b9v(X:K.In s.heap)(I:InstAt s.heap x ox D od)(F:XcF K D)(hq:Q (.done (.ret (.ref D))) s):
 AG (model prog w) A (Builtin.«object.__getattribute__» ⟨[.ref x,.str "__class__" tk],[]⟩) Q E s:=by
 obtain⟨hh,g,d,t,os⟩:=s
 have L0:=I.type (M:=model prog w)
 have L1:=looks_find (M:=model prog w) X I (F.ob od)
 unfold Builtin.«object.__getattribute__»
 repeat (any_goals (first|assumption|with_reducible refine L0.at ?_|with_reducible refine L1.at ?_|wp_step))
 exact PySem.W.class_get (s:=⟨hh,g,d,t,os⟩) X I F.mo (AH hq)
theorem b9t(X:K.In s.heap)(I:InstAt s.heap x ox D od)(F:XcF K D)(hq:Q () s):AG (model prog w) A (checkBuiltinCall "BaseException.__getattribute__" ⟨[.ref x,nameV],[]⟩) Q E s:=by
 obtain⟨hh,g,d,t,os⟩:=s;have L0:=I.type (M:=model prog w);have L1:=looks_subIn (M:=model prog w) X F.sb;have hk:builtinKind "BaseException.__getattribute__"=ξ .slot:=by decide+kernel
 have hsplit:splitId "BaseException.__getattribute__"=ξ ("BaseException","__getattribute__"):=by decide+kernel
 have ha:=PySem.F.args_bexc_ga (.ref x) nameV;simp only [checkBuiltinCall,hk,hsplit];refine AC ?_
 ·unfold isInstance
  repeat (first|with_reducible refine L0.at ?_|with_reducible refine L1.at ?_|wp_step)
  exact hq
theorem c4C{tk:Tok}{fill expr:Bool}{Q:AA->AE->Prop}(X:K.In s.heap)(I:InstAt s.heap x ox D od)(F:XcF K D)(hq:Q (.ref D) s):AG (model prog w) A (getAttrBy (.ref x) (.str "__class__" tk) fill expr) Q E s:=by
 obtain⟨hh,g,d,t,os⟩:=s;have L0:=I.type (M:=model prog w);have L1:=looks_findIn (M:=model prog w) X F.ga;have L2:=looks_findIn (M:=model prog w) X F.gt;have FB:=PySem.F.attr_ValueError;have f3:=FB.ga.bind (.ref x);have hx0:(expr && onTheHeap (Value.builtin "BaseException.__getattribute__"))=false:=by cases expr<;>rfl
 have hx2:(Value.builtin "BaseException.__getattribute__"==Value.builtin "object.__getattribute__")=false:=by decide+kernel
 have hx1:(onTheHeap (Value.ref D)&& Value.builtin "BaseException.__getattribute__"==Value.builtin "object.__getattribute__")=false:=by rw [hx2];rfl
 repeat (any_goals (first|assumption|with_reducible refine L0.at ?_|with_reducible refine L1.at ?_|with_reducible refine L2.at ?_|wp_step))
 refine codeAny_call_builtin FB.ga.plain PySem.F.entry_bexc_ga (b9t (s:=⟨hh,g,d,t,os⟩) X I F (b9v (s:=⟨hh,g,d,t,os⟩) X I F ?_))
 repeat (any_goals (first|assumption|wp_step))
theorem b9u{Q:Υ AA->AE->Prop}(X:K.In s.heap)(I:InstAt s.heap x ox D od)(F:XcF K D)(hq:Q (ξ (.ref D)) {s with toks:=s.toks+1}):AG (model prog w) A (getAttr? (.ref x) "__class__") Q E s:=by
 obtain⟨hh,g,d,t,os⟩:=s;unfold getAttr? getAttrBy?;refine AC (wpAny_mkText (AC (wpAny_attempt (c4C (s:=⟨hh,g,d,t+1,os⟩) X I F ?_))));exact AH hq
end
theorem b5f{K:AD}{x D:AB}{c:AA}(F:XcF K D)(e:PySem.W.kitOne K (.ref D) c=ξ false):Answers (λs=>K.In s.heap/\∃o od,InstAt s.heap x o D od) (.ref x) c false:=λdep tk prog w A R s hs=>by
 obtain⟨hh,gg,dr,tt,oo⟩:=s;obtain⟨⟨kin,o,od,I⟩,fin⟩:=hs;have L0:=I.type (M:=model prog w);have hisD:Looks (model prog w) hh (isType (.ref D)) true:=by
  obtain⟨cdD,hcD⟩:=Option.isSome_iff_exists.mp F.cl;unfold PySem.W.clsIn at hcD;split at hcD
  ·rename_i c' d' cd' sl' ho;intro A' Q' E' s' k q;unfold isType loadHead;exact AC (wpAny_loadPart (k _ _ (kin _ _ ho)) (AH q))
  ·cases hcD
 unfold Builtin.«isinstance.nested»;refine AC ?_;refine L0.at ?_;cases q:(Value.ref D==c) with
 |true=>
  unfold PySem.W.kitOne at e;rw [q,if_pos rfl] at e;cases e
 |false=>
  rw [if_neg As];unfold PySem.W.kitOne at e;rw [q,if_neg As] at e;have z:=PySem.W.kit_cls (M:=model prog w) kin e;have z3:Looks (model prog w) hh (isInstance (.ref x) c) false:=L0.andThen z.2.2;refine AC ?_;refine z.1.at ?_;rw [if_pos (by decide)]
  k_delta "plainIsInstance"
  refine AC ?_;refine AC ?_;refine z.2.1.at ?_;simp only [Bool.not_true,if_false,Aw];refine AC ?_;refine z3.at ?_;simp only [Aw,if_false];refine AC (b9u (s:=⟨hh,gg,dr,tt,oo⟩) kin I F ?_);refine AC (hisD.at ?_);simp only [Bool.not_true,Aw,if_false];refine AC (wpAny_rule ?_);refine z.2.2.at ?_
  first
   |exact AH (fin _)
   |exact AH (AH (fin _))
   |exact AC (AH (AH (fin _)))
theorem b5K{K:AD}{prog:AS}{w:AL}{A:AU}{E:AA->AE->Prop}{s:AE}{Q:AA->AE->Prop}{x D:AB}{c:AA}{o:Obj}{od:Υ Obj}(kin:K.In s.heap)(I:InstAt s.heap x o D od)(F:XcF K D)(e:PySem.W.kitOne K (.ref D) c=ξ false)(fin:∀tk,Q (.bool false) {s with toks:=tk}):
 AG (model prog w) A (call (.builtin "isinstance") [.ref x,c]) Q E s:=by
 refine call_isinstance (S:=λ_ R s=>(K.In s.heap/\∃o od,InstAt s.heap x o D od)/\∀tk,R (.ok (.ret (.bool false))) {s with toks:=tk}) (λprog w A R s hs=> ?_) ⟨⟨kin,o,od,I⟩,fin⟩
 refine isinstance_outer ?_ (λz=>nomatch z)
 exact b5f F e 0 _ prog w A R s hs
def b9C(K:AD)(cv:AA)(tab:List (Str×Bool)):Prop:=∀c b,tab.lookup c=ξ b->∃C,Y4 K c C/\XcF K C/\PySem.W.kitOne K (.ref C) cv=ξ b
theorem a5h{K:AD}{cv:AA}:b9C K cv []:=λ_ _ h=>nomatch h
theorem O9{K:AD}{mg:Str->Υ AA}{cv:AA}{c:Str}{b:Bool}{C:AB}{t:List (Str×Bool)}(x:XC K mg c C)(f:b3X K C=true)(e:PySem.W.kitOne K (.ref C) cv=ξ b)(h:b9C K cv t):b9C K cv ((c,b)::t):=λc1 b1 q=>by
 rw [List.lookup_cons] at q;split at q
 ·rename_i z;cases q;rw [beq_iff_eq.mp z];exact⟨C,x.named,c1c f,e⟩
 ·exact h c1 b1 q
section
theorem b0D(T:b9C X.K cv tab)(rv:∀u,m8 cV u->u=cv)(hg:Gl X "isinstance")(hm:X.mg "isinstance"=ζ)(ha:EE X e m)(hT:PE X (.Name n p2) (tC cV))
 (he:AJ [e,.Name n p2] X.env=(false,eval e X.env)::AJ [.Name n p2] X.env:=by rfl) (he2:AJ [.Name n p2] X.env=(false,eval (.Name n p2) X.env)::AJ [] X.env:=by rfl) (hpl:(backTo pos (AJ [.Name n p2] X.env)).any (·.1)=false:=by rfl)
 (hv:bootBuiltins "isinstance"=ξ (.builtin "isinstance"):=by rfl):
 EE X (.Call (.Name "isinstance" p) [e,.Name n p2] [] pos) (m1 (a7J tab) m):=by
 have hc:E4 X (.builtin "isinstance") (λxs H Q=>∃F x c b,xs=[x,cV]/\m3 F H/\b5e X.K F c x/\tab.lookup c=ξ b/\Q (.bl b) H):=by
  intro pins s σ H xs us Q I rv0 h;obtain⟨F,x,c,b,rfl,s0,h1,hl,q⟩:=h;obtain⟨u,u2,rfl,ru,ru2⟩:∃u1 u2,us=[u1,u2]/\m8 x u1/\m8 cV u2:=by
   cases rv0 with
   |cons p q=>
    cases q with
    |cons p' q'=>
     cases q';exact⟨_,_,rfl,p,p'⟩
  cases rv _ ru2;obtain⟨C,nm,fc,k1⟩:=T c b hl;have fin:∀tk,EP X pins σ Q (.bool b) {s with toks:=tk}:=λtk=>⟨.bl _,H,I.tok tk,rfl,q⟩
  obtain⟨a,C',o,od,rfl,g4,J⟩:=c1i I (h1.mono s0);cases g4.uniq nm;cases(show u=Value.ref a from ru);cases b with
  |true=>exact b7O I.kIn J.at_ J.cls k1 fin
  |false=>exact b5K I.kIn J fc k1 fin
 exact u5 (a2V hc hg hm hv (y0 ha (y0 hT O3 he2) he) (by decide) (by decide) he hpl) λσ H Q h0=>u0 h0 λF ρ r h1 h2 k=>by
  obtain⟨rx,e1,h2⟩:=bind_some h2;refine⟨F,ρ,rx,h1,e1,λv F1 H1 o=> ?_⟩;obtain⟨c,hc,h2⟩:=bind_some h2;cases hl:tab.lookup c with
  |none=>rw [hl] at h2;cases h2
  |some b=>
   rw [hl] at h2;cases h2;exact⟨H1,v,c,b,rfl,m3.refl H1,c1f (o.rep.rd o.x.fh) hc,hl,k _ F1 H1 (w8.val o.x rfl)⟩
end
end PU
namespace ZT
open L2 PU
section
variable {prog:AS}{w:AL}{A:AU}{E:AA->AE->Prop}{s:AE}{z TI TO i1 i2:AB}{n1 n2 i:Nat}{P1 P2:Nat->AA->Prop}{St1 St2:Nat->Heap->Prop}{a b:AA}{l1 l2:AB}
end
section
variable {prog:AS}{w:AL}{A:AU}{E:AA->AE->Prop}{s:AE}
end
section
variable {X:Cx}
end
end ZT
namespace PU
open L2
section
variable {X:Cx}
end
structure FnV(K:AD)(mg:Str->Υ AA)(x:Str)(f:AB):Prop where
 mg:mg x=ξ (.ref f)
 at_:b30 K x (.ref f)
 one:∀a,b30 K x (.ref a)->a=f
def b8A(K:AD)(x:Str)(f:AB):Bool:=K.all λp=>match p.2.data with
 | .func fd=> !(fd.name==x)||p.1==f
 |_=>true
theorem b77{K:AD}{a:AB}{o:Obj}:K.lookup a=ξ o->(a,o)∈K:=by
 induction K with
 |nil=>intro h;cases h
 |cons p r ih=>
  intro h;obtain⟨b,u⟩:=p;rw [List.lookup_cons] at h;split at h
  ·rename_i z;cases h;rw [beq_iff_eq.mp z];exact AZ
  ·exact Ag _ (ih h)
theorem c2a{K:AD}{mg:Str->Υ AA}{x:Str}{f:AB}{oc:AA}{od:Υ AB}{fd:FuncData}{sl:Array (Υ AA)}(hm:mg x=ξ (.ref f))(l:K.lookup f=ξ ⟨oc,od,.func fd,sl⟩)(hn:fd.name=x)(q:b8A K x f=true):FnV K mg x f:=by
 refine⟨hm,⟨f,oc,od,fd,sl,rfl,l,hn⟩,λa h=> ?_⟩;obtain⟨b,oc',od',fd',sl',e,l',hn'⟩:=h;cases e;have:=List.all_eq_true.mp q _ (b77 l');simp only [hn',beq_self_eq_true,Bool.not_true,Bool.false_or] at this;exact beq_iff_eq.mp this
abbrev K0(x:Str):PV:= .dict [(.str x,.none)]
section
theorem c3Q(v:FnV X.K X.mg x f)(hg:Gl X x:=by rfl)(hd:Δ x:=by decide):EE X (.Name x pos) (mC (K0 x)):=
 a2C (v:= .ref f) (a65 hg v.mg rfl hd) λH=>Or.inr (Or.inr (Or.inl ⟨x,_,rfl,.inl ⟨rfl,v.at_⟩⟩))
def b31(X:Cx)(n k':Nat)(tab:List (Str×(Λ))):Prop:=∀x g,tab.lookup x=ξ g->∃f fd ps k,R3 X.prog X.w X.K X.mg X.base CX0 k f fd ps (spP X.K ps.length g)/\k<=k'/\PySem.W.keepIn X.K (.ref f)=true/\a07 X.K fd ps []/\ps.length=n/\∀a,b30 X.K x (.ref a)->a=f
theorem b5z:b31 X n k' []:=λ_ _ h=>nomatch h
theorem b3c(d:u7 X.prog X.w X.K X.mg X.base x ps k g)(v:FnV X.K X.mg x f)(hk:k<=k')(hn:ps.length=n)(h:b31 X n k' t):b31 X n k' ((x,g)::t):=λy g' q=>by
 rw [List.lookup_cons] at q;split at q
 ·rename_i z;cases q;obtain⟨f',fd,G,h1,h2,h3⟩:=d;have e:=v.mg.symm.trans h1;cases e;refine⟨f,fd,ps,k,G,hk,h2,h3,hn, ?_⟩;rw [beq_iff_eq.mp z];exact v.one
 ·exact h y g' q
noncomputable def a5J(tab:List (Str×(Λ)))(i:Nat)(m:MA):M:=λρ=>match ρ[i]? with
 |some (ξ (.v (.dict [(.str x,.none)])))=>(tab.lookup x).bind λg=>(m ρ).bind g
 |_=>ζ
theorem b7c(i:Nat)(T:b31 X n k' tab)(hr:G8 k' X.A)(hv:PE X (.Name y p) (G9 i))(hn:∀ρ qs,m ρ=ξ qs->qs.length=n)(ha:EA X (e::es) m)
 (he:Ψ e es X.env:=by rfl) (hpl:Φ₁ pos es X.env:=by rfl):
 EE X (.Call (.Name y p) (e::es) [] pos) (a5J tab i m):=by
 intro pins s σ H Q I ⟨F,ρ,r,env,hm,k⟩
 unfold a5J at hm
 split at hm
 ·rename_i x hρ
  cases hl:tab.lookup x with
  |none=>rw [hl] at hm;cases hm
  |some g=>
   rw [hl,AF] at hm
   obtain⟨f,fd,ps,kk,G,hk,h2,h3,h4,one⟩:=T x g hl
   obtain⟨v,hσ,hrep⟩:=env.at_ i _ hρ
   have hvf:v= .ref f:=by
    rcases hrep with⟨_,_,_,_,kk1,w1,t1,_,zz,_⟩|⟨_,_,_,_,kk1,w1,t1,_,zz,_⟩|⟨z,t,e,hz⟩|⟨_,_,_,ho,hf⟩
    ·cases zz
    ·cases zz
    ·cases e;rcases hz with⟨_,hz⟩|⟨e,_⟩
     ·obtain⟨a,_,_,_,_,ea,_⟩:=id hz;subst ea;rw [one a hz]
     ·cases e
    ·rcases(b4J ho hf).2.1 with e|e<;>cases e
   subst hvf
   refine wpAny_Call_Name_kw (E2 (hv pins s σ H (λv H1=>v= .ref f/\H1=H) I ⟨.ref f,hσ,rfl,rfl⟩) λu s1 h0=>a3g h0 λv H1 I1 rv hv1 hH=> ?_)
   subst hv1 hH
   cases(show u=Value.ref f from rv)
   obtain⟨qs,e1,e2⟩:=bind_some hm
   refine PySem.W.callWith_K I1.ok.mod.kin h2 (E2 (ha pos pins s1 σ H1 (λvs H2=>∃F2,R5 F H1 F2 H2/\m7 X.K F2 qs vs) I1 ⟨F,ρ,qs,env,e1,λvs F2 H2 x rl=>⟨F2,x,rl⟩⟩) λus s2 ⟨vs,H2,I2,rr,F2,x2,rl⟩=>⟨I2.kIn, ?_⟩) he hpl
   refine b87 G (hr.mono hk) h3 .nil b2p I2 rr ?_
   rw [An]
   exact⟨F2,qs,r,x2.fh,rl,(hn _ _ e1).trans h4.symm,e2,λv F3 H3 o=>k v F3 H3 (w8.trans x2 o)⟩
 ·cases hm
end
noncomputable def c1y(n:Nat):k4->Bool
 | .inr s=>s.length==n
 |_=>false
noncomputable def b9f(n:Nat):AA->Bool
 | .str s _=>s.length==n
 |_=>false
def b3n(k:List k4):Bool:=((k.length==2||k.length==3)&& k.any Sum.isLeft)||((k.length==1||k.length==2||k.length==3)&& k.all (c1y k.length))
def b0g(o:Obj):Bool:=match o with
 |⟨.type "tuple",_,.seq its _,_⟩=>((its.size==2||its.size==3)&& its.toList.any b7M)||((its.size==1||its.size==2||its.size==3)&& its.toList.all (b9f its.size))
 |_=>false
def a6r(K:AD):Bool:=K.all λp=> !b0g p.2
theorem b33{n:Nat}:∀{k:List k4} {us:List AA},t0 (k.map kV) us->k.all (c1y n)=true->us.all (b9f n)=true
 |[],_,r,_=>by
  rw [Ab] at r;cases r;rfl
 |k::ks,_,r,h=>by
  rw [AI] at r;cases r with
  |cons r1 r2=>
   rw [List.all_cons,χ] at h ⊢;refine⟨?_,b33 r2 h.2⟩;cases k with
   |inl i=>cases h.1
   |inr x=>obtain⟨t,rfl⟩:=(show ∃t,_=Value.str x t from r1);exact h.1
theorem b59{K:AD}(nk:a6r K=true){a:AB}{o:Obj}{its:Array AA}{n:Nat}{k:List k4}(e:K.lookup a=ξ o)(hc:o.cls= .type "tuple")(hd:o.data= .seq its n)(r:t0 (k.map kV) its.toList)(hk:b3n k=true):False:=by
 obtain⟨b,hb⟩:=b3r e;have h:=List.all_eq_true.mp nk _ hb;obtain⟨cls,d,data,sl⟩:=o;simp only at hc hd;subst hc hd;unfold b3n at hk;have h2:=r.length;have h2:k.length=its.size:=by simpa using h2
 have h3:b0g ⟨.type "tuple",d,.seq its n,sl⟩=true:=by
  show(((its.size==2||its.size==3)&& its.toList.any b7M)||((its.size==1||its.size==2||its.size==3)&& its.toList.all (b9f its.size)))=true
  rw [Bool.or_eq_true,χ,χ] at hk ⊢;rcases hk with hk|hk
  ·exact .inl ⟨by rw [<-h2];exact hk.1,b34 r hk.2⟩
  ·exact .inr ⟨by rw [<-h2];exact hk.1,b33 r (by rw [<-h2];exact hk.2)⟩
 rw [h3] at h;cases h
def a4P(r:g5):Υ (List k4):=match r with
 | .v (.tuple ps)=>(keysOf ps).bind λk=>if b3n k=true then ξ k else ζ
 |_=>ζ
theorem a5F{K:AD}{F H:Hp}{r:g5}{k:List k4}{v:V}(nk:a6r K=true)(e:a4P r=ξ k)(h:M5 K F H v r):∃b,v= .ref b/\F b=ξ (.tup (k.map kV)):=by
 unfold a4P at e;split at e
 ·obtain⟨k',e1,e⟩:=bind_some e;split at e
  ·rename_i hk;cases e;obtain⟨b,xs,rfl,hq,rl⟩:=h;have ex:=T4 e1 rl;subst ex;rcases hq with hq|⟨o,its,n,h1,h2,h3,h4,h5⟩
   ·exact⟨b,rfl,hq⟩
   ·exact(b59 nk h1 h2 h3 h5 hk).elim
  ·cases e
 ·cases e
section
variable {X:Cx}
def U9(i:Nat)(mk mv:M):MS:=λρ=>((mv ρ).bind g5.toVal).bind λp=>((mk ρ).bind a4P).bind (a7B i ρ p)
theorem O7(i:Nat){x:Str}{p tp2 pos:Pos}{ek e:AO}{mk mv:M}(hu:X.A.units+64<cLine)(nk:a6r X.K=true)(hx:PE X (.Name x p) (G9 i))(hi:EE X ek mk)(he:EE X e mv)
 (hs:swapsWith e (ξ (.Subscript (.Name x p) ek tp2)) pos.line X.env=pure false:=by rfl):ES X (.Assign [.Subscript (.Name x p) ek tp2] e pos) (U9 i mk mv):=
 B0 (b1f (by lia) hx hi he hs) λD σ H h0=>D9 h0 λF0 H0 F ρ fl so e fin=>by
  ext l
  unfold a7B at e;split at e
  ·rename_i kvs eo;split at e
   ·ext ad
    refine⟨.ref a,hw1,F2,ρ,rk,so2.e,e4,λy F3 H3 o3=> ?_⟩;obtain⟨b,rfl,hb⟩:=a5F nk e5 o3.rep;have ha3:=o3.x.h _ _ ha';have so3:=so2.ext o3.x;refine⟨a,_,rfl,b0l.t ha3 (o3.x.fh _ _ hb) (by rw [rl.length];exact hl), ?_⟩
    exact fin σ _ _ (o2.x.f.trans o3.x.f) (so3.putD eo hw1 ((v9.mono o3.x.f _ rl).put (A3.mono o3.x.f _ o2.rep)))
   ·cases e
  ·cases e
def a73(neg:Bool)(i:Nat)(mk:M):M:=λρ=>((mk ρ).bind a4P).bind (b5r neg i ρ)
theorem b68{i:Nat}{mk:M}{neg:Bool}{σ:L2.St}{H:Hp}{Q:VK}(nk:a6r X.K=true)(h:tM X.K (a73 neg i mk) σ H Q):
 tM X.K mk σ H λy H1=>G9 i σ H1 λx H2=>∃a o,x= .ref a/\a2d H2 a y o/\Q (.bl (if neg then !o.isSome else o.isSome)) H2:=by
 obtain⟨F,ρ,r,en,e,k⟩:=h
 obtain⟨kk,e4,e⟩:=bind_some e
 obtain⟨rk,e4,e5⟩:=bind_some e4
 unfold b5r at e
 split at e
 ·rename_i kvs eo
  cases e
  refine⟨F,ρ,rk,en,e4,λy F3 H3 o3=> ?_⟩
  obtain⟨b,rfl,hb⟩:=a5F nk e5 o3.rep
  obtain⟨w,hw1,a,xs,rfl,fa,ha',rl⟩:=(en.ext o3.x).at_ i _ eo
  refine⟨.ref a,hw1,a,U0 xs kk,rfl,a2d.t ha' (o3.x.fh _ _ hb), ?_⟩
  rw [rl.isSome]
  exact k _ _ _ (w8.val o3.x rfl)
 ·cases e
theorem a1E(i:Nat){x:Str}{p pos:Pos}{ek:AO}{mk:M}(hu:X.A.units+64<cLine)(nk:a6r X.K=true)(hx:PE X (.Name x p) (G9 i))(hi:EE X ek mk)(hm:behindInMarks .NotIn (.Name x p)=false):ET X (.Compare ek [.NotIn] [.Name x p] pos) (W4 (a73 true i mk)):=
 b1i (c25 (b6g (by lia) hi hx) hm) λσ H Q h=>c4n (λ_ _ _ h=>b68 nk h) h
end
def b3v(mk mv:M):M:=λρ=>((mk ρ).bind a4P).bind λk=>((mv ρ).bind g5.toVal).bind λp=>ξ (.dct [(k,p)])
section
variable {X:Cx}
theorem b7i{ek ev:AO}{mk mv:M}{pos:Pos}(hu:X.A.units+64<cLine)(nk:a6r X.K=true)(hk:EE X ek mk)(hv:EE X ev mv):EE X (.Dict [ξ ek] [ev] pos) (b3v mk mv):=by
 ext i
 obtain⟨F,ρ,r,en,e,kq⟩:=h;obtain⟨k,e1,e⟩:=bind_some e;obtain⟨rk,e2,e3⟩:=bind_some e1;obtain⟨p,e4,e⟩:=bind_some e;obtain⟨rv,e5,e6⟩:=bind_some e4;cases e;have hn:=I.hok.fresh (AM s.heap.objs.size);have I1:=I.laid (a:=s.heap.objs.size) (o:= .dT []) (h':=s.heap.push {cls:= .type "dict",data:= .dict #[]}) (t':=s.toks) (λ_ _ q=>AY _ q) (AM _) (b1V s.heap I.big);have x0:R5 F H F (n5 H s.heap.objs.size (.dT [])):=R5.layH en.fh hn;refine wpAny_Dict_any rfl rfl (by simp) (by show 1<=15;decide) (E2 (b8P hk hv c0I pins _ σ _ (λps H2=>∃y b F2,ps=[(V.ref b,y)]/\F2 b=ξ (.tup (k.map kV))/\R5 F (n5 H s.heap.objs.size (.dT [])) F2 H2/\A3 X.K F2 p y) I1 ?_) λvs s2 hq=> ?_)
 ·refine⟨F,ρ,rk,en.ext x0,e2,λx F1 H1 o1=>⟨F1,ρ,rv,(en.ext x0).ext o1.x,e5,λy F2 H2 o2=> ?_⟩⟩;obtain⟨b,rfl,hb⟩:=a5F nk e3 o1.rep;obtain⟨F3,o3⟩:=o2.toVal e6;exact⟨y,b,F3,rfl,o3.x.f _ _ hb,(o1.x).trans o3.x,o3.rep⟩
 ·obtain⟨ps,H2,I2,rel,y,b,F2,hps,hb,x2,rp⟩:=hq;subst hps;cases rel with
  | @cons pq uv _ _ r1 r2=>
    cases r2;obtain⟨u,w⟩:=uv;obtain⟨ru,rw'⟩:=r1;cases(show u=Value.ref b from ru);have hp2:H2 s.heap.objs.size=ξ (.dT []):=x2.h _ _ g8;have fp:F2 s.heap.objs.size=ζ:=x2.nw _ _ (en.fh.free hn) g8 (λ_ h=>nomatch h);unfold storeAll;rw [List.forIn_cons];refine AC (AC (b9T (by lia) I2 hp2 (x2.fh _ _ hb) (by rw [sizeLine_eq];decide) rw' λs3 I3=>AH ?_))
    dsimp only;rw [List.forIn_nil];refine AH ⟨.ref s.heap.objs.size,_,I3,rfl,kq _ F2 _ ⟨⟨x2.f,λc o z=> ?_,λc o z=> ?_,λc o z y' t=> ?_,x2.nf⟩,⟨_,_,rfl,fp,g8,y,[],rfl,rp,rfl⟩,λ_ _ _ e=>by cases e;exact hn⟩⟩
    ·rw [f9 (j8 z hn)];exact x2.h _ _ (by rw [f9 (j8 z hn)];exact z)
    ·rw [f9 (j8 z fp)];exact x2.fh _ _ z
    ·exact x2.nw c o z (by rw [f9 (j8 y' hn)];exact y') t
end
theorem E5(i:Nat)(mk mv:M)(ρ:d5):U9 i mk mv ρ=((mv ρ).bind g5.toVal).bind λp=>((mk ρ).bind a4P).bind (a7B i ρ p):=ω
theorem O8(neg:Bool)(i:Nat)(mk:M)(ρ:d5):a73 neg i mk ρ=((mk ρ).bind a4P).bind (b5r neg i ρ):=ω
theorem b3w(mk mv:M)(ρ:d5):b3v mk mv ρ=((mk ρ).bind a4P).bind λk=>((mv ρ).bind g5.toVal).bind λp=>ξ (.dct [(k,p)]):=ω
theorem J4(i j:Int):a4P (.v (.tuple [.int i,.int j]))=ξ [.inl i,.inl j]:=ω
section
variable {X:Cx}
variable {Φ:L2.St->Hp->Prop}{I:List Nat}
end
section
variable {X:Cx}
end
section
variable {X:Cx}{tg:AO}
end
section
variable {X:Cx}
end
open L2 PySem.W
section
variable {X:Cx}
theorem b58:MtR X "dict.values" (λx xs H Q=>∃a kvs,x= .ref a/\xs=[]/\H a=ξ (.dK kvs)/\∀p,H p=ζ->Q (.ref p) (n5 H p (.ext λh=>h.IsValuesView p a))):=by
 intro pins s σ H x xs v us Q I rx rv h;obtain⟨a,kvs,rfl,rfl,ha,q⟩:=h;cases rx;cases rv;obtain⟨z,hd,vs,rel,dd⟩:=b4b I.hok ha;refine call_meetsIn PySem.F.slot_dict_values dd.typeIs PySem.F.entry_dict_values (PySem.F.args_dict_values_1 _) (meets_dict_values (m5 X.prog X.w) a hd) ⟨⟨vs,dd⟩, ?_⟩;refine⟨.ref s.heap.objs.size,_,I.laid (a:=s.heap.objs.size) (t':=s.toks) (o:= .ext λh=>h.IsValuesView s.heap.objs.size a) (λb o e=>AY _ e) (AM _) ⟨⟨_,Ao _ rfl,rfl,rfl⟩,⟨_,Ao _ rfl⟩,λh1 h2 p k=> ?_⟩,rfl,q _ (I.hok.fresh (AM _))⟩;obtain⟨o,ho,r⟩:=p;exact⟨o,k _ ho,r⟩
theorem b7W:∀{ys:List (k4×V)} {vs:List (k4×AA)},KV ys vs->t0 (ys.map (·.2)) (vs.map (·.2))
 |_,_,.nil=> .nil
 |_,_,.cons r t=> .cons r.2 (b7W t)
def c3a:List V->Hp->VK->Prop:=λxs H Q=>∃p a ys,xs=[.ref p]/\H p=ξ (.ext λh=>h.IsValuesView p a)/\H a=ξ (.dK ys)/\ys.length<=AQ/\∀q,H q=ζ->Q (.ref q) (n5 H q (.lst (ys.map (·.2))))
theorem b22(hc:X.calm=true):E4 X (.type "list") c3a:=by
 intro pins s σ H xs us Q I rv h;obtain⟨p,a,ys,rfl,hp,ha,hz,q⟩:=h;obtain⟨u,rfl,ru⟩:=a0R rv;cases ru;obtain⟨hv,_,_⟩:=(show z8 X.prog X.w H s.heap p (.ext λh=>h.IsValuesView p a) from I.hok p _ hp);obtain⟨z,hd,vals,rel,dd⟩:=b4b I.hok ha;obtain⟨ep,hat⟩:=dd.dictAt;refine kdl_call (kdl_values (r:=p) (d:=a) (kvs:=vals) (ep:=ep) (knd:=m5 X.prog X.w)) (I.ok.hd hc) ⟨hv,hat⟩ (by rw [<-Paired.length rel];exact hz) λh' tk acc' c' kp hS hacc=> ?_
 have e2:=kdl_vals_eq acc'.toList (by rw [Array.length_toList];exact hacc.1) λj v e=>hacc.2 j v (by rw [<-Array.getElem?_toList];exact e)
 have hw:t0 (ys.map (·.2)) acc'.toList:=by rw [e2];exact b7W rel
 exact⟨.ref s.heap.objs.size,_,I.laid (t':=tk) (o:= .lst (ys.map (·.2))) kp (AM _) ⟨by rw [AN];exact hz,acc'.toList,c',hw,by rw [hS]⟩,rfl,q _ (I.hok.fresh (AM _))⟩
theorem b4T{K:AD}{F:Hp}:∀{kvs:Γ} {xs:List (k4×V)},v9 K F kvs (xs.map s1)->m7 K F (kvs.map (·.2)) (xs.map (·.2))
 |[],[],_=>rfl
 |[],_::_,r=>by cases r
 |_::_,[],⟨_,_,e,_⟩=>by cases e
 |(k,q)::es,y::ys,⟨v,t,e,rv,rt⟩=>by
  injection e with e1 e2
  subst e2;have ev:y.2=v:=congrArg Prod.snd e1;subst ev;exact⟨_,_,rfl,rv,b4T rt⟩
def b0Z(i:Nat):M:=λρ=>match ρ[i]? with
 |some (ξ (.ow (.txt kvs)))=>if kvs.length<=AQ then ξ (.own (kvs.map (·.2))) else ζ
 |_=>ζ
theorem b7l(i:Nat)(hc:X.calm=true)(hg:Gl X "list")(hm:X.mg "list"=ζ)(hx:PE X (.Name x p2) (G9 i))
 (hv:bootBuiltins "list"=ξ (.type "list"):=by rfl)
 (hbase:attributeBase (.Name x p2) "values" X.env (eval (.Name x p2) X.env)=eval (.Name x p2) X.env:=by rfl) (hline:(ap.endLine==cp.line)=true:=by rfl)
 (hs2:AJ [.Call (.Attribute (.Name x p2) "values" ap) [] [] cp] X.env=(false,eval (.Call (.Attribute (.Name x p2) "values" ap) [] [] cp) X.env)::AJ [] X.env:=by rfl) (hpl2:(backTo pos (AJ [] X.env)).any (·.1)=false:=by rfl):
 EE X (.Call (.Name "list" p) [.Call (.Attribute (.Name x p2) "values" ap) [] [] cp] [] pos) (b0Z i):=
 u5 (a5S (b22 hc) hg hm hv (y0 (c2R PySem.F.plainAttrs_dict PySem.F.slot_dict_values PySem.F.type_dict_values b58 hx hbase hline) O3 hs2) (by decide) (by decide) hs2 hpl2) λσ H Q h0=>u0 h0 λF ρ r en em k=>by
  unfold b0Z at em;split at em
  ·rename_i kvs eo;split at em
   ·rename_i hz;cases em;obtain⟨w,hw1,a,xs,rfl,fa,ha',rl⟩:=en.at_ i _ eo;refine⟨.ref a,hw1,.inr (.inr (.inl ⟨rfl,.inl ⟨xs,ha'⟩⟩)),a,xs,rfl,rfl,ha',λp hp=> ?_⟩;have hne:a≠p:=λz=>by subst z;rw [ha'] at hp;cases hp
    have x1:R5 F H F (n5 H p (.ext λh=>h.IsValuesView p a)):=R5.layH en.fh hp
    ext s
    refine⟨p,a,xs,rfl,g8,by rw [f9 hne];exact ha',by rw [hlen];exact hz,λq hq=>k _ F _ ?_⟩
    exact w8.trans x1 (w8.lst x1.fh hq (b4T rl))
   ·cases em
  ·cases em
end
def c1B:g5->Υ (Γ)
 | .ow (.txt kvs)=>ξ kvs
 | .bo (.txt kvs)=>ξ kvs
 |_=>ζ
theorem c07{K:AD}{F H:Hp}{v:V}{r:g5}{kvs:Γ}(h:M5 K F H v r)(e:c1B r=ξ kvs):∃a xs,v= .ref a/\H a=ξ (.dK xs)/\v9 K F kvs (xs.map s1):=by
 cases r with
 |v _=>cases e
 |ow c=>
  cases c<;>cases e
  obtain⟨a,xs,h1,_,h2,h3⟩:=h;exact⟨a,xs,h1,h2,h3⟩
 |bo c=>
  cases c<;>cases e
  obtain⟨a,xs,h1,_,h2,h3⟩:=h;exact⟨a,xs,h1,h2,h3⟩
section
variable {X:Cx}
end
def a8Z:List k4->Υ Str
 |[.inr x]=>ξ x
 |_=>ζ
def a6U(x:g5):Υ g5:=(c1B x).bind λkvs=>(kvs.mapM λkv=>a8Z kv.1).bind λss=>if ss.length<64 then ξ (.own ((a0v ss).map .str)) else ζ
theorem c0h(h:a8Z k=ξ x):k=[.inr x]:=by
 unfold a8Z at h;split at h
 ·cases h;rfl
 ·cases h
theorem a9R{P:AS}{w:AL}{K:AD}{F:Hp}:∀{kvs:Γ} {ss:List Str} {xs:List (k4×V)} {vs:List (k4×AA)} {es:List DictEntry},
 (kvs.mapM λkv=>a8Z kv.1)=ξ ss->v9 K F kvs (xs.map s1)->KV xs vs->Pairs (m5 P w) es vs->StrsAre (es.map (·.key)) ss
 |[],ss,xs,vs,es,h,r,kv,p=>by
  cases h;cases xs with
  |cons x xs=>cases r
  |nil=>cases kv;cases p;exact .nil
 |(k,q)::rest,ss,xs,vs,es,h,r,kv,p=>by
  rw [List.mapM_cons] at h;cases h1:a8Z k with
  |none=>rw [show a8Z (k,q).1=ζ from h1] at h;cases h
  |some x=>
   rw [show a8Z (k,q).1=ξ x from h1] at h;cases h2:rest.mapM (λkv=>a8Z kv.1) with
   |none=>rw [h2] at h;cases h
   |some ss'=>
    rw [h2] at h;cases h;cases c0h h1;obtain⟨v,t,e,_,r'⟩:=r;cases xs with
    |nil=>cases e
    |cons x0 xs=>
     rw [AI] at e;injection e with e1 e2
     obtain⟨k0,v0⟩:=x0;have ek:[k0]=[.inr x]:=congrArg Prod.fst e1;injection ek with ek _
     subst ek e2;cases kv with
     |cons hd tl=>
      rename_i qa va';obtain⟨k1,u⟩:=qa;have hk:(Sum.inr x:k4)=k1:=hd.1;subst hk;cases p with
      |cons p1 p2 p3=>
       rename_i e0 es';have ih:=a9R h2 r' tl p3;obtain⟨t,et⟩:∃t,e0.key=Value.str x t:=by
        rcases w6 (show a4O (.inr x) e0.key=true from p1) with⟨i,t,c,_⟩|⟨y,t,c,d⟩
        ·cases c
        ·cases c;exact⟨t,d⟩
       rw [AI,et];exact .cons x t ih
section
variable {X:Cx}
theorem b5m(hc:X.calm=true):E4 X (.builtin "sorted") (rC1 X.K a6U):=by
 ext b
 obtain⟨kvs,e0,h2⟩:=bind_some h2;obtain⟨ss,e1,h2⟩:=bind_some h2;split at h2
 case isFalse=>cases h2
 rename_i c;cases h2;obtain⟨a,ys,rfl,ha,rd⟩:=c07 h1 e0;obtain⟨u,rfl,ru⟩:=a0R rv;cases ru;obtain⟨hl,hsys,vs,kv,o,es,ep,ho,hex,hdat,hko,hpr,nd⟩:=b4b I.hok ha;have hS:StrsAre (es.toList.map (·.key)) ss:=a9R e1 rd kv hpr;have hlen:(es.toList.map (·.key)).length=ss.length:=a8J hS;have hh:X.A.handled=ζ:=I.ok.hd hc;refine a6B (C:=λvs=>vs=es.toList.map (·.key)) (λQ' E' hq=>b1P (A:=X.A.in1) hh hsys ⟨o,ho,hex,hdat⟩ ?_ λh' tk kp=>hq h' tk _ _ kp rfl) (λvs e=> ?_) λhp1 hp2 tk d en vs us ss' k1 k2 e hs hu he=> ?_
 ·rw [AN,Array.length_toList] at hlen;rw [hlen,sizeLine_eq];lia
 ·subst e;exact⟨by rw [hlen];exact c,_,hS⟩
 ·subst e;have:ss'=ss:=by rw [a0Q hs,a0Q hS]
  subst this;have I1:j4 X pins σ H {s with heap:=hp1,toks:=tk,drawn:=d}:=b4x (I.kept (t':=tk) k1) d
  have hf:H hp1.objs.size=ζ:=I1.hok.fresh (AM _);have hl2:=(E8 ss').length_eq;exact⟨.ref hp1.objs.size,_,I1.laid (t':=tk) (h':=hp2) (o:= .lst ((a0v ss').map V.str)) k2 (AM _) ⟨by rw [AN,sizeLine_eq];lia,us,en,a3r hu,he⟩,rfl,k _ F _ (w8.lst s0 hf (a3q _))⟩
end
end PU
set_option maxHeartbeats 4000000
namespace LW
open L2 PU
abbrev φ(p:PV):Υ g5:=ξ (.v p)
noncomputable def J7:List (k4×PV):=[((.inr "stay"),(.tuple [(.int 1),(.int 0),(.int 0),(.int 1)])),((.inr "turn"),(.tuple [(.int 0),(.int 1),(.int (-1)),(.int 0)])),((.inr "half"),(.tuple [(.int (-1)),(.int 0),(.int 0),(.int (-1))])),((.inr "back"),(.tuple [(.int 0),(.int (-1)),(.int 1),(.int 0)])),((.inr "side"),(.tuple [(.int 1),(.int 0),(.int 0),(.int (-1))])),((.inr "flip"),(.tuple [(.int (-1)),(.int 0),(.int 0),(.int 1)])),((.inr "cross"),(.tuple [(.int 0),(.int 1),(.int 1),(.int 0)])),((.inr "other"),(.tuple [(.int 0),(.int (-1)),(.int (-1)),(.int 0)]))]
def a6b:MS:=
 (z7 (m2 Θ (m2 R6 (m2 K8 (m2 Θ (c7 0) (mC (.int 2147483647))) (mC (.int 17))) (m2 K8 (mC (.int 48271)) (m2 R6 (m2 R6 (mC (.int 2)) (c7 1)) (c7 1)))) (mC (.int 2147483629))))
def y6:Λ:=C3 0 a6b
def a1h:M:=
 (m2 v4 (c7 2) (m2 Θ (m2 K8 (c7 0) (m2 R6 (mC (.int 7)) (c7 3))) (mC (.int 26))))
def a3F:MS:=
 (k7 (p9 2 (mC (.str "abcdefghijklmnopqrstuvwxyz")))
 (z7 (C4 1 (u9 (b9 (c7 1) d9)) (g6 3) L8 a1h)))
def U6:Λ:=C3 1 a3F
def a3D:MS:=
 (k7 (L4 (W4 (m2 a32 (c7 1) (m1 z9 (c7 0)))) (z7 (m2 v4 (c7 0) (c7 1))) x4)
 (z7 (mC (.int 0))))
def N1:Λ:=C3 0 a3D
def N7:MS:=
 (k7 (p9 8 (m2 K8 (m2 R6 (c7 5) (c7 1)) (c7 7)))
 (k7 (L4 (W4 (m2 gEq (m2 Θ (c7 3) (mC (.int 4))) (mC (.int 1)))) (p9 8 (c7 7)) x4)
 (k7 (L4 (W4 (m2 gEq (m2 Θ (c7 3) (mC (.int 4))) (mC (.int 2)))) (p9 8 (m2 Θ (m2 K8 (c7 5) (c7 7)) (c7 1))) x4)
 (k7 (L4 (W4 (m2 gEq (m2 Θ (c7 3) (mC (.int 4))) (mC (.int 3)))) (p9 8 (m2 K8 (m2 (gI λi j=> .int (if j<i then j else i)) (c7 5) (m2 (gI λi j=> .int (i - j)) (m2 (gI λi j=> .int (i - j)) (c7 1) (mC (.int 1))) (c7 5))) (m2 R6 (c7 1) (m2 (gI λi j=> .int (if j<i then j else i)) (c7 7) (m2 (gI λi j=> .int (i - j)) (m2 (gI λi j=> .int (i - j)) (c7 1) (mC (.int 1))) (c7 7)))))) x4)
 (p9 6 (m2 K8 (c7 6) (m2 v4 (c7 2) (m2 Θ (m9 y6 (b9 (m2 v4 (c7 0) (m2 Θ (c7 8) (m1 z9 (c7 0)))) (b9 (c7 8) d9))) (m1 z9 (c7 2))))))))))
def N8:MS:=
 (k7 (p9 6 (mC (.str "")))
 (k7 (K5 (u9 (b9 (c7 1) d9)) (g6 7) N7)
 (J6 4 (c7 6))))
def a4A:MS:=
 (k7 (p9 4 (a3t d9))
 (k7 (K5 (u9 (b9 (c7 1) d9)) (g6 5) N8)
 (z7 (m1 X6 (c7 4)))))
def Z3:Λ:=C3 5 a4A
def b0U:MS:=
 (J6 1 (T6 (b9 (c7 2) (b9 (c7 3) (b9 (c7 4) d9)))))
def b0V:MS:=
 (K5 (u9 (b9 (c7 0) d9)) (g6 4) b0U)
def a4Q:MS:=
 (K5 (u9 (b9 (c7 0) d9)) (g6 3) b0V)
def a9m:MS:=
 (k7 (p9 1 (a3t d9))
 (k7 (K5 (O1 (a3t (b9 (mC (.str "stay")) (b9 (mC (.str "turn")) (b9 (mC (.str "half")) (b9 (mC (.str "back")) (b9 (mC (.str "side")) (b9 (mC (.str "flip")) (b9 (mC (.str "cross")) (b9 (mC (.str "other")) d9)))))))))) (g6 2) a4Q)
 (a1i 1)))
def a3i:Λ:=C3 4 a9m
def a2p:MS:=
 (z7 (m2 v4 (m9 a3i (b9 (c7 0) d9)) (m2 Θ (c7 1) (m2 R6 (m2 R6 (mC (.int 8)) (c7 0)) (c7 0)))))
def K3:Λ:=C3 0 a2p
def b1F:MS:=
 (z7 (b8b (m1 (a4H "int") (c7 0)) (c32 (m1 (a4H "bool") (c7 0)))))
def a0I:Λ:=C3 0 b1F
def a2P:M:=
 (c7 4)
def Q3:MS:=
 (k7 (L4 (a82 (W5 (mtV (m1 (a4H "tuple") (c7 3)))) (a82 (W5 (mtV (m1 (a4H "list") (m2 v4 (c7 3) (mC (.int 0)))))) (W5 (mtV (m1 (a4H "str") (m2 v4 (c7 3) (mC (.int 1)))))))) (z7 (mC (.bool false))) x4)
 (L4 (a82 (W5 (mtV (m9 a0I (b9 (m2 v4 (c7 3) (mC (.int 2))) d9)))) (W4 (m2 gNe (C4 1 (Q5 (m2 v4 (c7 3) (mC (.int 0)))) (g6 4) (W5 (mtV (m1 (a4H "tuple") (c7 4)))) a2P) (a3t d9)))) (z7 (mC (.bool false))) x4))
def a6d:MS:=
 (k7 (L4 (a82 (W5 (mtV (m1 (a4H "list") (c7 0)))) (W4 (m2 gNe (c7 0) (c7 2)))) (z7 (mC (.bool false))) x4)
 (k7 (K5 (O1 (c7 0)) (g6 3) Q3)
 (z7 (mC (.bool true)))))
def a0H:Λ:=C3 1 a6d
def A7:MS:=
 (U9 4 (c7 8) (c7 6))
def A8:MS:=
 (a2b 5 (K5 (O1 (c7 5)) (g6 8) A7))
def a0l:M:=
 (a9W 4 (b9 (c7 10) (b9 (c7 11) d9)))
def N9:M:=
 (m2 Y7 (mC (.str "")) (C4 1 (u9 (b9 (c7 3) d9)) (g6 11) L8 a0l))
def O0:M:=
 (m2 Z1 (c7 10) (c7 3))
def a11:MS:=
 (k7 (p9 3 (m1 z9 (c7 1)))
 (k7 (L4 (a82 (W5 (mtV (m1 (a4H "tuple") (c7 0)))) (a82 (W4 (m2 gNe (m1 z9 (c7 0)) (mC (.int 3)))) (W5 (mtV (m9 a0H (b9 (m2 v4 (c7 0) (mC (.int 2))) (b9 (c7 1) (b9 (c7 2) d9)))))))) (z7 (mC (.bool false))) x4)
 (k7 (p9 4 a4T)
 (k7 (K5 (O1 (c7 2)) (R7 [5,6,7]) A8)
 (k7 (p9 9 (m1 X6 (C4 1 (u9 (b9 (c7 3) d9)) (g6 10) L8 N9)))
 (k7 (p9 5 (C4 1 (u9 (b9 (m2 R6 (c7 3) (c7 3)) d9)) (g6 10) (W4 (m2 gNe (m2 v4 (m2 v4 (c7 9) (m2 Ω (c7 10) (c7 3))) (m2 Θ (c7 10) (c7 3))) (m2 v4 (m2 v4 (c7 1) (m2 Ω (c7 10) (c7 3))) (m2 Θ (c7 10) (c7 3))))) O0))
 (k7 (L4 (a82 (W5 (mtV (m1 (a4H "tuple") (m2 v4 (c7 0) (mC (.int 0)))))) (W4 (m2 gNe (m2 v4 (c7 0) (mC (.int 0))) (c7 9)))) (z7 (mC (.bool false))) x4)
 (z7 (b8b (m1 (a4H "list") (m2 v4 (c7 0) (mC (.int 1)))) (m2 gEq (m2 v4 (c7 0) (mC (.int 1))) (c7 5)))))))))))
def F8:Λ:=C3 7 a11
def b2Z:MS:=
 (k7 (L4 (W4 (m2 gEq (c7 0) (mC (.str "turn")))) (z7 (mC (.str "back"))) x4)
 (k7 (L4 (W4 (m2 gEq (c7 0) (mC (.str "back")))) (z7 (mC (.str "turn"))) x4)
 (a1i 0)))
def a34:Λ:=C3 0 b2Z
def a7t:MS:=
 (k7 (p9 2 (c2z J7 (c7 0)))
 (z7 (T6 (b9 (m2 K8 (m2 R6 (m2 v4 (c7 2) (mC (.int 0))) (m2 v4 (c7 1) (mC (.int 0)))) (m2 R6 (m2 v4 (c7 2) (mC (.int 1))) (m2 v4 (c7 1) (mC (.int 1))))) (b9 (m2 K8 (m2 R6 (m2 v4 (c7 2) (mC (.int 2))) (m2 v4 (c7 1) (mC (.int 0)))) (m2 R6 (m2 v4 (c7 2) (mC (.int 3))) (m2 v4 (c7 1) (mC (.int 1))))) d9)))))
def S9:Λ:=C3 1 a7t
def a4B:MS:=
 (k7 (p9 2 (m9 a34 (b9 (m2 v4 (c7 1) (mC (.int 0))) d9)))
 (k7 (p9 3 (m9 S9 (b9 (c7 2) (b9 (T6 (b9 (c0q (m2 v4 (c7 1) (mC (.int 1)))) (b9 (c0q (m2 v4 (c7 1) (mC (.int 2)))) d9))) d9))))
 (z7 (T6 (b9 (c7 2) (b9 (m2 Θ (m2 v4 (c7 3) (mC (.int 0))) (c7 0)) (b9 (m2 Θ (m2 v4 (c7 3) (mC (.int 1))) (c7 0)) d9)))))))
def Z4:Λ:=C3 2 a4B
def c1l:MS:=
 (k7 (p9 3 (m9 S9 (b9 (m2 v4 (c7 1) (mC (.int 0))) (b9 (c7 2) d9))))
 (z7 (T6 (b9 (m2 Θ (m2 K8 (m2 v4 (c7 3) (mC (.int 0))) (m2 v4 (c7 1) (mC (.int 1)))) (c7 0)) (b9 (m2 Θ (m2 K8 (m2 v4 (c7 3) (mC (.int 1))) (m2 v4 (c7 1) (mC (.int 2)))) (c7 0)) d9)))))
def a7M:Λ:=C3 1 c1l
def b6S:MS:=
 (k7 (p9 3 (m1 z9 (c7 0)))
 (z7 (m2 v4 (m2 v4 (c7 0) (m2 Θ (c7 1) (c7 3))) (m2 Θ (c7 2) (c7 3)))))
def a5B:Λ:=C3 1 b6S
def D6:MS:=
 (k7 (p9 6 (m9 a7M (b9 (c7 2) (b9 (c7 3) (b9 (T6 (b9 (c7 4) (b9 (c7 5) d9))) d9)))))
 (L4 (W4 (m2 gNe (m9 a5B (b9 (c7 0) (b9 (c7 4) (b9 (c7 5) d9)))) (m9 a5B (b9 (c7 0) (b9 (m2 v4 (c7 6) (mC (.int 0))) (b9 (m2 v4 (c7 6) (mC (.int 1))) d9)))))) (z7 (T6 (b9 (c7 4) (b9 (c7 5) d9)))) x4))
def Q4:MS:=
 (K5 (u9 (b9 (c7 2) d9)) (g6 5) D6)
def a6e:MS:=
 (k7 (p9 2 (m1 z9 (c7 0)))
 (k7 (p9 3 (m9 Z4 (b9 (c7 2) (b9 (c7 1) d9))))
 (k7 (K5 (u9 (b9 (c7 2) d9)) (g6 4) Q4)
 (z7 (mC .none)))))
def a0J:Λ:=C3 5 a6e
def b1G:MS:=
 (z7 (m2 (c3S false) (m9 a0J (b9 (c7 0) (b9 (c7 1) d9))) (mC .none)))
def a2H:Λ:=C3 0 b1G
def a4y:MX:=
 (b4G (a6p (b9 (c7 1) d9)) (R7 [2,3]) (b8p (W5 (mtV (m9 a2H (b9 (c7 0) (b9 (c7 3) d9))))) (b8q "NoWish" ["place"] (b9 (c7 2) d9)) (b04 x4)))
def B6:List PV->Υ (g5 ⊕ XT):=b84 2 a4y
def u3:MS:=
 (k7 (p9 7 (m9 a7M (b9 (c7 0) (b9 (c7 6) (b9 (m2 v4 (c7 4) (c7 5)) d9)))))
 (L4 (W4 (a73 true 3 (c7 7))) (k7 (U9 3 (c7 7) (mC (.bool true)))
 (J6 4 (c7 7))) x4))
def K9:MS:=
 (k7 (K5 (O1 (c7 1)) (g6 6) u3)
 (b8c 5 (gI λi j=> .int (i+j)) (mC (.int 1))))
def a3C:MS:=
 (k7 (p9 3 (b3v (c7 2) (mC (.bool true))))
 (k7 (p9 4 (a3t (b9 (c7 2) d9)))
 (k7 (p9 5 (mC (.int 0)))
 (k7 (U1 (W4 (m2 a32 (c7 5) (m1 z9 (c7 4)))) K9 100)
 (z7 (m1 a33 (c7 4)))))))
def A5:Λ:=C3 5 a3C
def V9:MS:=
 (U9 4 (c7 8) (mC (.bool true)))
def K4:MS:=
 (L4 (W4 (a73 true 4 (T6 (b9 (c7 5) (b9 (c7 6) d9))))) (k7 (p9 7 (a5J [("circle_from",A5)] 2 (b9 (c7 0) (b9 (c7 1) (b9 (T6 (b9 (c7 5) (b9 (c7 6) d9))) d9)))))
 (k7 (a2b 7 (J6 3 (c7 7)))
 (a2b 7 (K5 (O1 (c7 7)) (g6 8) V9)))) x4)
def W0:MS:=
 (K5 (u9 (b9 (c7 0) d9)) (g6 6) K4)
def b1H:MS:=
 (k7 (p9 3 (a3t d9))
 (k7 (p9 4 a4T)
 (k7 (K5 (u9 (b9 (c7 0) d9)) (g6 5) W0)
 (a1i 3))))
def a4L:Λ:=C3 6 b1H
def a9l:MS:=
 (z7 (m9 a4L (b9 (c7 0) (b9 (c7 1) (b9 (mC (K0 "circle_from")) d9)))))
def a3h:Λ:=C3 0 a9l
def J5:M:=
 (b3u 1 (b9 (c7 2) (b9 (c7 3) d9)))
def a2o:MS:=
 (z7 (m2 Y7 (mC (.str "")) (C4 1 (u9 (b9 (c7 0) d9)) (g6 3) L8 J5)))
def Q1:Λ:=C3 0 a2o
def U7:M:=
 (m9 Q1 (b9 (c7 0) (b9 (c7 1) (b9 (c7 2) d9))))
def a7q:MS:=
 (z7 (m1 X6 (C4 1 (u9 (b9 (c7 0) d9)) (g6 2) L8 U7)))
def S5:Λ:=C3 0 a7q
def y8:MS:=
 (U9 2 (c7 4) (m2 v4 (c7 3) (mC (.int 1))))
def y9:MS:=
 (K5 (O1 (m2 v4 (c7 3) (mC (.int 0)))) (g6 4) y8)
def a0A:MS:=
 (k7 (p9 2 a4T)
 (k7 (K5 (O1 (c7 1)) (g6 3) y9)
 (z7 (a6Z S5 2 (c7 0)))))
def I0:Λ:=C3 3 a0A
def a9q:MS:=
 (z7 (T6 (b9 (m1 z9 (c7 0)) (b9 (m1 z9 (m2 v4 (c7 0) (mC (.int 0)))) d9))))
def a1g:Λ:=C3 0 a9q
def a2L:MS:=
 (L4 (W4 (m2 gNe (c7 6) (m2 v4 (m2 v4 (c7 1) (c7 3)) (c7 5)))) (J6 2 (T6 (b9 (c7 3) (b9 (c7 5) d9)))) x4)
def a2M:MS:=
 (K5 (a6p (b9 (c7 4) d9)) (R7 [5,6]) a2L)
def b1I:MS:=
 (k7 (L4 (W4 (m2 gNe (m9 a1g (b9 (c7 0) d9)) (m9 a1g (b9 (c7 1) d9)))) b8f x4)
 (k7 (p9 2 (a3t d9))
 (k7 (K5 (a6p (b9 (c7 0) d9)) (R7 [3,4]) a2M)
 (a1i 2))))
def a4M:Λ:=C3 5 b1I
def a13:MS:=
 (k7 (p9 2 (m9 I0 (b9 (m1 z9 (c7 0)) (b9 (c7 1) d9))))
 (z7 (T6 (b9 (c7 2) (b9 (m9 a4M (b9 (c7 0) (b9 (c7 2) d9))) (b9 (c7 1) d9))))))
def N6:Λ:=C3 1 a13
def a4z:MS:=
 (z7 (m1 a2G (m2 Y7 (mC (.str "")) (c7 0))))
def Z2:Λ:=C3 0 a4z
def v5:MS:=
 (b4E 2 (c7 3) (m2 a5x (c7 1) (c7 3)))
def a0B:MS:=
 (k7 (p9 1 (m2 Y7 (mC (.str "")) (c7 0)))
 (k7 (p9 2 c0r)
 (k7 (K5 (O1 (m9 Z2 (b9 (c7 0) d9))) (g6 3) v5)
 (a1i 2))))
def J3:Λ:=C3 3 a0B
def a2n:MS:=
 (k7 (p9 1 (m1 a9K (a62 0)))
 (z7 (m1 b0M (a61 0 1))))
def Q0:Λ:=C3 1 a2n
def W9:MS:=
 (k7 (p9 2 (m9 Q0 (b9 (c7 0) d9)))
 (k7 (L4 (W4 (m2 (a8X false) (c7 1) (c7 2))) (a1i 1) x4)
 (z7 (m2 v4 (c7 2) (mC (.int 0))))))
def z6:Λ:=C3 1 W9
def a02:M:=
 (m9 a5B (b9 (c7 0) (b9 (m2 v4 (c7 2) (mC (.int 0))) (b9 (m2 v4 (c7 2) (mC (.int 1))) d9))))
def a7r:MS:=
 (z7 (m2 Y7 (mC (.str "")) (C4 1 (Q5 (c7 1)) (g6 2) L8 a02)))
def S6:Λ:=C3 0 a7r
def a12:MS:=
 (k7 (p9 3 (m9 J3 (b9 (T6 (b9 (m9 S6 (b9 (c7 0) (b9 (c7 1) d9))) d9)) d9)))
 (k7 (p9 4 (a60 z6 3 (c7 2)))
 (z7 (T6 (b9 (c7 1) (b9 (c7 4) (b9 (a74 3 (c7 4)) d9)))))))
def F9:Λ:=C3 2 a12
def M4:M:=
 (m9 F9 (b9 (c7 0) (b9 (c7 4) (b9 (m9 S6 (b9 (c7 1) (b9 (a5K (c7 4) a76 (a38 (mC (.int 1)))) d9))) d9))))
def K7:MX:=
 (b4H (b8p (W4 (m2 gNe (m1 z9 (c7 0)) (m1 z9 (c7 1)))) (c0v "Unlike" (b9 (mC (.str "a carpet is not mended towards one of another side")) d9)) (b04 x4))
 (b4H (a3L B6 (b9 (c7 1) (b9 (c7 2) d9)))
 (b04 (k7 (p9 3 (m9 a3h (b9 (m1 z9 (c7 0)) (b9 (c7 2) d9))))
 (z7 (m9 N6 (b9 (c7 0) (b9 (C4 1 (Q5 (c7 3)) (g6 4) L8 M4) d9))))))))
def l8:List PV->Υ (g5 ⊕ XT):=b84 1 K7
def a0Y:MS:=
 (k7 (p9 3 (mC .none))
 (k7 (a36 (a3L l8 (b9 (c7 0) (b9 (c7 1) (b9 (c7 2) d9)))) 4 (inL ["NoWish","Unlike"]) (p9 3 (c7 4)))
 (k7 (L4 (a82 (W5 (mtV (m1 (a7J [("NoWish",true),("Unlike",true)]) (c7 3)))) (W4 (m2 gEq (m1 (a7J [("NoWish",true),("Unlike",false)]) (c7 3)) (m1 (a7J [("NoWish",false),("Unlike",true)]) (c7 3))))) (z7 (mC (.str "odd"))) x4)
 (k7 (L4 (mtV (m1 (a7J [("NoWish",true),("Unlike",false)]) (c7 3))) (z7 (m1 (gFx ["NoWish"] "place") (c7 3))) x4)
 (z7 (mC (.str "unlike")))))))
def C2:Λ:=C3 2 a0Y
def a9p:MS:=
 (k7 (c0s [3,4] (c7 2))
 (k7 (c0s [5,6,7] (c7 1))
 (k7 (L4 (W4 (m2 (a8X false) (c7 5) (T6 (b9 (mC (.str "turn")) (b9 (mC (.str "back")) (b9 (mC (.str "cross")) (b9 (mC (.str "other")) d9))))))) (c2y 3 4 (b9 (c7 4) (b9 (c7 3) d9))) x4)
 (k7 (L4 (W4 (m2 (a8X false) (c7 5) (T6 (b9 (mC (.str "half")) (b9 (mC (.str "flip")) (b9 (mC (.str "back")) (b9 (mC (.str "other")) d9))))))) (p9 3 (m2 (gI λi j=> .int (i - j)) (mC (.int 0)) (c7 3))) x4)
 (k7 (L4 (W4 (m2 (a8X false) (c7 5) (T6 (b9 (mC (.str "half")) (b9 (mC (.str "side")) (b9 (mC (.str "turn")) (b9 (mC (.str "other")) d9))))))) (p9 4 (m2 (gI λi j=> .int (i - j)) (mC (.int 0)) (c7 4))) x4)
 (z7 (T6 (b9 (m2 Θ (m2 K8 (c7 3) (c7 6)) (c7 0)) (b9 (m2 Θ (m2 K8 (c7 4) (c7 7)) (c7 0)) d9)))))))))
def S8:Λ:=C3 5 a9p
def u4:MS:=
 (k7 (p9 9 (m9 S8 (b9 (c7 0) (b9 (c7 8) (b9 (m2 v4 (c7 6) (c7 7)) d9)))))
 (L4 (W4 (a73 true 2 (c7 9))) (k7 (U9 2 (c7 9) (mC (.bool true)))
 (J6 6 (c7 9))) x4))
def D4:MS:=
 (k7 (K5 (O1 (c7 1)) (g6 8) u4)
 (p9 7 (m2 K8 (c7 7) (mC (.int 1)))))
def D5:MS:=
 (k7 (p9 5 (m2 Z1 (c7 4) (c7 0)))
 (L4 (W4 (a73 true 2 (c7 5))) (k7 (p9 6 (a3t (b9 (c7 5) d9)))
 (k7 (U9 2 (c7 5) (mC (.bool true)))
 (k7 (p9 7 (mC (.int 0)))
 (k7 (U1 (W4 (m2 a32 (c7 7) (m1 z9 (c7 6)))) D4 100)
 (J6 3 (m1 a33 (c7 6))))))) x4))
def a3E:MS:=
 (k7 (p9 2 a4T)
 (k7 (p9 3 (a3t d9))
 (k7 (K5 (u9 (b9 (m2 R6 (c7 0) (c7 0)) d9)) (g6 4) D5)
 (z7 (m1 a6V (c7 3))))))
def G4:Λ:=C3 8 a3E
def Z5:MS:=
 (b4E 2 (m2 v4 (m2 v4 (c7 0) (c7 3)) (c7 4)) (m2 K8 (b3x 2 (m2 v4 (m2 v4 (c7 0) (c7 3)) (c7 4)) (mC (.int 0))) (mC (.int 1))))
def a9o:MS:=
 (k7 (p9 2 c0r)
 (k7 (K5 (O1 (c7 1)) (R7 [3,4]) Z5)
 (a1i 2)))
def a3k:Λ:=C3 3 a9o
def a4R:M:=
 (c7 9)
def E6:MS:=
 (k7 (p9 5 (m9 a3k (b9 (c7 0) (b9 (c7 4) d9))))
 (k7 (p9 6 (m1 a9K (b0Z 5)))
 (k7 (p9 7 (C4 1 (Q5 (m1 a6U (c7 5))) (g6 9) (W4 (m2 gEq (a74 5 (c7 9)) (c7 6))) a4R))
 (k7 (p9 8 (m2 v4 (m2 v4 (c7 1) (m2 v4 (m2 v4 (c7 4) (mC (.int 0))) (mC (.int 0)))) (m2 v4 (m2 v4 (c7 4) (mC (.int 0))) (mC (.int 1)))))
 (k7 (L4 (W4 (m2 (a8X false) (c7 8) (c7 7))) (p9 7 (a3t (b9 (c7 8) d9))) x4)
 (J6 3 (T6 (b9 (c7 4) (b9 (m2 v4 (c7 7) (mC (.int 0))) (b9 (c7 6) d9))))))))))
def a9n:MS:=
 (k7 (p9 3 (a3t d9))
 (k7 (K5 (O1 (m9 G4 (b9 (m1 z9 (c7 0)) (b9 (c7 2) d9)))) (g6 4) E6)
 (a1i 3)))
def a3j:Λ:=C3 6 a9n
def a0k:MS:=
 (U9 3 (m9 S8 (b9 (c7 2) (b9 (c7 1) (b9 (T6 (b9 (c7 4) (b9 (c7 5) d9))) d9)))) (m2 v4 (m2 v4 (c7 0) (c7 4)) (c7 5)))
def Q2:MS:=
 (K5 (u9 (b9 (c7 2) d9)) (g6 5) a0k)
def a2N:M:=
 (a9W 3 (b9 (c7 6) (b9 (c7 7) d9)))
def a2O:M:=
 (m2 Y7 (mC (.str "")) (C4 1 (u9 (b9 (c7 2) d9)) (g6 7) L8 a2N))
def a6c:MS:=
 (k7 (p9 2 (m1 z9 (c7 0)))
 (k7 (p9 3 a4T)
 (k7 (K5 (u9 (b9 (c7 2) d9)) (g6 4) Q2)
 (z7 (m1 X6 (C4 1 (u9 (b9 (c7 2) d9)) (g6 6) L8 a2O))))))
def V6:Λ:=C3 4 a6c
def a3J:M:=
 (c7 6)
def a3W:MS:=
 (k7 (p9 4 (C4 1 (u9 (b9 (m1 z9 (c7 2)) d9)) (g6 6) (W4 (m2 gNe (m9 V6 (b9 (c7 1) (b9 (m2 v4 (c7 2) (c7 6)) d9))) (c7 1))) a3J))
 (k7 (L4 (W4 (m2 gNe (c7 4) (a3t d9))) (k7 (p9 5 (m9 C2 (b9 (c7 0) (b9 (c7 1) (b9 (c7 2) d9)))))
 (z7 (b8b (m9 a0I (b9 (c7 5) d9)) (m2 gEq (c7 5) (m2 v4 (c7 4) (mC (.int 0))))))) x4)
 (z7 (m9 F8 (b9 (m9 (left l8) (b9 (c7 0) (b9 (c7 1) (b9 (m1 b3e (c7 2)) d9)))) (b9 (c7 0) (b9 (m9 a3j (b9 (c7 0) (b9 (c7 1) (b9 (c7 2) d9)))) d9)))))))
def a0j:Λ:=C3 2 a3W
def N2:MS:=
 (U9 4 (c7 7) (m2 v4 (c7 2) (m2 Θ (m2 Ω (m9 y6 (b9 (c7 3) (b9 (c7 6) d9))) (mC (.int 8))) (m1 z9 (c7 2)))))
def N3:MS:=
 (K5 (O1 (m2 v4 (c7 5) (c7 6))) (g6 7) N2)
def a3I:M:=
 (a9W 4 (b9 (c7 8) (b9 (c7 9) d9)))
def U8:M:=
 (m2 Y7 (mC (.str "")) (C4 1 (u9 (b9 (c7 0) d9)) (g6 9) L8 a3I))
def a7s:MS:=
 (k7 (p9 4 a4T)
 (k7 (p9 5 (m9 G4 (b9 (c7 0) (b9 (c7 1) d9))))
 (k7 (K5 (u9 (b9 (m1 z9 (c7 5)) d9)) (g6 6) N3)
 (k7 (L4 (W4 (m2 gEq (m2 Θ (c7 3) (mC (.int 4))) (mC (.int 0)))) (b2c 4 (b9 (m2 Θ (m2 Ω (c7 3) (mC (.int 4))) (c7 0)) (b9 (m2 Θ (m2 Ω (c7 3) (mC (.int 32))) (c7 0)) d9)) (m2 v4 (c7 2) (m2 Θ (m2 Ω (c7 3) (mC (.int 256))) (m1 z9 (c7 2))))) x4)
 (z7 (m1 X6 (C4 1 (u9 (b9 (c7 0) d9)) (g6 8) L8 U8)))))))
def S7:Λ:=C3 4 a7s
def a7Z:M:=
 (m9 K3 (b9 (c7 7) (b9 (m9 y6 (b9 (c7 6) (b9 (m2 K8 (mC (.int 20)) (c7 11)) d9))) d9)))
def a2K:MS:=
 (k7 (p9 6 (m9 y6 (b9 (m2 v4 (c7 4) (c7 5)) (b9 (m2 K8 (c7 5) (mC (.int 70))) d9))))
 (k7 (p9 7 (m2 K8 (mC (.int 1)) (m2 Θ (m2 K8 (c7 1) (c7 5)) (mC (.int 5)))))
 (k7 (a2b 3 (p9 8 (m9 Z3 (b9 (m2 K8 (a5K (c7 4) (a38 (c7 5)) a76) (a5K (c7 4) a76 (a38 (c7 5)))) (b9 (c7 7) (b9 (c7 3) (b9 (m2 Ω (c7 6) (mC (.int 7))) d9)))))))
 (k7 (p9 9 (C4 1 (u9 (b9 (m2 Θ (c7 6) (mC (.int 4))) d9)) (g6 11) L8 a7Z))
 (k7 (a2b 9 (a2b 3 (L4 (W5 (mtV (m9 a0j (b9 (c7 8) (b9 (m9 S7 (b9 (c7 7) (b9 (c7 9) (b9 (c7 3) (b9 (m2 Ω (c7 6) (mC (.int 4))) d9))))) (b9 (c7 9) (b9 (c7 3) d9))))))) (z7 (mC (.bool false))) x4)))
 (L4 (W4 (m2 gEq (m2 Θ (m2 Ω (c7 6) (mC (.int 11))) (mC (.int 9))) (mC (.int 0)))) (k7 (a2b 3 (p9 10 (m9 S7 (b9 (m2 K8 (mC (.int 1)) (m2 Θ (c7 7) (mC (.int 5)))) (b9 (a3t d9) (b9 (c7 3) (b9 (m2 Ω (c7 6) (mC (.int 4))) d9)))))))
 (a2b 9 (L4 (W4 (m2 gNe (m9 C2 (b9 (c7 8) (b9 (c7 10) (b9 (c7 9) d9)))) (mC (.str "unlike")))) (z7 (mC (.bool false))) x4))) x4))))))
def c1k:MS:=
 (k7 (p9 1 (m9 y6 (b9 (m9 N1 (b9 (c7 0) (b9 (mC (.int 0)) d9))) (b9 (mC (.int 0)) d9))))
 (k7 (p9 2 (m9 y6 (b9 (m9 N1 (b9 (c7 0) (b9 (mC (.int 1)) d9))) (b9 (mC (.int 1)) d9))))
 (k7 (p9 3 (m9 U6 (b9 (c7 2) (b9 (m2 K8 (mC (.int 1)) (m2 Θ (m2 Ω (c7 2) (mC (.int 26))) (mC (.int 4)))) d9))))
 (k7 (p9 4 (m2 K8 (a5K (c7 0) (a38 (mC (.int 2))) (a38 (mC (.int 14)))) (a3t (b9 (m1 z9 (c7 0)) d9))))
 (k7 (K5 (u9 (b9 (m1 z9 (c7 4)) d9)) (g6 5) a2K)
 (z7 (mC (.bool true))))))))
def b7F:Λ:=C3 10 c1k
set_option maxHeartbeats 1000000
noncomputable def t7:List Str:=[AR "stay",AR "turn",AR "half",AR "back",AR "side",AR "flip",AR "cross",AR "other"]
noncomputable def L9(w:Str)(a b:Int):Int:=if w=AR "stay" then a else if w=AR "turn" then b else if w=AR "half" then -a else if w=AR "back" then -b else if w=AR "side" then a else if w=AR "flip" then -a else if w=AR "cross" then b else -b
noncomputable def L7(w:Str)(a b:Int):Int:=if w=AR "stay" then b else if w=AR "turn" then -a else if w=AR "half" then -b else if w=AR "back" then a else if w=AR "side" then -b else if w=AR "flip" then b else if w=AR "cross" then a else -a
theorem W2{w:Str}(h:w∈t7):w=AR "stay"\/w=AR "turn"\/w=AR "half"\/w=AR "back"\/w=AR "side"\/w=AR "flip"\/w=AR "cross"\/w=AR "other":=by
 simpa [t7] using h
theorem c4L:Y8 J7 (.inr (AR "stay"))=ξ (.tuple [.int 1,.int 0,.int 0,.int 1]):=by kernel_rfl
theorem c4M:Y8 J7 (.inr (AR "turn"))=ξ (.tuple [.int 0,.int 1,.int (-1),.int 0]):=by kernel_rfl
theorem c4N:Y8 J7 (.inr (AR "half"))=ξ (.tuple [.int (-1),.int 0,.int 0,.int (-1)]):=by kernel_rfl
theorem c4O:Y8 J7 (.inr (AR "back"))=ξ (.tuple [.int 0,.int (-1),.int 1,.int 0]):=by kernel_rfl
theorem c4P:Y8 J7 (.inr (AR "side"))=ξ (.tuple [.int 1,.int 0,.int 0,.int (-1)]):=by kernel_rfl
theorem c4Q:Y8 J7 (.inr (AR "flip"))=ξ (.tuple [.int (-1),.int 0,.int 0,.int 1]):=by kernel_rfl
theorem c4R:Y8 J7 (.inr (AR "cross"))=ξ (.tuple [.int 0,.int 1,.int 1,.int 0]):=by kernel_rfl
theorem c4S:Y8 J7 (.inr (AR "other"))=ξ (.tuple [.int 0,.int (-1),.int (-1),.int 0]):=by kernel_rfl
theorem a6u{w:Str}(hw:w∈t7)(a b:Int):S9 [.str w,.tuple [.int a,.int b]]=φ (.tuple [.int (L9 w a b),.int (L7 w a b)]):=by
 have key:∀x y z t r c:Int,Y8 J7 (.inr w)=ξ (.tuple [.int x,.int y,.int z,.int t])->(-2<x/\x<2)->(-2<y/\y<2)->(-2<z/\z<2)->(-2<t/\t<2)->x*a+y*b=r->z*a+t*b=c->
  S9 [.str w,.tuple [.int a,.int b]]=φ (.tuple [.int r,.int c]):=by
  intro x y z t r c h hx hy hz ht e1 e2
  subst e1 e2
  unfold S9 a7t
  simp! [y4,U5,V3,V4,a7K,b7A,h9,j7,d4,e9,d6,d0,c9,z0,i6,o9,k9,v8,g7,i8,j9,l9,b8h,c3o,AF,BB,AI,Ab,Ah,Aa,Af,Ad,AV,AW,AT,Ai,↓reduceIte,sz,Nat.reduceAdd,Am,h]
 rcases W2 hw with rfl|rfl|rfl|rfl|rfl|rfl|rfl|rfl
 ·exact key _ _ _ _ _ _ c4L (by decide) (by decide) (by decide) (by decide) (by show _=a;lia) (by show _=b;lia)
 ·exact key _ _ _ _ _ _ c4M (by decide) (by decide) (by decide) (by decide) (by show _=b;lia) (by show _= -a;lia)
 ·exact key _ _ _ _ _ _ c4N (by decide) (by decide) (by decide) (by decide) (by show _= -a;lia) (by show _= -b;lia)
 ·exact key _ _ _ _ _ _ c4O (by decide) (by decide) (by decide) (by decide) (by show _= -b;lia) (by show _=a;lia)
 ·exact key _ _ _ _ _ _ c4P (by decide) (by decide) (by decide) (by decide) (by show _=a;lia) (by show _= -b;lia)
 ·exact key _ _ _ _ _ _ c4Q (by decide) (by decide) (by decide) (by decide) (by show _= -a;lia) (by show _=b;lia)
 ·exact key _ _ _ _ _ _ c4R (by decide) (by decide) (by decide) (by decide) (by show _=b;lia) (by show _=a;lia)
 ·exact key _ _ _ _ _ _ c4S (by decide) (by decide) (by decide) (by decide) (by show _= -b;lia) (by show _= -a;lia)
theorem c2u{w:Str}(hw:w∈t7){s:Int}(hs:0<s)(d r a b:Int):a7M [.int s,.tuple [.str w,.int d,.int r],.tuple [.int a,.int b]]=φ (.tuple [.int ((L9 w a b+d) % s),.int ((L7 w a b+r) % s)]):=by
 unfold a7M c1l;simp! [y4,t5,V3,V4,a7K,h9,j7,d4,e9,d6,d0,c9,z0,i7,i6,o9,k9,v8,g7,i8,j9,l9,AF,AI,Ab,Ah,Aa,Af,Ad,AV,AW,AT,Ai,↓reduceIte,sz,Nat.reduceAdd,Am,a6u hw a b]
abbrev T3(w:Str)(d r:Int):PV:= .tuple [.str w,.int d,.int r]
theorem b1k{w:Str}(hw:w∈t7)(a b x y:Int):L9 w (a+x) (b+y)=L9 w a b+L9 w x y:=by
 rcases W2 hw with rfl|rfl|rfl|rfl|rfl|rfl|rfl|rfl
 ·show a+x=a+x;rfl
 ·show b+y=b+y;rfl
 ·show -(a+x)= -a+ -x;lia
 ·show -(b+y)= -b+ -y;lia
 ·show a+x=a+x;rfl
 ·show -(a+x)= -a+ -x;lia
 ·show b+y=b+y;rfl
 ·show -(b+y)= -b+ -y;lia
theorem b0x{w:Str}(hw:w∈t7)(a b x y:Int):L7 w (a+x) (b+y)=L7 w a b+L7 w x y:=by
 rcases W2 hw with rfl|rfl|rfl|rfl|rfl|rfl|rfl|rfl
 ·show b+y=b+y;rfl
 ·show -(a+x)= -a+ -x;lia
 ·show -(b+y)= -b+ -y;lia
 ·show a+x=a+x;rfl
 ·show -(b+y)= -b+ -y;lia
 ·show b+y=b+y;rfl
 ·show a+x=a+x;rfl
 ·show -(a+x)= -a+ -x;lia
theorem b82{w:Str}(hw:w∈t7)(s x y:Int):∃k,L9 w (s*x) (s*y)=s*k:=by
 rcases W2 hw with rfl|rfl|rfl|rfl|rfl|rfl|rfl|rfl
 ·exact⟨x,rfl⟩
 ·exact⟨y,rfl⟩
 ·exact⟨-x,by show -(s*x)=s* -x;rw [Int.mul_neg]⟩
 ·exact⟨-y,by show -(s*y)=s* -y;rw [Int.mul_neg]⟩
 ·exact⟨x,rfl⟩
 ·exact⟨-x,by show -(s*x)=s* -x;rw [Int.mul_neg]⟩
 ·exact⟨y,rfl⟩
 ·exact⟨-y,by show -(s*y)=s* -y;rw [Int.mul_neg]⟩
theorem b60{w:Str}(hw:w∈t7)(s x y:Int):∃k,L7 w (s*x) (s*y)=s*k:=by
 rcases W2 hw with rfl|rfl|rfl|rfl|rfl|rfl|rfl|rfl
 ·exact⟨y,rfl⟩
 ·exact⟨-x,by show -(s*x)=s* -x;rw [Int.mul_neg]⟩
 ·exact⟨-y,by show -(s*y)=s* -y;rw [Int.mul_neg]⟩
 ·exact⟨x,rfl⟩
 ·exact⟨-y,by show -(s*y)=s* -y;rw [Int.mul_neg]⟩
 ·exact⟨y,rfl⟩
 ·exact⟨x,rfl⟩
 ·exact⟨-x,by show -(s*x)=s* -x;rw [Int.mul_neg]⟩
theorem b2f(x s k d:Int):(x+s*k+d) % s=(x+d) % s:=by
 rw [Int.add_right_comm,Int.add_mul_emod_self_left]
theorem b01(x s:Int):x % s=x+s*(-(x / s)):=by
 have:=Int.emod_add_mul_ediv x s;rw [Int.mul_neg]
 lia
theorem b1l{w:Str}(hw:w∈t7)(s x y e:Int):(L9 w (x % s) (y % s)+e) % s=(L9 w x y+e) % s:=by
 rw [b01 x s,b01 y s,b1k hw];obtain⟨k,hk⟩:=b82 hw s (-(x / s)) (-(y / s));rw [hk,b2f]
theorem b0y{w:Str}(hw:w∈t7)(s x y e:Int):(L7 w (x % s) (y % s)+e) % s=(L7 w x y+e) % s:=by
 rw [b01 x s,b01 y s,b0x hw];obtain⟨k,hk⟩:=b60 hw s (-(x / s)) (-(y / s));rw [hk,b2f]
def bwW(w:Str):Str:=if w=AR "turn" then AR "back" else if w=AR "back" then AR "turn" else w
theorem b7U(x y:Int):keysOf [.int x,.int y]=ξ [.inl x,.inl y]:=rfl
theorem b2P{a:Str}(ha:a∈t7):a34 [.str a]=φ (.str (bwW a)):=by
 rcases W2 ha with rfl|rfl|rfl|rfl|rfl|rfl|rfl|rfl<;>kernel_rfl
theorem c1Q:(t7.all λa=>decide (bwW a∈t7)&& decide (bwW (bwW a)=a))=true:=by decide+kernel
theorem b1L{a:Str}(ha:a∈t7):bwW a∈t7/\bwW (bwW a)=a:=by
 have h:=List.all_eq_true.mp c1Q a ha;simp only [χ,decide_eq_true_eq] at h;exact h
theorem b20{w:Str}(hw:w∈t7)(x y:Int):L9 (bwW w) (L9 w x y) (L7 w x y)=x/\L7 (bwW w) (L9 w x y) (L7 w x y)=y:=by
 rcases W2 hw with rfl|rfl|rfl|rfl|rfl|rfl|rfl|rfl
 ·exact⟨by show x=x;rfl,by show y=y;rfl⟩
 ·exact⟨by show - -x=x;lia,by show y=y;rfl⟩
 ·exact⟨by show - -x=x;lia,by show - -y=y;lia⟩
 ·exact⟨by show x=x;rfl,by show - -y=y;lia⟩
 ·exact⟨by show x=x;rfl,by show - -y=y;lia⟩
 ·exact⟨by show - -x=x;lia,by show y=y;rfl⟩
 ·exact⟨by show x=x;rfl,by show y=y;rfl⟩
 ·exact⟨by show - -x=x;lia,by show - -y=y;lia⟩
def lr(s:Int)(w:Str)(d t a b:Int):Int:=(L9 w a b+d) % s
def lc(s:Int)(w:Str)(d t a b:Int):Int:=(L7 w a b+t) % s
def bd(n:Int)(w:Str)(d t:Int):Int:=L9 (bwW w) (-d) (-t) % n
def bt(n:Int)(w:Str)(d t:Int):Int:=L7 (bwW w) (-d) (-t) % n
theorem b71{n:Int}(hn:0<n)(w:Str)(d t a b:Int):(0<=lr n w d t a b/\lr n w d t a b<n)/\0<=lc n w d t a b/\lc n w d t a b<n:=
 ⟨⟨Int.emod_nonneg _ (by lia),Int.emod_lt_of_pos _ (by lia)⟩,Int.emod_nonneg _ (by lia),Int.emod_lt_of_pos _ (by lia)⟩
theorem b83{w:Str}(hw:w∈t7)(x y d t:Int):L9 w x y+L9 w (-d) (-t)=L9 w (x - d) (y - t):=by
 rw [<-b1k hw];congr 1
theorem b61{w:Str}(hw:w∈t7)(x y d t:Int):L7 w x y+L7 w (-d) (-t)=L7 w (x - d) (y - t):=by
 rw [<-b0x hw];congr 1
theorem a2q{n:Int}(hn:0<n){w:Str}(hw:w∈t7)(d t:Int){a b:Int}(ha:0<=a/\a<n)(hb:0<=b/\b<n):
 lr n (bwW w) (bd n w d t) (bt n w d t) (lr n w d t a b) (lc n w d t a b)=a/\lc n (bwW w) (bd n w d t) (bt n w d t) (lr n w d t a b) (lc n w d t a b)=b:=by
 have h1:=(b1L hw).1
 unfold lr lc bd bt
 constructor
 ·rw [Int.add_emod_emod,b1l h1,b83 h1,Int.add_sub_cancel,Int.add_sub_cancel,(b20 hw a b).1,Int.emod_eq_of_lt ha.1 ha.2]
 ·rw [Int.add_emod_emod,b0y h1,b61 h1,Int.add_sub_cancel,Int.add_sub_cancel,(b20 hw a b).2,Int.emod_eq_of_lt hb.1 hb.2]
theorem b1q{w:Str}(hw:w∈t7)(x y:Int):L9 w (L9 (bwW w) x y) (L7 (bwW w) x y)=x/\L7 w (L9 (bwW w) x y) (L7 (bwW w) x y)=y:=by
 obtain⟨h1,h2⟩:=b1L hw;have:=b20 h1 x y;rw [h2] at this;exact this
theorem b72{n:Int}(hn:0<n){w:Str}(hw:w∈t7)(d t:Int){a b:Int}(ha:0<=a/\a<n)(hb:0<=b/\b<n):
 lr n w d t (lr n (bwW w) (bd n w d t) (bt n w d t) a b) (lc n (bwW w) (bd n w d t) (bt n w d t) a b)=a/\lc n w d t (lr n (bwW w) (bd n w d t) (bt n w d t) a b) (lc n (bwW w) (bd n w d t) (bt n w d t) a b)=b:=by
 have h1:=(b1L hw).1
 have e1:∀x y e:Int,(L9 w ((x+bd n w d t) % n) ((y+bt n w d t) % n)+e) % n=(L9 w x y+ - d+e) % n:=λx y e=>by
  rw [b1l hw,b1k hw,Int.add_assoc,<-Int.add_emod_emod,show(L9 w (bd n w d t) (bt n w d t)+e) % n=(-d+e) % n from ?_,Int.add_emod_emod,Int.add_assoc];unfold bd bt;rw [b1l hw,(b1q hw _ _).1]
 have e2:∀x y e:Int,(L7 w ((x+bd n w d t) % n) ((y+bt n w d t) % n)+e) % n=(L7 w x y+ - t+e) % n:=λx y e=>by
  rw [b0y hw,b0x hw,Int.add_assoc,<-Int.add_emod_emod,show(L7 w (bd n w d t) (bt n w d t)+e) % n=(-t+e) % n from ?_,Int.add_emod_emod,Int.add_assoc];unfold bd bt;rw [b0y hw,(b1q hw _ _).2]
 unfold lr lc
 rw [e1,e2,(b1q hw _ _).1,(b1q hw _ _).2,Int.add_assoc,Int.add_assoc,Int.add_left_neg,Int.add_left_neg,Int.add_zero,Int.add_zero,Int.emod_eq_of_lt ha.1 ha.2,Int.emod_eq_of_lt hb.1 hb.2]
 exact⟨rfl,rfl⟩
def i9(n:Nat)(f:Nat->Nat->Nat):PV:=a6g ((AK n).map λr=>(AK n).map λc=>f r c)
theorem E9(n:Nat)(f:Nat->Nat->Nat):z9 (.v (i9 n f))=φ (.int n):=by
 show z9 (.v (.tuple _))=_;rw [b7B,AN,AN,Av]
theorem a0C{n:Nat}{f:Nat->Nat->Nat}{i:Int}(h0:0<=i)(h1:i<n):v4 (.v (i9 n f)) (.v (.int i))=φ (row ((AK n).map λc=>f i.toNat c)):=by
 refine a4I ?_;rw [S1 h0,Ak,Ak,List.getElem?_range (by lia)]
 rfl
theorem a4h{n:Nat}{g:Nat->Nat}{j:Int}(h0:0<=j)(h1:j<n)(hn:n<=16777216):v4 (.v (row ((AK n).map g))) (.v (.int j))=φ (row [g j.toNat]):=by
 refine c1s (by rw [AN,Av];exact hn) ?_
 rw [S1 h0,Ak,List.getElem?_range (by lia)]
 rfl
theorem tn(k:Nat):((k:Nat):Int).toNat=k:=by lia
theorem b0W{w:Str}(hw:w∈t7){s:Int}(hs:0<s)(d r a b:Int):a7M [.int s,.tuple [.str w,.int d,.int r],.tuple [.int a,.int b]]=φ (.tuple [.int (lr s w d r a b),.int (lc s w d r a b)]):=c2u hw hs d r a b
theorem b9j{a:Str}(ha:a∈t7){s:Int}(hs:0<s)(d r:Int):Z4 [.int s,T3 a d r]=φ (T3 (bwW a) (bd s a d r) (bt s a d r)):=by
 unfold Z4 a4B bd bt;simp! [t5,V3,V4,a7K,h9,j7,d4,e9,d6,d0,c9,z0,i7,i6,o9,k9,v8,g7,i8,j9,l9,b8e,c2C,AF,AI,Ab,Ah,Aa,Af,Ad,AV,AW,AT,Ai,↓reduceIte,sz,Nat.reduceAdd,Am,b2P ha,a6u (b1L ha).1]
theorem b8n{n:Nat}(hn:0<n)(x:Int):0<=x % n/\x % n<n:=⟨Int.emod_nonneg _ (by lia),Int.emod_lt_of_pos _ (by lia)⟩
theorem a7W{n:Nat}(hn:0<n)(hn8:n<=100)(f:Nat->Nat->Nat)(r c:Int):a5B [i9 n f,.int r,.int c]=φ (row [f (r % n).toNat (c % n).toNat]):=by
 obtain⟨a1,a2⟩:=b8n hn r;obtain⟨b1,b2⟩:=b8n hn c;unfold a5B b6S;simp! [t5,h9,o8,d4,e9,i6,o9,k9,v8,g7,i8,j9,l9,AF,AI,Ab,Ah,Aa,Af,Ad,AV,AW,E9,a0C a1 a2,a4h b1 b2 (by lia)]
def mvd(n:Nat)(f:Nat->Nat->Nat)(w:Str)(d t:Int)(r c:Nat):Nat:=f (lr n (bwW w) (bd n w d t) (bt n w d t) r c).toNat (lc n (bwW w) (bd n w d t) (bt n w d t) r c).toNat
theorem c2B{n:Nat}(hn:0<n)(f:Nat->Nat->Nat){w:Str}(hw:w∈t7)(d t:Int){r c:Nat}(hr:r<n)(hc:c<n):mvd n f w d t (lr n w d t r c).toNat (lc n w d t r c).toNat=f r c:=by
 obtain⟨⟨b1,b2⟩,b3,b4⟩:=b71 (n:=(n:Int)) (by lia) w d t r c
 have h:=a2q (n:=(n:Int)) (by lia) hw d t (a:=r) (b:=c) (by lia) (by lia)
 unfold mvd;rw [Int.toNat_of_nonneg b1,Int.toNat_of_nonneg b3,h.1,h.2];simp
theorem b5W{n:Nat}(hn:0<n){w:Str}(hw:w∈t7)(d t:Int){r c:Nat}(hr:r<n)(hc:c<n):∃a b:Nat,a<n/\b<n/\lr n w d t a b=r/\lc n w d t a b=c:=by
 obtain⟨⟨b1,b2⟩,b3,b4⟩:=b71 (n:=(n:Int)) (by lia) (bwW w) (bd n w d t) (bt n w d t) r c
 have h:=b72 (n:=(n:Int)) (by lia) hw d t (a:=r) (b:=c) (by lia) (by lia)
 refine⟨(lr n (bwW w) (bd n w d t) (bt n w d t) r c).toNat,(lc n (bwW w) (bd n w d t) (bt n w d t) r c).toNat,by lia,by lia, ?_, ?_⟩
 ·rw [Int.toNat_of_nonneg b1,Int.toNat_of_nonneg b3];exact h.1
 ·rw [Int.toNat_of_nonneg b1,Int.toNat_of_nonneg b3];exact h.2
def uaC(n:Nat)(f:Nat->Nat->Nat)(w:Str)(d t:Int)(r c:Nat):Υ g5:=if(f r c==mvd n f w d t r c)=true then ζ else φ (.tuple [.int (r:Nat),.int (c:Nat)])
def uaR(n:Nat)(f:Nat->Nat->Nat)(w:Str)(d t:Int):Υ g5:=(AK n).findSome? λr=>(AK n).findSome? λc=>uaC n f w d t r c
theorem b36(a b:Nat):([a]==[b])=(a==b):=by
 rw [Bool.eq_iff_iff];simp
theorem b1p{n:Nat}(hn:0<n)(hn8:n<=100)(f:Nat->Nat->Nat){w:Str}(hw:w∈t7)(d t:Int):a0J [i9 n f,T3 w d t]=ξ ((uaR n f w d t).getD (.v .none)):=by
 have hb:=(b1L hw).1;have inner:∀(r:Nat),r<n->∀(q5 q6:Υ g5),((AK n).findSome? (uaC n f w d t r)=ζ/\∃ρ',x8 D6 (g6 5) (J9 0 n) [φ (i9 n f),φ (T3 w d t),φ (.int n),φ (T3 (bwW w) (bd n w d t) (bt n w d t)),φ (.int (r:Nat)),q5,q6]=ξ (.nx ρ')/\∃q4 q5 q6:Υ g5,ρ'=[φ (i9 n f),φ (T3 w d t),φ (.int n),φ (T3 (bwW w) (bd n w d t) (bt n w d t)),q4,q5,q6])\/(∃x,(AK n).findSome? (uaC n f w d t r)=ξ x/\x8 D6 (g6 5) (J9 0 n) [φ (i9 n f),φ (T3 w d t),φ (.int n),φ (T3 (bwW w) (bd n w d t) (bt n w d t)),φ (.int (r:Nat)),q5,q6]=ξ (.rt x)):=by
  intro r hr q5 q6;have st:∀c<n,f ((lr n (bwW w) (bd n w d t) (bt n w d t) r c) % n).toNat ((lc n (bwW w) (bd n w d t) (bt n w d t) r c) % n).toNat=mvd n f w d t r c:=by
   intro c hc;obtain⟨⟨b1,b2⟩,b3,b4⟩:=b71 (n:=(n:Int)) (by lia) (bwW w) (bd n w d t) (bt n w d t) r c
   rw [Int.emod_eq_of_lt b1 b2,Int.emod_eq_of_lt b3 b4]
   rfl
  have kk:∀c<n,f (((r:Nat):Int) % n).toNat (((c:Nat):Int) % n).toNat=f r c:=by
   intro c hc;rw [Int.emod_eq_of_lt (by lia) (by lia),Int.emod_eq_of_lt (by lia) (by lia),tn,tn]
  rcases a9J (body:=D6) (tg:=g6 5) (I:=λρ=>∃q5 q6:Υ g5,ρ=[φ (i9 n f),φ (T3 w d t),φ (.int n),φ (T3 (bwW w) (bd n w d t) (bt n w d t)),φ (.int (r:Nat)),q5,q6]) (f:=uaC n f w d t r) (n:=n) (ρ:=[φ (i9 n f),φ (T3 w d t),φ (.int n),φ (T3 (bwW w) (bd n w d t) (bt n w d t)),φ (.int (r:Nat)),q5,q6])
   (by
    rintro c hc ρ ⟨q5,q6,rfl⟩ hf;have hq:(f r c==mvd n f w d t r c)=true:=by
     unfold uaC at hf;split at hf
     ·assumption
     ·cases hf
    apply b9e rfl
    ·unfold D6;simp! [V3,V4,h9,j7,d4,e9,d6,d0,c9,z0,i7,i6,o9,g7,i8,l0,G0,m4,k6,n4,AF,AV,AW,AT,Ai,↓reduceIte,Bool.not_true,sz,Nat.reduceAdd,Am,b0W hb (s:=(n:Int)) (by lia),a7W hn hn8,st c hc,kk c hc,a6T,b36,hq]
     try rfl
    ·exact⟨_,_,rfl⟩)
   (by
    rintro c hc ρ ⟨q5,q6,rfl⟩ x hf;have hq:(f r c==mvd n f w d t r c)=false/\x= .v (.tuple [.int (r:Nat),.int (c:Nat)]):=by
     unfold uaC at hf;split at hf
     ·cases hf
     ·rename_i h;cases hf;exact⟨by simpa using h,rfl⟩
    obtain⟨hq,rfl⟩:=hq;refine⟨_,rfl, ?_⟩;unfold D6;simp! [V3,V4,h9,j7,d4,e9,d6,d0,c9,z0,i7,i6,o9,k9,v8,g7,i8,l0,V7,k6,n4,AF,AV,AW,AT,Ai,↓reduceIte,Bool.not_false,sz,Nat.reduceAdd,Am,b0W hb (s:=(n:Int)) (by lia),a7W hn hn8,st c hc,kk c hc,a6T,b36,hq]
    try rfl) ⟨q5,q6,rfl⟩ with⟨h1,ρ',h2,a,b,rfl⟩|⟨x,h1,h2⟩
  ·exact .inl ⟨h1,_,h2,_,_,_,rfl⟩
  ·exact .inr ⟨x,h1,h2⟩
 have outer:=a9J (body:=Q4) (tg:=g6 4) (I:=λρ=>∃q4 q5 q6:Υ g5,ρ=[φ (i9 n f),φ (T3 w d t),φ (.int n),φ (T3 (bwW w) (bd n w d t) (bt n w d t)),q4,q5,q6]) (f:=λr=>(AK n).findSome? (uaC n f w d t r)) (n:=n) (ρ:=[φ (i9 n f),φ (T3 w d t),φ (.int n),φ (T3 (bwW w) (bd n w d t) (bt n w d t)),ζ,ζ,ζ])
  (by
   rintro r hr ρ ⟨q4,q5,q6,rfl⟩ hf;rcases inner r hr q5 q6 with⟨_,ρ',h2,h3⟩|⟨x,h1,_⟩
   ·apply b9e rfl
    ·unfold Q4;simp! [d4,e9,d6,d0,c9,n0,r9,y3,AF,AV,AW];exact h2
    ·exact h3
   ·rw [h1] at hf;cases hf)
  (by
   rintro r hr ρ ⟨q4,q5,q6,rfl⟩ x hf;rcases inner r hr q5 q6 with⟨h1,_⟩|⟨y,h1,h2⟩
   ·rw [h1] at hf;cases hf
   ·rw [h1] at hf;cases hf;refine⟨_,rfl, ?_⟩;unfold Q4;simp! [d4,e9,d6,d0,c9,n0,r9,y3,AF,AV,AW];exact h2) ⟨ζ,ζ,ζ,rfl⟩
 unfold a0J a6e;rcases outer with⟨h1,ρ',h2,a,b,c,rfl⟩|⟨x,h1,h2⟩
 ·rw [show uaR n f w d t=ζ from h1];simp! [o8,j7,d4,e9,d6,d0,c9,i7,i6,o9,k9,v8,g7,i8,j9,l9,n0,r9,y3,AF,AI,Ab,Ah,Aa,Af,Ad,AV,AW,E9,b9j hw (s:=(n:Int)) (by lia),h2]
  try rfl
 ·rw [show uaR n f w d t=ξ x from h1];simp! [o8,d4,e9,d6,d0,c9,i7,i6,o9,g7,i8,a5e,j9,l9,n0,r9,y3,AF,AI,Ab,Ah,Aa,Af,Ad,AV,AW,E9,b9j hw (s:=(n:Int)) (by lia),h2]
  try rfl
theorem b6x{n:Nat}{f:Nat->Nat->Nat}{w:Str}{d t:Int}{x:g5}(h:uaR n f w d t=ξ x):∃r c:Nat,x= .v (.tuple [.int (r:Nat),.int (c:Nat)])/\r<n/\c<n/\(f r c==mvd n f w d t r c)=false:=by
 unfold uaR at h;obtain⟨r,hr,h⟩:=List.exists_of_findSome?_eq_some h;obtain⟨c,hc,h⟩:=List.exists_of_findSome?_eq_some h;unfold uaC at h;split at h
 ·cases h
 ·rename_i hq;cases h;exact⟨r,c,rfl,List.mem_range.mp hr,List.mem_range.mp hc,by simpa using hq⟩
theorem b9o{n:Nat}{f:Nat->Nat->Nat}{w:Str}{d t:Int}:uaR n f w d t=ζ↔∀r c:Nat,r<n->c<n->f r c=mvd n f w d t r c:=by
 unfold uaR;constructor
 ·intro h r c hr hc;have h1:=List.findSome?_eq_none_iff.mp h r (List.mem_range.mpr hr);have h2:=List.findSome?_eq_none_iff.mp h1 c (List.mem_range.mpr hc);unfold uaC at h2;split at h2
  ·rename_i hq;simpa using hq
  ·cases h2
 ·intro h;refine List.findSome?_eq_none_iff.mpr λr hr=>List.findSome?_eq_none_iff.mpr λc hc=> ?_;unfold uaC;rw [if_pos (by rw [beq_iff_eq];exact h r c (List.mem_range.mp hr) (List.mem_range.mp hc))]
theorem b5V{n:Nat}(hn:0<n)(hn8:n<=100)(f:Nat->Nat->Nat){w:Str}(hw:w∈t7)(d t:Int):a2H [i9 n f,T3 w d t]=φ (.bool (uaR n f w d t).isNone):=by
 unfold a2H b1G;simp! [h9,j7,d4,e9,d6,d0,c9,i7,k9,j9,AF,AI,Ab,Aa,An,b1p hn hn8 f hw];cases h:uaR n f w d t with
 |none=>rfl
 |some x=>
  obtain⟨r,c,rfl,_⟩:=b6x h
  rfl
theorem a8K:∀(l:List Nat) (g:Nat->Nat),((l.map λc=>[g c]).map (·.length)).sum=l.length
 |[],_=>rfl
 |a::l,g=>by
  have:=a8K l g;simp only [AI,AT,Ai,List.sum_cons] at this ⊢
  lia
theorem b5E(l:List Nat)(g:Nat->Nat):a7N [] (l.map λc=>[g c])=l.map g:=by
 rw [a4N];have:(l.map λc=>[g c])=((l.map g).map λc=>[c]):=by rw [Au];rfl
 rw [this,a2E]
theorem a1F{k:Nat}(hk:k<=10000)(g:Nat->Nat):Y7 (.v (.str (S []))) (.own ((AK k).map λj=>row [g j]))=φ (row ((AK k).map g)):=by
 rw [a31 (rows:=(AK k).map λj=>[g j]),b5E]
 ·show ξ _=ξ _;rw [Au];rfl
 ·rw [a8K,Av,AN,Av];simp only [Ai];lia
def a0w(ws:List Str)(n:Nat):List PV:=ws.flatMap λw=>(AK n).flatMap λd=>(AK n).map λt=>T3 w (d:Nat) (t:Nat)
def c3r:MS:=J6 1 (T6 (b9 (c7 2) (b9 (c7 3) (b9 (c7 4) d9))))
def c02:MS:=K5 (u9 (b9 (c7 0) d9)) (g6 4) c3r
def c03:MS:=K5 (u9 (b9 (c7 0) d9)) (g6 3) c02
theorem c4w{n:Nat}(hn8:n<=8)(w:Str)(d:Nat)(ps:List PV)(hl:ps.length<10000)(q4:Υ g5):∃q4':Υ g5,c02 [φ (.int n),ξ (.own ps),φ (.str w),φ (.int (d:Nat)),q4]=ξ (.nx [φ (.int n),ξ (.own (ps++(AK n).map λt=>T3 w (d:Nat) (t:Nat))),φ (.str w),φ (.int (d:Nat)),q4']):=by
 obtain⟨ρ1,e1,q,rfl⟩:=z5 (body:=c3r) (tg:=g6 4) (λj ρ=>∃q:Υ g5,ρ=[φ (.int n),ξ (.own (ps++(AK j).map λt=>T3 w (d:Nat) (t:Nat))),φ (.str w),φ (.int (d:Nat)),q])
  (ps:=J9 0 n) (ρ:=[φ (.int n),ξ (.own ps),φ (.str w),φ (.int (d:Nat)),q4])
  (by
   rintro j p hp ρ ⟨q,rfl⟩
   ext r
   rw [hj'] at hj ⊢;refine V0 rfl (ρ2:=[φ (.int n),ξ (.own (ps++(AK (j+1)).map λt=>T3 w (d:Nat) (t:Nat))),φ (.str w),φ (.int (d:Nat)),φ (.int (j:Nat))]) ?_ ⟨_,rfl⟩;unfold c3r;rw [B7 (r:= .v (T3 w (d:Nat) (j:Nat))) (by simp! [d4,e9,d6,d0,c9,z0,AF,AV,AW,AT,Ai,↓reduceIte,sz,Nat.reduceAdd,Am]) rfl rfl (by rw [Ar,AN,Av];lia),List.range_succ,BF,List.append_assoc]
   rfl) ⟨q4,by simp⟩
 rw [Q9,show((n:Int) - 0).toNat=n by lia] at e1
 refine⟨q, ?_⟩;unfold c02;simp! [d4,d6,d0,c9,n0,r9,y3,AF];exact e1
theorem b44(n d:Nat)(w:Str):((AK d).flatMap λd=>(AK n).map λt=>T3 w (d:Nat) (t:Nat)).length=d*n:=by
 induction d with
 |zero=>simp
 |succ d ih=>rw [List.range_succ,List.flatMap_append,Ar,ih];simp [Nat.succ_mul]
theorem c4x{n:Nat}(hn8:n<=8)(w:Str)(ps:List PV)(hl:ps.length<5000)(q3 q4:Υ g5):∃q3' q4':Υ g5,c03 [φ (.int n),ξ (.own ps),φ (.str w),q3,q4]=ξ (.nx [φ (.int n),ξ (.own (ps++(AK n).flatMap λd=>(AK n).map λt=>T3 w (d:Nat) (t:Nat))),φ (.str w),q3',q4']):=by
 obtain⟨ρ1,e1,q3',q4',rfl⟩:=z5 (body:=c02) (tg:=g6 3) (λj ρ=>∃q3 q4:Υ g5,ρ=[φ (.int n),ξ (.own (ps++(AK j).flatMap λd=>(AK n).map λt=>T3 w (d:Nat) (t:Nat))),φ (.str w),q3,q4])
  (ps:=J9 0 n) (ρ:=[φ (.int n),ξ (.own ps),φ (.str w),q3,q4])
  (by
   rintro j p hp ρ ⟨q3,q4,rfl⟩
   ext r
   rw [hj'] at hj ⊢;have hjn:j*n<=8*8:=Nat.mul_le_mul (by lia) hn8
   obtain⟨q4',e⟩:=c4w hn8 w j (ps++(AK j).flatMap λd=>(AK n).map λt=>T3 w (d:Nat) (t:Nat)) (by rw [Ar,b44];lia) q4
   refine V0 rfl e ⟨φ (.int (j:Nat)),q4', ?_⟩;rw [List.range_succ,List.flatMap_append,List.append_assoc];simp) ⟨q3,q4,by simp⟩
 rw [Q9,show((n:Int) - 0).toNat=n by lia] at e1
 refine⟨q3',q4', ?_⟩;unfold c03;simp! [d4,d6,d0,c9,n0,r9,y3,AF];exact e1
theorem b1D(ws:List Str)(n:Nat):(a0w ws n).length=ws.length*(n*n):=by
 induction ws with
 |nil=>simp [a0w]
 |cons w ws ih=>
  have e:a0w (w::ws) n=((AK n).flatMap λd=>(AK n).map λt=>T3 w (d:Nat) (t:Nat))++a0w ws n:=rfl;rw [e,Ar,ih,b44,AT,Nat.succ_mul,Nat.add_comm]
theorem c04{n:Nat}(hn8:n<=8)(ws:List Str)(hw:ws.length<=8):∃q2 q3 q4:Υ g5,x8 c03 (g6 2) (ws.map .str) [φ (.int n),ξ (.own []),ζ,ζ,ζ]=ξ (.nx [φ (.int n),ξ (.own (a0w ws n)),q2,q3,q4]):=by
 have hnn:n*n<=8*8:=Nat.mul_le_mul hn8 hn8;obtain⟨ρ1,e1,q2,q3,q4,rfl⟩:=z5 (body:=c03) (tg:=g6 2) (λj ρ=>∃q2 q3 q4:Υ g5,ρ=[φ (.int n),ξ (.own (a0w (ws.take j) n)),q2,q3,q4])
  (ps:=ws.map .str) (ρ:=[φ (.int n),ξ (.own []),ζ,ζ,ζ])
  (by
   rintro j p hp ρ ⟨q2,q3,q4,rfl⟩;rw [Ak] at hp;cases hj:ws[j]? with
   |none=>rw [hj] at hp;cases hp
   |some w=>
    rw [hj] at hp;cases hp;have hjl:j<ws.length:=(Al.mp hj).1;have hl:(a0w (ws.take j) n).length<5000:=by
     rw [b1D,List.length_take];have:min j ws.length*(n*n)<=8*(8*8):=Nat.mul_le_mul (by lia) hnn
     lia
    obtain⟨q3',q4',e⟩:=c4x hn8 w (a0w (ws.take j) n) hl q3 q4;refine V0 rfl e ⟨φ (.str w),q3',q4', ?_⟩;have ew:ws[j]=w:=(Al.mp hj).2;rw [List.take_succ_eq_append_getElem hjl,ew];unfold a0w;rw [List.flatMap_append];simp) ⟨ζ,ζ,ζ,by simp [a0w]⟩
 rw [AN,List.take_length] at e1;exact⟨q2,q3,q4,e1⟩
theorem b8m{ws:List Str}{n:Nat}{p:PV}:p∈a0w ws n↔∃w∈ws,∃d t:Nat,d<n/\t<n/\p=T3 w (d:Nat) (t:Nat):=by
 unfold a0w;constructor
 ·intro h;obtain⟨w,hw,h⟩:=List.mem_flatMap.mp h;obtain⟨d,hd,h⟩:=List.mem_flatMap.mp h;obtain⟨t,ht,rfl⟩:=Ae.mp h;exact⟨w,hw,d,t,List.mem_range.mp hd,List.mem_range.mp ht,rfl⟩
 ·rintro⟨w,hw,d,t,hd,ht,rfl⟩;exact List.mem_flatMap.mpr ⟨w,hw,List.mem_flatMap.mpr ⟨d,List.mem_range.mpr hd,Ae.mpr ⟨t,List.mem_range.mpr ht,rfl⟩⟩⟩
def a37(c k:Int):Int:=(c % 2147483647+17)*(48271+2*k*k) % 2147483629
theorem c2A(c k:Int):0<=a37 c k/\a37 c k<2147483629:=by
 unfold a37;exact⟨Int.emod_nonneg _ (by decide),Int.emod_lt_of_pos _ (by decide)⟩
theorem T7{c k:Int}(hk:0<=k/\k<100000):y6 [.int c,.int k]=φ (.int (a37 c k)):=by
 unfold y6 a6b a37;simp! [y4,U5,t5,h9,j7,d4,e9,k9,v8,j9,l9,AF,AI,Ab,Aa,An]
theorem b19(c:Int){m:Nat}(hm:m<1000):∃ls:List Nat,ls.length=m/\U6 [.int c,.int m]=ξ (.own (ls.map λx=>row [x])):=by
 refine⟨(AK m).map λ(k:Nat)=>97+((c+7*(k:Int)) % 26).toNat,by simp, ?_⟩
 unfold U6 a3F;simp! [j7,i6,o9,k9,g7,i8,j9,AF,AI,Ab,Ah,Aa,Af,Ad,AV,AW];rw [G6 (f:=λk:Nat=>row [97+((c+7*(k:Int)) % 26).toNat]) (AK m) (T5 (n:=m) rfl (by lia)) (by rw [Av];lia)]
 ·simp! [a5W,l9,AF,Au]
  rfl
 ·intro k hk;have hk:=List.mem_range.mp hk;refine⟨_,rfl, ?_⟩;unfold a1h;simp! [y4,U5,t5,h9,j7,d4,e9,c9,AF,Ah,Aa,Af,Ad,AV,AW,b6M (i:=(c+7*(k:Int)) % 26) (by lia) (by lia)]
theorem b4w{cs:List Int}(h:0<cs.length)(A:Int):∃c:Int,v4 (.v (.list (cs.map .int))) (.v (.int (A %(cs.length:Int))))=φ (.int c):=by
 have h0:0<=A %(cs.length:Int):=Int.emod_nonneg _ (by lia)
 have h1:A %(cs.length:Int)<cs.length:=Int.emod_lt_of_pos _ (by lia)
 have hk:(A %(cs.length:Int)).toNat<cs.length:=by lia
 exact⟨cs[(A %(cs.length:Int)).toNat],a1f (by rw [S1 h0,Ak,Ax hk];rfl)⟩
theorem a6X{ls:List Nat}(h:0<ls.length)(A:Int):∃x:Nat,v4 (.v (.list (ls.map λx=>row [x]))) (.v (.int (A %(ls.length:Int))))=φ (row [x]):=by
 have h0:0<=A %(ls.length:Int):=Int.emod_nonneg _ (by lia)
 have h1:A %(ls.length:Int)<ls.length:=Int.emod_lt_of_pos _ (by lia)
 have hk:(A %(ls.length:Int)).toNat<ls.length:=by lia
 exact⟨ls[(A %(ls.length:Int)).toNat],a1f (by rw [S1 h0,Ak,Ax hk];rfl)⟩
theorem b9O{cs:List Int}(hcs:0<cs.length){ls:List Nat}(hls:0<ls.length){n:Nat}(hn:0<n)(hn8:n<=8)(seed:Int)(s4 q8:Υ g5){r c:Nat}(hr:r<n)(hc:c<n){l:List Nat}(hl:l.length<1000):
 ∃(x:Nat) (q8':Υ g5),N7 [φ (.list (cs.map .int)),φ (.int n),φ (.list (ls.map λx=>row [x])),φ (.int seed),s4,φ (.int (r:Nat)),φ (.str (S l)),φ (.int (c:Nat)),q8]
  =ξ (.nx [φ (.list (cs.map .int)),φ (.int n),φ (.list (ls.map λx=>row [x])),φ (.int seed),s4,φ (.int (r:Nat)),φ (.str (S (l++[x]))),φ (.int (c:Nat)),q8']):=by
 have m0:0<=(r:Int)*n:=Int.mul_nonneg (by lia) (by lia)
 have m1:(r:Int)*n<=8*8:=Int.mul_le_mul (by lia) (by lia) (by lia) (by lia)
 have fin:∀A:Int,0<=A/\A<1000->∃(x:Nat),(v4 (.v (.list (cs.map .int))) (.v (.int (A %(cs.length:Int))))).bind (λy=>(g5.toVal y).bind λp=>(y6 [p,.int A]).bind λz=>(K2 (λ_ j=>0<j) (λi j=> .int (i % j)) z (.v (.int (ls.length:Int)))).bind λi=>v4 (.v (.list (ls.map λx=>row [x]))) i)=φ (row [x]):=by
  intro A hA;obtain⟨v,hv⟩:=b4w hcs A;obtain⟨x,hx⟩:=a6X hls (a37 v A);refine⟨x, ?_⟩;rw [hv];simp! [t5,c9,AF,T7 (c:=v) (k:=A) (by lia),hx]
 have key:∀A:Int,0<=A/\A<1000->∃(v:Int) (x:Nat),v4 (.v (.list (cs.map .int))) (.v (.int (A %(cs.length:Int))))=φ (.int v)/\y6 [.int v,.int A]=φ (.int (a37 v A))/\v4 (.v (.list (ls.map λx=>row [x]))) (.v (.int (a37 v A %(ls.length:Int))))=φ (row [x]):=by
  intro A hA;obtain⟨v,hv⟩:=b4w hcs A;obtain⟨x,hx⟩:=a6X hls (a37 v A);exact⟨v,x,hv,T7 (by lia),hx⟩
 have h4:seed % 4=0\/seed % 4=1\/seed % 4=2\/seed % 4=3:=by lia
 unfold N7
 rcases h4 with h|h|h|h
 ·obtain⟨v,x,e1,e2,e3⟩:=key ((r:Int)*n+c) (by lia)
  refine⟨x, ?_⟩
  simp! [y4,U5,t5,S4,h9,o8,j7,d4,e9,d6,d0,c9,i7,i6,o9,g7,i8,l0,G0,m4,k6,n4,AF,AV,AW,AN,Int.reduceBEq,a15,h,e1,e2,e3,a6S]
  exact⟨_,rfl⟩
 ·obtain⟨v,x,e1,e2,e3⟩:=key (c:Int) (by lia)
  refine⟨x, ?_⟩
  simp! [y4,U5,t5,S4,h9,o8,j7,d4,e9,d6,d0,c9,i7,i6,o9,g7,i8,l0,V7,G0,m4,k6,n4,AF,AV,AW,AN,beq_self_eq_true,Int.reduceBEq,a15,h,e1,e2,e3,a6S]
  exact⟨_,rfl⟩
 ·have b0:0<=((r:Int)+c) % n:=Int.emod_nonneg _ (by lia)
  have b1:((r:Int)+c) % n<n:=Int.emod_lt_of_pos _ (by lia)
  obtain⟨v,x,e1,e2,e3⟩:=key (((r:Int)+c) % n) (by lia)
  refine⟨x, ?_⟩
  simp! [y4,U5,t5,S4,h9,o8,j7,d4,e9,d6,d0,c9,i7,i6,o9,g7,i8,l0,V7,G0,m4,k6,n4,AF,AV,AW,AN,beq_self_eq_true,Int.reduceBEq,a15,h,e1,e2,e3,a6S]
  exact⟨_,rfl⟩
 ·obtain⟨A1,hA1,b1⟩:∃A:Int,(if(n:Int) - 1 - r<r then(n:Int) - 1 - r else(r:Int))=A/\0<=A/\A<8:=⟨_,rfl,by split<;>lia,by split<;>lia⟩
  obtain⟨A2,hA2,b2⟩:∃A:Int,(if(n:Int) - 1 - c<c then(n:Int) - 1 - c else(c:Int))=A/\0<=A/\A<8:=⟨_,rfl,by split<;>lia,by split<;>lia⟩
  have p0:0<=(n:Int)*A2:=Int.mul_nonneg (by lia) (by lia)
  have p1:(n:Int)*A2<=8*8:=Int.mul_le_mul (by lia) (by lia) (by lia) (by lia)
  obtain⟨v,x,e1,e2,e3⟩:=key (A1+(n:Int)*A2) (by lia)
  refine⟨x, ?_⟩
  simp! [y4,b7y,U5,t5,S4,h9,o8,j7,d4,e9,d6,d0,c9,i7,i6,o9,g7,i8,l0,V7,G0,m4,k6,n4,AF,AV,AW,AN,beq_self_eq_true,Int.reduceBEq,a15,h,hA1,hA2,e1,e2,e3,a6S]
  exact⟨_,rfl⟩
theorem b9P{cs:List Int}(hcs:0<cs.length){ls:List Nat}(hls:0<ls.length){n:Nat}(hn:0<n)(hn8:n<=8)(seed:Int)(q6 q7 q8:Υ g5){r:Nat}(hr:r<n){rows:List (List Nat)}(hR:rows.length<1000):
 ∃k:List Nat,k.length=n/\∃q6' q7' q8':Υ g5,N8 [φ (.list (cs.map .int)),φ (.int n),φ (.list (ls.map λx=>row [x])),φ (.int seed),ξ (.own (rows.map row)),φ (.int (r:Nat)),q6,q7,q8]
  =ξ (.nx [φ (.list (cs.map .int)),φ (.int n),φ (.list (ls.map λx=>row [x])),φ (.int seed),ξ (.own ((rows++[k]).map row)),φ (.int (r:Nat)),q6',q7',q8']):=by
 obtain⟨ρ3,e5,k,hk1,r7,r8,rfl⟩:=z5 (body:=N7) (tg:=g6 7) (λj ρ=>∃k:List Nat,k.length=j/\∃q7 q8:Υ g5,ρ=[φ (.list (cs.map .int)),φ (.int n),φ (.list (ls.map λx=>row [x])),φ (.int seed),ξ (.own (rows.map row)),φ (.int (r:Nat)),φ (.str (S k)),q7,q8])
  (ps:=J9 0 n) (ρ:=[φ (.list (cs.map .int)),φ (.int n),φ (.list (ls.map λx=>row [x])),φ (.int seed),ξ (.own (rows.map row)),φ (.int (r:Nat)),φ (.str (S [])),q7,q8])
  (by
   rintro j p hp ρ ⟨k,hk1,q7,q8,rfl⟩
   ext r
   rw [hj'] at hj ⊢;obtain⟨x,b,e⟩:=b9O hcs hls hn hn8 seed (ξ (.own (rows.map row))) q8 hr (c:=j) (by lia) (l:=k) (by lia)
   exact⟨_,_,rfl,.inl e,k++[x],by simp [hk1],_,_,rfl⟩) ⟨[],rfl,q7,q8,rfl⟩
 rw [Q9] at hk1
 refine⟨k,by lia, ?_⟩
 unfold N8
 simp! [j7,d4,e9,d6,d0,c9,i6,o9,g7,i8,n0,r9,y3,AF,AV,AW,show AR ""=S [] from rfl,e5]
 rw [B7 rfl rfl rfl (by rw [AN];lia)]
 exact⟨_,_,_,by rw [BF];rfl⟩
theorem b1O{rows:List (List Nat)}{n:Nat}(h1:rows.length=n)(h2:∀l∈rows,l.length=n):a6g rows=i9 n λr c=>(rows.getD r []).getD c 0:=by
 unfold i9
 congr 1
 refine List.ext_getElem (by rw [AN,Av,h1]) λi hi hi'=> ?_
 rw [List.getElem_map,List.getElem_range];have hl:=h2 rows[i] (List.getElem_mem _);refine List.ext_getElem (by rw [AN,Av,hl]) λj hj hj'=> ?_
 rw [List.getElem_map,List.getElem_range];simp [List.getD,hi,hj]
theorem b6X{cs:List Int}(hcs:0<cs.length){ls:List Nat}(hls:0<ls.length){n:Nat}(hn:0<n)(hn8:n<=8)(seed:Int):∃f:Nat->Nat->Nat,Z3 [.list (cs.map .int),.int n,.list (ls.map λx=>row [x]),.int seed]=φ (i9 n f):=by
 obtain⟨ρ2,e2,rows,hr1,hr2,q5,q6,q7,q8,rfl⟩:=z5 (body:=N8) (tg:=g6 5) (λi ρ=>∃rows:List (List Nat),rows.length=i/\(∀l∈rows,l.length=n)/\∃q5 q6 q7 q8:Υ g5,ρ=[φ (.list (cs.map .int)),φ (.int n),φ (.list (ls.map λx=>row [x])),φ (.int seed),ξ (.own (rows.map row)),q5,q6,q7,q8])
  (ps:=J9 0 n) (ρ:=[φ (.list (cs.map .int)),φ (.int n),φ (.list (ls.map λx=>row [x])),φ (.int seed),ξ (.own []),ζ,ζ,ζ,ζ])
  (by
   rintro i p hp ρ ⟨rows,h1,h2,q5,q6,q7,q8,rfl⟩
   ext j
   rw [hi'] at hi ⊢;obtain⟨l,hl1,a',b',c',e⟩:=b9P hcs hls hn hn8 seed q6 q7 q8 (r:=i) (by lia) (rows:=rows) (by lia)
   refine⟨_,_,rfl,.inl e,rows++[l],by simp [h1],λx hx=> ?_,_,_,_,_,rfl⟩
   rcases At.mp hx with h|h
   ·exact h2 x h
   ·have:x=l:=by simpa using h
    rw [this];lia) ⟨[],rfl,(by intro x h;cases h),ζ,ζ,ζ,ζ,rfl⟩
 rw [Q9] at hr1;have hrl:rows.length=n:=by lia
 refine⟨λr c=>(rows.getD r []).getD c 0, ?_⟩;unfold Z3 a4A;simp! [o8,d4,t8,e9,d6,d0,c9,A9,i6,M0,k9,v8,g7,i8,j9,l9,n0,r9,y3,AF,AI,Ab,Ah,Aa,Af,Ad,AV,AW,Ai,↓reduceIte,b3g,sz,Am,e2];rw [<-b1O hrl hr2]
 rfl
theorem b9G{n:Nat}(hn8:n<=8):a3i [.int n]=ξ (.own (a0w t7 n)):=by
 obtain⟨q2,q3,q4,e⟩:=c04 hn8 t7 (by decide)
 unfold a3i a9m;simp! [j7,d6,d0,c9,E3,A9,i6,M0,g7,i8,j9,n0,AF,AI,Ab,Ah,Aa,Af,Ad,AV,AW,AT,Ai,↓reduceIte,T2,x9,sz,Nat.reduceAdd,Am];rw [show x8 a4Q (g6 2) [.str (AR "stay"),.str (AR "turn"),.str (AR "half"),.str (AR "back"),.str (AR "side"),.str (AR "flip"),.str (AR "cross"),.str (AR "other")] [φ (.int n),ξ (.own []),ζ,ζ,ζ]=_ from e];simp! [i8,l9,AF,a1J,a1K]
abbrev Pt:=Int×Int
abbrev pl(p:Pt):PV:= .tuple [.int p.1,.int p.2]
abbrev kp(p:Pt):List k4:=[.inl p.1,.inl p.2]
def nxt(n:Int)(w:Str)(d t:Int)(p:Pt):Pt:=(lr n w d t p.1 p.2,lc n w d t p.1 p.2)
theorem c2v{n:Nat}(hn:0<n){w:Str}(hw:w∈t7)(d t:Int)(p:Pt):a7M [.int n,T3 w d t,pl p]=φ (pl (nxt n w d t p)):=b0W hw (by lia) d t p.1 p.2
theorem b3t{x:Str}{g:Λ}{i:Nat}{m:MA}{ρ:d5}{qs:List PV}{r:g5}{tab:List (Str×(Λ))}(h:ρ[i]?=ξ (φ (K0 x)))(hl:tab.lookup x=ξ g)(hm:m ρ=ξ qs)(hg:g qs=ξ r):a5J tab i m ρ=ξ r:=by
 unfold a5J;rw [h];show(tab.lookup x).bind (λg=>(m ρ).bind g)=_;rw [hl,AF,hm,AF,hg]
def Kn(D:Γ)(K:List Pt):Prop:=∀p:Pt,(p7 D (kp p)).isSome=decide (p∈K)
theorem Kn.put{D:Γ}{K:List Pt}(h:Kn D K)(p:Pt)(v:PV):Kn (G2 D (kp p) v) (K++[p]):=λq=>by
 rw [a1p]
 by_cases e:kp p=kp q
 ·have:p=q:=by
   injection e with e1 e2
   injection e2 with e2 _
   exact Prod.ext (Sum.inl.inj e1) (Sum.inl.inj e2)
  rw [if_pos e,this];simp
 ·rw [if_neg e,h q];have:q≠p:=λz=>e (by rw [z])
  simp [this]
theorem b2r{q0 q1 q2 q3 q5 q6 q7:Υ g5}:∀(L:List Pt) (D:Γ) (K:List Pt) (q8:Υ g5),D.length+L.length<=1000000->Kn D K->∃D' q8',Kn D' (K++L)/\D'.length<=D.length+L.length/\
 x8 V9 (g6 8) (L.map pl) [q0,q1,q2,q3,ξ (.ow (.dct D)),q5,q6,q7,q8]=ξ (.nx [q0,q1,q2,q3,ξ (.ow (.dct D')),q5,q6,q7,q8'])
 |[],D,K,q8,_,h=>⟨D,q8,by rw [An];exact h,AM _,rfl⟩
 |p::L,D,K,q8,hl,h=>by
  have hp:=W6 D (kp p) (.bool true);rw [AT] at hl;obtain⟨D',q8',h1,h2,h3⟩:=b2r L (G2 D (kp p) (.bool true)) (K++[p]) (φ (pl p)) (by lia) (h.put p _)
  refine⟨D',q8',by rw [List.append_assoc] at h1;exact h1,by rw [AT];lia, ?_⟩
  have hb:V9 [q0,q1,q2,q3,ξ (.ow (.dct D)),q5,q6,q7,φ (pl p)]=ξ (.nx [q0,q1,q2,q3,ξ (.ow (.dct (G2 D (kp p) (.bool true)))),q5,q6,q7,φ (pl p)]):=by
   unfold V9;simp! [j7,d4,e9,c9,AF,E5,J4];rw [P6 rfl (by lia)]
   rfl
  rw [AI,x8];show(V9 [q0,q1,q2,q3,ξ (.ow (.dct D)),q5,q6,q7,φ (pl p)]).bind _=_;rw [hb,AF];exact h3
abbrev v6(Ls:List (List Pt)):List PV:=Ls.map λL=> .list (L.map pl)
def a2c(G:Pt->Υ (List Pt)):List Pt->List (List Pt)->List Pt->Υ (List (List Pt)×List Pt)
 |[],m,K=>ξ (m,K)
 |p::ps,m,K=>if p∈K then a2c G ps m K else(G p).bind λL=>a2c G ps (m++[L]) (K++L)
theorem a8A{G:Pt->Υ (List Pt)}:∀(ps qs:List Pt) (m:List (List Pt)) (K:List Pt),a2c G (ps++qs) m K=(a2c G ps m K).bind λr=>a2c G qs r.1 r.2
 |[],_,_,_=>rfl
 |p::ps,qs,m,K=>by
  rw [Af,a2c,a2c];split
  ·exact a8A ps qs m K
  ·cases G p with
   |none=>rfl
   |some L=>rw [AF,AF];exact a8A ps qs (m++[L]) (K++L)
abbrev c4u:List (Str×(Λ)):=[((AR "circle_from"),A5)]
structure Ans(n:Nat)(lead:PV)(x:Str)(G:Pt->Υ (List Pt)):Prop where
 ex:∃g,c4u.lookup x=ξ g/\∀(p:Pt) (L:List Pt),G p=ξ L->g [.int n,lead,pl p]=ξ (.own (L.map pl))
 len:∀(p:Pt) (L:List Pt),G p=ξ L->L.length<=200
theorem a5o{n:Nat}{lead:PV}{x:Str}{G:Pt->Υ (List Pt)}(A:Ans n lead x G)(r:Int):∀(cs:List Int) (m:List (List Pt)) (K:List Pt) (T:List PV) (D:Γ) (q6 q7 q8:Υ g5) (m':List (List Pt)) (K':List Pt),Kn D K->T=v6 m->T.length+cs.length<=1000->D.length+200*cs.length<=900000->
 a2c G (cs.map λc=>(r,c)) m K=ξ (m',K')->
 ∃T' D' q6' q7' q8',Kn D' K'/\T'=v6 m'/\T'.length<=T.length+cs.length/\D'.length<=D.length+200*cs.length/\x8 K4 (g6 6) (cs.map .int) [φ (.int n),φ lead,φ (K0 x),ξ (.own T),ξ (.ow (.dct D)),φ (.int r),q6,q7,q8]
  =ξ (.nx [φ (.int n),φ lead,φ (K0 x),ξ (.own T'),ξ (.ow (.dct D')),φ (.int r),q6',q7',q8'])
 |[],m,K,T,D,q6,q7,q8,m',K',hK,hT,_,_,h=>by
  cases h;exact⟨T,D,q6,q7,q8,hK,hT,by simp,by simp,rfl⟩
 |c::cs,m,K,T,D,q6,q7,q8,m',K',hK,hT,hl,hd,h=>by
  rw [AT] at hl hd;rw [AI,a2c] at h;rw [AI,x8];show ∃T' D' q6' q7' q8',_/\_/\_/\_/\(K4 [φ (.int n),φ lead,φ (K0 x),ξ (.own T),ξ (.ow (.dct D)),φ (.int r),φ (.int c),q7,q8]).bind _=_;have hin:=hK (r,c)
  by_cases e:(r,c)∈K
  ·rw [if_pos e] at h;rw [decide_eq_true e] at hin;have hb:K4 [φ (.int n),φ lead,φ (K0 x),ξ (.own T),ξ (.ow (.dct D)),φ (.int r),φ (.int c),q7,q8]=ξ (.nx [φ (.int n),φ lead,φ (K0 x),ξ (.own T),ξ (.ow (.dct D)),φ (.int r),φ (.int c),q7,q8]):=by
    unfold K4;simp! [d4,e9,d6,d0,c9,z0,l0,G0,m4,k6,n4,AF,AT,Ai,↓reduceIte,Bool.not_true,sz,Nat.reduceAdd,Am,O8,J4,a2A,a2B,hin]
   rw [hb,AF];obtain⟨T',D',a,b,c',h1,h2,h3,h4,h5⟩:=a5o A r cs m K T D (φ (.int c)) q7 q8 m' K' hK hT (by lia) (by lia) h
   exact⟨T',D',a,b,c',h1,h2,by rw [AT];lia,by rw [AT];lia,h5⟩
  ·rw [if_neg e] at h;rw [decide_eq_false e] at hin;cases hs:G (r,c) with
   |none=>rw [hs] at h;cases h
   |some L=>
    rw [hs,AF] at h;have hL:=A.len _ _ hs;obtain⟨g,hg,hans⟩:=A.ex;have hr:=hans (r,c) L hs;obtain⟨D1,q8',hK1,hD1,hput⟩:=b2r (q0:=φ (.int n)) (q1:=φ lead) (q2:=φ (K0 x)) (q3:=ξ (.own (T++[.list (L.map pl)]))) (q5:=φ (.int r)) (q6:=φ (.int c)) (q7:=φ (.list (L.map pl))) L D K q8 (by lia) hK
    have hb:K4 [φ (.int n),φ lead,φ (K0 x),ξ (.own T),ξ (.ow (.dct D)),φ (.int r),φ (.int c),q7,q8]=ξ (.nx [φ (.int n),φ lead,φ (K0 x),ξ (.own (T++[.list (L.map pl)])),ξ (.ow (.dct D1)),φ (.int r),φ (.int c),φ (.list (L.map pl)),q8']):=by
     unfold K4;have hcall:a5J c4u 2 (b9 (c7 0) (b9 (c7 1) (b9 (T6 (b9 (c7 5) (b9 (c7 6) d9))) d9))) [φ (.int n),φ lead,φ (K0 x),ξ (.own T),ξ (.ow (.dct D)),φ (.int r),φ (.int c),q7,q8]=ξ (.own (L.map pl)):=by
      exact b3t (x:=x) (qs:=[.int n,lead,pl (r,c)]) rfl hg (by simp! [d4,e9,d6,d0,c9,z0,AF,AT,Ai,↓reduceIte,sz,Nat.reduceAdd,Am]) hr
     simp! [d4,e9,d6,d0,c9,z0,i6,M0,g7,i8,l0,V7,k6,n4,AF,AV,AW,AT,Ai,↓reduceIte,Bool.not_false,sz,Nat.reduceAdd,Am,O8,J4,a2A,a2B,hin,hcall];have z1:∀nn:MS,a2b 7 nn [φ (.int n),φ lead,φ (K0 x),ξ (.own T),ξ (.ow (.dct D)),φ (.int r),φ (.int c),ξ (.own (L.map pl)),q8]=nn [φ (.int n),φ lead,φ (K0 x),ξ (.own T),ξ (.ow (.dct D)),φ (.int r),φ (.int c),φ (.list (L.map pl)),q8]:=λ_=>rfl;have z2:∀nn:MS,a2b 7 nn [φ (.int n),φ lead,φ (K0 x),ξ (.own (T++[.list (L.map pl)])),ξ (.ow (.dct D)),φ (.int r),φ (.int c),φ (.list (L.map pl)),q8]=nn [φ (.int n),φ lead,φ (K0 x),ξ (.own (T++[.list (L.map pl)])),ξ (.ow (.dct D)),φ (.int r),φ (.int c),φ (.list (L.map pl)),q8]:=λ_=>rfl;rw [z1,B7 (r:= .v (.list (L.map pl))) (p:= .list (L.map pl)) rfl rfl rfl (by lia),AF,i8]
     show a2b 7 _ [φ (.int n),φ lead,φ (K0 x),ξ (.own (T++[.list (L.map pl)])),ξ (.ow (.dct D)),φ (.int r),φ (.int c),φ (.list (L.map pl)),q8]=_;rw [z2];simp! [d4,e9,c9,n0,AF,T2,x9,hput]
    rw [hb,AF];obtain⟨T',D',a,b,c',h1,h2,h3,h4,h5⟩:=a5o A r cs (m++[L]) (K++L) (T++[.list (L.map pl)]) D1 (φ (.int c)) (φ (.list (L.map pl))) q8' m' K' hK1 (by rw [hT];unfold v6;rw [BF];rfl) (by rw [Ar,List.length_singleton];lia) (by lia) h
    rw [Ar,List.length_singleton] at h3;exact⟨T',D',a,b,c',h1,h2,by rw [AT];lia,by rw [AT];lia,h5⟩
def a2u(n:Nat)(r:Int):List Pt:=((AK n).map λ(c:Nat)=>(c:Int)).map λc=>(r,c)
def b8w(n:Nat):List Int:=(AK n).map λ(c:Nat)=>(c:Int)
def pts(n:Nat):List Pt:=(b8w n).flatMap (a2u n)
theorem a99{n:Nat}(hn8:n<=8){lead:PV}{x:Str}{G:Pt->Υ (List Pt)}(A:Ans n lead x G):∀(rs:List Int) (m:List (List Pt)) (K:List Pt) (T:List PV) (D:Γ) (q5 q6 q7 q8:Υ g5) (m':List (List Pt)) (K':List Pt),Kn D K->T=v6 m->T.length+8*rs.length<=1000->D.length+1600*rs.length<=900000->
 a2c G (rs.flatMap (a2u n)) m K=ξ (m',K')->
 ∃T' D' q5' q6' q7' q8',Kn D' K'/\T'=v6 m'/\x8 W0 (g6 5) (rs.map .int) [φ (.int n),φ lead,φ (K0 x),ξ (.own T),ξ (.ow (.dct D)),q5,q6,q7,q8]
  =ξ (.nx [φ (.int n),φ lead,φ (K0 x),ξ (.own T'),ξ (.ow (.dct D')),q5',q6',q7',q8'])
 |[],m,K,T,D,q5,q6,q7,q8,m',K',hK,hT,_,_,h=>by
  cases h;exact⟨T,D,q5,q6,q7,q8,hK,hT,rfl⟩
 |r::rs,m,K,T,D,q5,q6,q7,q8,m',K',hK,hT,hl,hd,h=>by
  rw [AT] at hl hd;rw [List.flatMap_cons,a8A] at h;cases hs:a2c G (a2u n r) m K with
  |none=>rw [hs] at h;cases h
  |some z=>
   obtain⟨m1,K1⟩:=z;rw [hs,AF] at h;have hs':a2c G (((AK n).map λ(c:Nat)=>(c:Int)).map λc=>(r,c)) m K=ξ (m1,K1):=hs;have hcl:((AK n).map λ(c:Nat)=>(c:Int)).length=n:=by simp
   obtain⟨T1,D1,a6,a7,a8,h1,h2,h3,h4,h5⟩:=a5o A r ((AK n).map λ(c:Nat)=>(c:Int)) m K T D q6 q7 q8 m1 K1 hK hT (by rw [hcl];lia) (by rw [hcl];lia) hs'
   rw [hcl] at h3 h4;have hrng:((AK n).map λ(c:Nat)=>(c:Int)).map PyData.int=J9 0 (n:Int):=by
    unfold J9;rw [Au];simp
   rw [hrng] at h5;have hb:W0 [φ (.int n),φ lead,φ (K0 x),ξ (.own T),ξ (.ow (.dct D)),φ (.int r),q6,q7,q8]=ξ (.nx [φ (.int n),φ lead,φ (K0 x),ξ (.own T1),ξ (.ow (.dct D1)),φ (.int r),a6,a7,a8]):=by
    unfold W0;simp! [d4,d6,d0,c9,n0,r9,y3,AF,h5]
   obtain⟨T',D',b5,b6,b7,b8,k1,k2,k3⟩:=a99 hn8 A rs m1 K1 T1 D1 (φ (.int r)) a6 a7 a8 m' K' h1 h2 (by lia) (by lia) h
   refine⟨T',D',b5,b6,b7,b8,k1,k2, ?_⟩;rw [AI,x8];show(W0 [φ (.int n),φ lead,φ (K0 x),ξ (.own T),ξ (.ow (.dct D)),φ (.int r),q6,q7,q8]).bind _=_;rw [hb,AF];exact k3
theorem b6f{n:Nat}(hn8:n<=8){lead:PV}{x:Str}{G:Pt->Υ (List Pt)}(A:Ans n lead x G){m:List (List Pt)}{K:List Pt}(h:a2c G (pts n) [] []=ξ (m,K)):a4L [.int n,lead,K0 x]=ξ (.own (v6 m)):=by
 have h':a2c G (((AK n).map λ(c:Nat)=>(c:Int)).flatMap (a2u n)) [] []=ξ (m,K):=h;have hcl:((AK n).map λ(c:Nat)=>(c:Int)).length=n:=by simp
 obtain⟨T,D,a5,a6,a7,a8,h1,h2,h3⟩:=a99 hn8 A ((AK n).map λ(c:Nat)=>(c:Int)) [] [] [] [] ζ ζ ζ ζ m K (λp=>by simp [p7]) rfl (by rw [hcl];simp;lia) (by rw [hcl];simp;lia) h'
 have hrng:((AK n).map λ(c:Nat)=>(c:Int)).map PyData.int=J9 0 (n:Int):=by
  unfold J9;rw [Au];simp
 rw [hrng] at h3;subst h2;unfold a4L b1H;simp! [d4,d6,d0,c9,A9,i6,g7,i8,j9,l9,n0,r9,y3,AF,AI,Ab,Ah,Aa,Af,Ad,AV,AW,Ai,↓reduceIte,a1J,a1K,sz,Am,a0a,W8,h3]
def V8(n:Nat)(p:Pt):Prop:=(0<=p.1/\p.1<n)/\0<=p.2/\p.2<n
abbrev Tr:=Str×Nat×Nat
theorem a8k{α β:Type}{f:α->β}:∀{l:List β} {L:List α},(L.map f).Perm l->∃M:List α,M.Perm L/\M.map f=l:=by
 intro l L h;generalize hK:L.map f=K at h
 induction h generalizing L with
 |nil=>exact⟨[],by rw [List.map_eq_nil_iff] at hK;rw [hK],rfl⟩
 |cons x _ ih=>
  cases L with
  |nil=>cases hK
  |cons y L=>
   rw [AI] at hK;injection hK with h1 h2
   obtain⟨M,a,b⟩:=ih h2;exact⟨y::M,a.cons y,by rw [AI,b,h1]⟩
 |swap x y l=>
  match L,hK with
  |a::b::L,hK=>
   injection hK with h1 h2
   injection h2 with h2 h3
   exact⟨b::a::L,List.Perm.swap a b L,by rw [AI,AI,h1,h2,h3]⟩
  |[_],hK=>cases hK
  |[],hK=>cases hK
 |trans _ _ ih1 ih2=>
  obtain⟨M,a,b⟩:=ih1 hK;obtain⟨N,c,d⟩:=ih2 b;exact⟨N,c.trans a,d⟩
theorem b17:∀L:List Pt,a7U (L.map pl)=ξ (L.map kp)
 |[]=>rfl
 |x::L=>by
  show(keysOf [.int x.1,.int x.2]).bind (λk=>(a7U (L.map pl)).map λt=>k::t)=_;rw [b17 L];rfl
theorem c2D(L:List Pt):okK (L.map kp)=true:=by
 cases L with
 |nil=>rfl
 |cons x L=>
  show(!(kp x).isEmpty &&(L.map kp).all λj=>j.map sgK==(kp x).map sgK)=true;rw [χ];refine⟨rfl,List.all_eq_true.mpr λj hj=> ?_⟩;obtain⟨y,_,rfl⟩:=Ae.mp hj
  rfl
def ltP(p q:Pt):Prop:=p.1<q.1\/p.1=q.1/\p.2<q.2
theorem b79{p q:Pt}(h:ltP p q):¬ltP q p:=λg=>by
 unfold ltP at h g
 lia
theorem b78{p q:Pt}(h:ltP p q)(a b:List k4):R4 (.inl p.1:: .inl p.2::a) (.inl q.1:: .inl q.2::b)=true:=by
 unfold R4;rcases h with h|⟨h1,h2⟩
 ·rw [if_neg (λe=>by have:=Sum.inl.inj e;lia)]
  exact decide_eq_true h
 ·rw [if_pos (by rw [h1])]
  unfold R4;rw [if_neg (λe=>by have:=Sum.inl.inj e;lia)]
  exact decide_eq_true h2
theorem b4Y{L:List Pt}(h:L.length<64)(nd:L.Nodup)(x:g5)(hx:x.rd= .list (L.map pl)):∃M:List Pt,M.Perm L/\a33 x=ξ (.own (M.map pl))/\M.Pairwise ltP:=by
 have hp:=a1T (lt:=R4) (L.map kp);have hso:=Z8 a0m (L.map kp);obtain⟨M,hP,hM⟩:=a8k hp.symm;refine⟨M,hP, ?_, ?_⟩
 ·unfold a33;rw [hx];show(a7U (L.map pl)).bind _=_;rw [b17];show(if okK (L.map kp)=true/\(L.map kp).length<64 then ξ (g5.own ((a19 R4 (L.map kp)).map kT)) else ζ)=_
  rw [if_pos ⟨c2D L,by rw [AN];lia⟩,<-hM,Au]
  rfl
 ·rw [<-hM] at hso;have h1:=List.pairwise_map.mp hso;refine(h1.and (hP.nodup_iff.mpr nd)).imp λ {a b} ⟨h2,h3⟩=> ?_;apply Classical.byContradiction;intro hno;have:ltP b a:=by
   unfold ltP at hno ⊢;have:¬(a.1=b.1/\a.2=b.2):=λz=>h3 (Prod.ext z.1 z.2)
   lia
  have:=b78 this [] [];rw [h2] at this;cases this
abbrev st(n:Nat)(x:Tr)(p:Pt):Pt:=nxt n x.1 (x.2.1:Nat) (x.2.2:Nat) p
abbrev G1(ms:List Tr):List PV:=ms.map λx=>T3 x.1 (x.2.1:Nat) (x.2.2:Nat)
def Clo(n:Nat)(ms:List Tr)(C:Pt->Prop):Prop:=∀p,C p->∀x∈ms,C (st n x p)
def Rch(n:Nat)(ms:List Tr)(p q:Pt):Prop:=∀C:Pt->Prop,Clo n ms C->C p->C q
theorem Rch.refl{n:Nat}{ms:List Tr}(p:Pt):Rch n ms p p:=λ_ _ h=>h
theorem Rch.step{n:Nat}{ms:List Tr}{p q:Pt}(h:Rch n ms p q){x:Tr}(hx:x∈ms):Rch n ms p (st n x q):=λC hC hp=>hC q (h C hC hp) x hx
theorem b2E{n:Nat}(hn:0<n)(x:Tr)(p:Pt):V8 n (st n x p):=
 ⟨⟨Int.emod_nonneg _ (by lia),Int.emod_lt_of_pos _ (by lia)⟩,Int.emod_nonneg _ (by lia),Int.emod_lt_of_pos _ (by lia)⟩
def unw(l:List Pt)(K:List Pt):Nat:=(l.filter λq=> !decide (q∈K)).length
theorem b9q(q:Pt)(K:List Pt):∀l:List Pt,unw l (K++[q])<=unw l K
 |[]=>AM _
 |a::l=>by
  have ih:=b9q q K l;unfold unw at ih ⊢;rw [List.filter_cons,List.filter_cons]
  by_cases h:a∈K
  ·have:a∈K++[q]:=Ay _ h;simp only [h,this,decide_true,Bool.not_true,Aw,if_false];exact ih
  ·by_cases h2:a=q
   ·have:a∈K++[q]:=by rw [h2];simp
    simp only [h,this,decide_true,decide_false,Bool.not_true,Bool.not_false,Aw,if_false,if_true,AT]
    lia
   ·have:a∉K++[q]:=by simp [h,h2]
    simp only [h,this,decide_false,Bool.not_false,if_true,AT]
    lia
theorem a8M{q:Pt}{K:List Pt}(hq:q∉K):∀{l:List Pt},q∈l->unw l (K++[q])<unw l K
 |[],h=>by cases h
 |a::l,h=>by
  have le:=b9q q K l
  by_cases e:a=q
  ·unfold unw at le ⊢;rw [List.filter_cons,List.filter_cons];have h1:a∈K++[q]:=by rw [e];simp
   have h2:a∉K:=by rw [e];exact hq
   simp only [h1,h2,decide_true,decide_false,Bool.not_true,Bool.not_false,Aw,if_false,if_true,AT]
   lia
  ·have hl:q∈l:=by
    rcases AX.mp h with z|z
    ·exact absurd z.symm e
    ·exact z
   have ih:=a8M hq hl;unfold unw at ih ⊢;rw [List.filter_cons,List.filter_cons]
   by_cases h1:a∈K
   ·have h2:a∈K++[q]:=Ay _ h1;simp only [h1,h2,decide_true,Bool.not_true,Aw,if_false];exact ih
   ·have h2:a∉K++[q]:=by simp [h1,e]
    simp only [h1,h2,decide_false,Bool.not_false,if_true,AT]
    lia
theorem b3j{n:Nat}{p:Pt}(h:V8 n p):∃a b:Nat,a<n/\b<n/\p=((a:Int),(b:Int)):=by
 obtain⟨⟨h1,h2⟩,h3,h4⟩:=h;obtain⟨x,y⟩:=p;exact⟨x.toNat,y.toNat,by lia,by lia,by rw [Int.toNat_of_nonneg h1,Int.toNat_of_nonneg h3]⟩
theorem Z6{n:Nat}{q:Pt}(h:V8 n q):q∈pts n:=by
 obtain⟨a,b,ha,hb,rfl⟩:=b3j h;unfold pts b8w;exact List.mem_flatMap.mpr ⟨(a:Int),Ae.mpr ⟨a,List.mem_range.mpr ha,rfl⟩,Ae.mpr ⟨(b:Int),Ae.mpr ⟨b,List.mem_range.mpr hb,rfl⟩,rfl⟩⟩
theorem b8X{n:Nat}{q:Pt}(h:q∈pts n):V8 n q:=by
 unfold pts b8w at h;obtain⟨r,hr,h⟩:=List.mem_flatMap.mp h;obtain⟨a,ha,rfl⟩:=Ae.mp hr;unfold a2u at h;obtain⟨c,hc,rfl⟩:=Ae.mp h;obtain⟨b,hb,rfl⟩:=Ae.mp hc;have:=List.mem_range.mp ha;have:=List.mem_range.mp hb;exact⟨⟨by lia,by lia⟩,by lia,by lia⟩
theorem a3n(n:Nat):(pts n).length=n*n:=by
 unfold pts b8w;have:∀l:List Int,(l.flatMap (a2u n)).length=l.length*n:=by
  intro l
  induction l with
  |nil=>simp
  |cons a l ih=>rw [List.flatMap_cons,Ar,ih,AT,Nat.add_mul,Nat.one_mul];unfold a2u;simp;lia
 rw [this];simp
theorem c1C(l K:List Pt):unw l K<=l.length:=List.length_filter_le _ _
structure Fnd(n:Nat)(ms:List Tr)(p:Pt)(W:List Pt)(D:Γ):Prop where
 kn:Kn D W
 dl:D.length<=W.length
 b:W.length+unw (pts n) W<=n*n
 hp:p∈W
 all:∀q∈W,V8 n q/\Rch n ms p q
 nd:W.Nodup
theorem Fnd.add{n:Nat}{ms:List Tr}{p:Pt}{W:List Pt}{D:Γ}(h:Fnd n ms p W D){q:Pt}(hq:q∉W)(hb:V8 n q)(hr:Rch n ms p q):Fnd n ms p (W++[q]) (G2 D (kp q) (.bool true)) where
 kn:=h.kn.put q _
 dl:=by
  have:=W6 D (kp q) (.bool true);have:=h.dl;rw [Ar,List.length_singleton];lia
 b:=by
  have:=a8M hq (Z6 hb);have:=h.b;rw [Ar,List.length_singleton];lia
 hp:=Ay _ h.hp
 all:=λz hz=>by
  rcases At.mp hz with y|y
  ·exact h.all z y
  ·have:z=q:=by simpa using y
   rw [this];exact⟨hb,hr⟩
 nd:=by
  rw [List.nodup_append];refine⟨h.nd,by simp,λa ha b hb'=> ?_⟩
  have:b=q:=by simpa using hb'
  rw [this];exact λe=>hq (e▸ha)
theorem b0v{n:Nat}(hn:0<n)(hn8:n<=8){ms:List Tr}{p p0:Pt}{i:Nat}(h0:Rch n ms p p0){q1 q2:Υ g5}:∀(xs:List Tr) (W:List Pt) (D:Γ) (q6 q7:Υ g5),(∀x∈xs,x∈ms/\x.1∈t7)->W[i]?=ξ p0->Fnd n ms p W D->∃N D' q6' q7',Fnd n ms p (W++N) D'/\(∀x∈xs,st n x p0∈W++N)/\
 x8 u3 (g6 6) (G1 xs) [φ (.int n),q1,q2,ξ (.ow (.dct D)),ξ (.own (W.map pl)),φ (.int (i:Int)),q6,q7]=ξ (.nx [φ (.int n),q1,q2,ξ (.ow (.dct D')),ξ (.own ((W++N).map pl)),φ (.int (i:Int)),q6',q7'])
 |[],W,D,q6,q7,_,_,h=>⟨[],D,q6,q7,by rw [An];exact h,(λx hx=>nomatch hx),by rw [An];rfl⟩
 |x::xs,W,D,q6,q7,hx,hi,h=>by
  have hxm:=hx x AZ;have hnn:n*n<=8*8:=Nat.mul_le_mul hn8 hn8;have hb:=h.b;have hdl:=h.dl;have ix:v4 (.bor (W.map pl)) (.v (.int (i:Int)))=φ (pl p0):=by
   refine a0G ?_;rw [b1E,Ak,hi];rfl
  have hl:=c2v hn hxm.2 (x.2.1:Nat) (x.2.2:Nat) p0;have hin:=h.kn (st n x p0);show ∃N D' q6' q7',_/\_/\x8 u3 (g6 6) (T3 x.1 (x.2.1:Nat) (x.2.2:Nat)::G1 xs) _=_
  by_cases e:st n x p0∈W
  ·rw [decide_eq_true e] at hin;have hbd:u3 [φ (.int n),q1,q2,ξ (.ow (.dct D)),ξ (.own (W.map pl)),φ (.int (i:Int)),φ (T3 x.1 (x.2.1:Nat) (x.2.2:Nat)),q7]=ξ (.nx [φ (.int n),q1,q2,ξ (.ow (.dct D)),ξ (.own (W.map pl)),φ (.int (i:Int)),φ (T3 x.1 (x.2.1:Nat) (x.2.2:Nat)),φ (pl (st n x p0))]):=by
    unfold u3;simp! [h9,d4,t8,e9,d6,d0,c9,i7,i6,o9,g7,i8,l0,G0,m4,k6,n4,AF,AV,AW,↓reduceIte,Bool.not_true,ix,hl,O8,J4,a2A,a2B,hin]
   obtain⟨N,D',a6,a7,h1,h2,h3⟩:=b0v hn hn8 h0 xs W D (φ (T3 x.1 (x.2.1:Nat) (x.2.2:Nat))) (φ (pl (st n x p0))) (λy hy=>hx y (Ag _ hy)) hi h;refine⟨N,D',a6,a7,h1,λy hy=> ?_, ?_⟩
   ·rcases AX.mp hy with rfl|hy
    ·exact Ay _ e
    ·exact h2 y hy
   ·ext y
    rw [hbd,AF];exact h3
  ·rw [decide_eq_false e] at hin;have hF:=h.add e (b2E hn x p0) (h0.step hxm.1);have hbd:u3 [φ (.int n),q1,q2,ξ (.ow (.dct D)),ξ (.own (W.map pl)),φ (.int (i:Int)),φ (T3 x.1 (x.2.1:Nat) (x.2.2:Nat)),q7]=ξ (.nx [φ (.int n),q1,q2,ξ (.ow (.dct (G2 D (kp (st n x p0)) (.bool true)))),ξ (.own ((W++[st n x p0]).map pl)),φ (.int (i:Int)),φ (T3 x.1 (x.2.1:Nat) (x.2.2:Nat)),φ (pl (st n x p0))]):=by
    unfold u3
    ext aa
    rw [B7 (r:= .v (pl (st n x p0))) (p:=pl (st n x p0)) rfl rfl rfl (by rw [AN];lia),BF]
    rfl
   obtain⟨N,D',a6,a7,h1,h2,h3⟩:=b0v hn hn8 h0 xs (W++[st n x p0]) (G2 D (kp (st n x p0)) (.bool true)) (φ (T3 x.1 (x.2.1:Nat) (x.2.2:Nat))) (φ (pl (st n x p0))) (λy hy=>hx y (Ag _ hy)) (by
    rw [BC (Al.mp hi).1];exact hi) hF
   refine⟨[st n x p0]++N,D',a6,a7,by rw [<-List.append_assoc];exact h1,λy hy=> ?_, ?_⟩
   ·rw [<-List.append_assoc];rcases AX.mp hy with rfl|hy
    ·exact Ay _ (by simp)
    ·exact h2 y hy
   ·ext y
    rw [hbd,AF,<-List.append_assoc];exact h3
theorem b8d{i:Nat}{ρ:d5}{x y:Int}(h:ρ[i]?=ξ (φ (.int x))):b8c i (gI λi j=> .int (i+j)) (mC (.int y)) ρ=ξ (.nx (ρ.set i (φ (.int (x+y))))):=by
 unfold b8c;rw [h]
 rfl
theorem b5j{n:Nat}(hn:0<n)(hn7:n<=7){ms:List Tr}(hms:∀x∈ms,x.1∈t7){p:Pt}(hp:V8 n p):∃L:List Pt,L.length<=64/\(∀q,q∈L↔Rch n ms p q)/\A5 [.int n,.list (G1 ms),pl p]=ξ (.own (L.map pl))/\L.Nodup/\L.Pairwise ltP:=by
 have hnn:n*n<=7*7:=Nat.mul_le_mul hn7 hn7;have key:=a3a (c:=W4 (m2 a32 (c7 5) (m1 z9 (c7 4)))) (body:=K9) (I:=λm ρ=>∃(W:List Pt) (D:Γ) (i:Nat) (q6 q7:Υ g5),m=n*n - i/\i<=W.length/\Fnd n ms p W D/\(∀j q,j<i->W[j]?=ξ q->∀x∈ms,st n x q∈W)/\ρ=[φ (.int n),φ (.list (G1 ms)),φ (pl p),ξ (.ow (.dct D)),ξ (.own (W.map pl)),φ (.int (i:Int)),q6,q7])
  (by
   rintro m ρ ⟨W,D,i,q6,q7,hm,hi,hF,hC,rfl⟩;have hb:=hF.b;have hc:W4 (m2 a32 (c7 5) (m1 z9 (c7 4))) [φ (.int n),φ (.list (G1 ms)),φ (pl p),ξ (.ow (.dct D)),ξ (.own (W.map pl)),φ (.int (i:Int)),q6,q7]=ξ (decide ((i:Int)<(W.length:Int))):=by
    ext ac
   by_cases e:i<W.length
   ·obtain⟨p0,hp0⟩:∃p0,W[i]?=ξ p0:=⟨W[i],Ax e⟩;obtain⟨N,D',a6,a7,h1,h2,h3⟩:=b0v hn (by lia) (hF.all p0 (BE hp0)).2 (i:=i) (q1:=φ (.list (G1 ms))) (q2:=φ (pl p)) ms W D q6 q7 (λx hx=>⟨hx,hms x hx⟩) hp0 hF
    refine .inr ⟨by rw [hc,decide_eq_true (by lia)],[φ (.int n),φ (.list (G1 ms)),φ (pl p),ξ (.ow (.dct D')),ξ (.own ((W++N).map pl)),φ (.int ((i:Int)+1)),a6,a7],n*n - (i+1), ?_,by lia,W++N,D',i+1,a6,a7,rfl,by rw [Ar];lia,h1,λj q hj hq x hx=> ?_,by rw [Int.natCast_add];rfl⟩
    ·unfold K9;simp! [d4,e9,c9,g7,i8,n0,AF,T2,x9,h3];rw [b8d rfl]
     rfl
    ·by_cases hji:j<i
     ·have hjW:j<W.length:=by lia
      rw [BC hjW] at hq;exact Ay _ (hC j q hji hq x hx)
     ·have:j=i:=by lia
      subst this;rw [BC e,hp0] at hq;cases hq;exact h2 x hx
   ·exact .inl (by rw [hc,decide_eq_false (by lia)]))
  100 (n*n - 0) [φ (.int n),φ (.list (G1 ms)),φ (pl p),ξ (.ow (.dct [(kp p,.bool true)])),ξ (.own ([p].map pl)),φ (.int 0),ζ,ζ] (by lia)
  ⟨[p],[(kp p,.bool true)],0,ζ,ζ,rfl,by simp,⟨λq=>by
    by_cases e:q=p
    ·subst e;simp [p7]
    ·have:kp p≠kp q:=λz=>by
      injection z with z1 z2
      injection z2 with z2 _
      exact e (Prod.ext (Sum.inl.inj z1).symm (Sum.inl.inj z2).symm)
     simp [p7,this,e],by simp,by
    have h:=a8M (q:=p) (K:=[]) (by simp) (Z6 hp)
    have h2:=c1C (pts n) [];rw [a3n] at h2;rw [Ad] at h;simp only [AT,Ai];lia,by simp,λq hq=>by
    have:q=p:=by simpa using hq
    rw [this];exact⟨hp,Rch.refl p⟩,by simp⟩,λj q hj=>by lia,rfl⟩
 obtain⟨ρ',m',e,⟨W,D,i,q6,q7,_,hi,hF,hC,rfl⟩,hc⟩:=key;have hb:=hF.b;have hc':W4 (m2 a32 (c7 5) (m1 z9 (c7 4))) [φ (.int n),φ (.list (G1 ms)),φ (pl p),ξ (.ow (.dct D)),ξ (.own (W.map pl)),φ (.int (i:Int)),q6,q7]=ξ (decide ((i:Int)<(W.length:Int))):=by
  ext ac
 rw [hc'] at hc;have hiW:i=W.length:=by
  have:¬((i:Int)<(W.length:Int)):=of_decide_eq_false (Option.some.inj hc)
  lia
 obtain⟨M,hM,es,hso⟩:=b4Y (L:=W) (by lia) hF.nd (.bor (W.map pl)) rfl
 refine⟨M,by rw [hM.length_eq];lia,λq=>⟨λh=>(hF.all q (hM.mem_iff.mp h)).2,λh=>hM.mem_iff.mpr (h (λz=>z∈W) (λz hz x hx=> ?_) hF.hp)⟩, ?_,hM.nodup_iff.mpr hF.nd,hso⟩
 ·obtain⟨j,hj⟩:=List.getElem?_of_mem hz;exact hC j z (by have:=(Al.mp hj).1;lia) hj x hx
 ·unfold A5 a3C;have e:U1 (W4 (m2 a32 (c7 5) (m1 z9 (c7 4)))) K9 100 [φ (.int n),φ (.list (G1 ms)),φ (pl p),ξ (.ow (.dct [(kp p,.bool true)])),ξ (.own [pl p]),φ (.int 0),ζ,ζ]=_:=e;simp! [o8,j7,d4,t8,e9,d6,d0,c9,A9,i6,o9,k9,a5W,g7,i8,j9,l9,AF,AI,Ab,Ah,Aa,Af,Ad,AV,AW,AT,Ai,↓reduceIte,sz,Nat.reduceAdd,Am,b3w,J4,W8,e,es]
theorem a40{α:Type}[DecidableEq α]:∀{l m:List α},l.Nodup->(∀x∈l,x∈m)->l.length<=m.length
 |[],_,_,_=>Nat.zero_le _
 |x::l,m,hn,h=>by
  have hx:=h x AZ;have hn':=List.nodup_cons.mp hn;have ih:=a40 (l:=l) (m:=m.erase x) hn'.2 λy hy=>(List.mem_erase_of_ne (λe:y=x=>hn'.1 (e▸hy))).mpr (h y (Ag _ hy));rw [List.length_erase_of_mem hx] at ih;have:0<m.length:=List.length_pos_of_mem hx;rw [AT];lia
theorem c3f{n:Nat}(hn:0<n){x:Tr}(hx:x.1∈t7){p q:Pt}(hp:V8 n p)(hq:V8 n q)(e:st n x p=st n x q):p=q:=by
 have a:=a2q (n:=(n:Int)) (by lia) hx (x.2.1:Nat) (x.2.2:Nat) hp.1 hp.2
 have b:=a2q (n:=(n:Int)) (by lia) hx (x.2.1:Nat) (x.2.2:Nat) hq.1 hq.2
 have e1:lr n x.1 (x.2.1:Nat) (x.2.2:Nat) p.1 p.2=lr n x.1 (x.2.1:Nat) (x.2.2:Nat) q.1 q.2:=congrArg Prod.fst e;have e2:lc n x.1 (x.2.1:Nat) (x.2.2:Nat) p.1 p.2=lc n x.1 (x.2.1:Nat) (x.2.2:Nat) q.1 q.2:=congrArg Prod.snd e;rw [e1,e2] at a;exact Prod.ext (a.1.symm.trans b.1) (a.2.symm.trans b.2)
def itS(n:Nat)(x:Tr):Nat->Pt->Pt
 |0,p=>p
 |k+1,p=>st n x (itS n x k p)
theorem b3l{n:Nat}(hn:0<n)(x:Tr){p:Pt}(hp:V8 n p):∀k,V8 n (itS n x k p)
 |0=>hp
 |_+1=>b2E hn x _
theorem b4y{n:Nat}(hn:0<n){x:Tr}(hx:x.1∈t7){p:Pt}(hp:V8 n p)(m:Nat):∀i,itS n x (i+m) p=itS n x i p->itS n x m p=p
 |0,e=>by rw [Nat.zero_add] at e;exact e
 |i+1,e=>by
  rw [Nat.add_right_comm] at e;exact b4y hn hx hp m i (c3f hn hx (b3l hn x hp _) (b3l hn x hp _) e)
theorem b7P{n:Nat}(hn:0<n){x:Tr}(hx:x.1∈t7){p:Pt}(hp:V8 n p):∃k,itS n x (k+1) p=p:=by
 apply Classical.byContradiction;intro hno;have hnd:((AK (n*n+1)).map λk=>itS n x k p).Nodup:=by
  refine List.Pairwise.map _ (λa b (h:a<b) e=> ?_) List.pairwise_lt_range;have:itS n x (a+(b - a - 1+1)) p=itS n x a p:=by rw [show a+(b - a - 1+1)=b by lia];exact e.symm
  exact hno ⟨_,b4y hn hx hp _ a this⟩
 have:=a40 (m:=pts n) hnd λq hq=>by
  obtain⟨k,_,rfl⟩:=Ae.mp hq;exact Z6 (b3l hn x hp k)
 rw [a3n,AN,Av] at this
 lia
theorem Rch.trans{n:Nat}{ms:List Tr}{p q r:Pt}(h:Rch n ms p q)(g:Rch n ms q r):Rch n ms p r:=λC hC hp=>g C hC (h C hC hp)
theorem Rch.inb{n:Nat}(hn:0<n){ms:List Tr}{p q:Pt}(h:Rch n ms p q)(hp:V8 n p):V8 n q:=h (V8 n) (λ_ _ x _=>b2E hn x _) hp
theorem b81{n:Nat}{ms:List Tr}{x:Tr}(hx:x∈ms)(p:Pt):∀k,Rch n ms (st n x p) (itS n x (k+1) p)
 |0=>Rch.refl _
 |k+1=>(b81 hx p k).step hx
theorem Rch.symm{n:Nat}(hn:0<n){ms:List Tr}(hms:∀x∈ms,x.1∈t7){p q:Pt}(hp:V8 n p)(h:Rch n ms p q):Rch n ms q p:=
 (h (λz=>V8 n z/\Rch n ms z p) (λz hz x hx=>⟨b2E hn x z,by
  obtain⟨k,e⟩:=b7P hn (hms x hx) hz.1;have:=b81 (n:=n) hx z k;rw [e] at this;exact this.trans hz.2⟩) ⟨hp,Rch.refl p⟩).2
structure LN(n:Nat)(ms:List Tr)(m:List (List Pt)):Prop where
 lane:∀L∈m,L.length<=64/\∃p,V8 n p/\∀q,q∈L↔Rch n ms p q
 dis:m.Pairwise λA B=>∀q,q∈A->q∉B
 nd:∀L∈m,L.Nodup
 so:∀L∈m,L.Pairwise ltP
open Classical in
def a6f(n:Nat)(ms:List Tr)(p:Pt):Υ (List Pt):=if h:∃L:List Pt,L.length<=64/\(∀q,q∈L↔Rch n ms p q)/\A5 [.int n,.list (G1 ms),pl p]=ξ (.own (L.map pl))/\L.Nodup/\L.Pairwise ltP then ξ (Classical.choose h) else ζ
theorem a1w{n:Nat}{ms:List Tr}{p:Pt}{L:List Pt}(h:a6f n ms p=ξ L):L.length<=64/\(∀q,q∈L↔Rch n ms p q)/\A5 [.int n,.list (G1 ms),pl p]=ξ (.own (L.map pl))/\L.Nodup/\L.Pairwise ltP:=by
 unfold a6f at h;split at h
 ·rename_i z;have:=Classical.choose_spec z;cases h;exact this
 ·cases h
theorem b6Z{n:Nat}(hn:0<n)(hn8:n<=7){ms:List Tr}(hms:∀x∈ms,x.1∈t7){p:Pt}(hp:V8 n p):∃L,a6f n ms p=ξ L:=by
 have z:=b5j hn hn8 hms hp;unfold a6f;rw [dif_pos z];exact⟨_,rfl⟩
theorem b6O{n:Nat}{ms:List Tr}:Ans n (.list (G1 ms)) (AR "circle_from") (a6f n ms) where
 ex:=⟨A5,List.lookup_cons_self,λp L h=>(a1w h).2.2.1⟩
 len:=λp L h=>by have:=(a1w h).1;lia
theorem b1m{n:Nat}(hn:0<n)(hn8:n<=7){ms:List Tr}(hms:∀x∈ms,x.1∈t7):∀(ps:List Pt) (m:List (List Pt)) (K:List Pt),(∀p∈ps,V8 n p)->LN n ms m->(∀q,q∈K↔∃L∈m,q∈L)->∃m' K',a2c (a6f n ms) ps m K=ξ (m',K')/\LN n ms m'/\(∀q,q∈K'↔∃L∈m',q∈L)/\(∀p∈ps,p∈K')/\(∀q∈K,q∈K')/\m'.length<=m.length+ps.length
 |[],m,K,_,hm,hK=>⟨m,K,rfl,hm,hK,(λp hp=>nomatch hp),λ_ h=>h,AM _⟩
 |p::ps,m,K,hp,hm,hK=>by
  rw [a2c];have hp0:=hp p AZ
  by_cases e:p∈K
  ·rw [if_pos e];obtain⟨m',K',h1,h2,h3,h4,h5,h6⟩:=b1m hn hn8 hms ps m K (λq hq=>hp q (Ag _ hq)) hm hK;refine⟨m',K',h1,h2,h3,λq hq=> ?_,h5,by rw [AT];lia⟩
   rcases AX.mp hq with rfl|hq
   ·exact h5 _ e
   ·exact h4 q hq
  ·rw [if_neg e];obtain⟨L,eL⟩:=b6Z hn hn8 hms hp0;obtain⟨hl,hL,_,hnd,hso⟩:=a1w eL;rw [eL,AF];obtain⟨m',K',h1,h2,h3,h4,h5,h6⟩:=b1m hn hn8 hms ps (m++[L]) (K++L) (λq hq=>hp q (Ag _ hq))
    ⟨λA hA=>by
     rcases At.mp hA with z|z
     ·exact hm.lane A z
     ·have:A=L:=by simpa using z
      rw [this];exact⟨hl,p,hp0,hL⟩,List.pairwise_append.mpr ⟨hm.dis,List.pairwise_singleton _ _,λA hA B hB q hq hqB=>by
     have:B=L:=by simpa using hB
     rw [this] at hqB;obtain⟨_,a,ha,hra⟩:=hm.lane A hA;exact e ((hK p).mpr ⟨A,hA,(hra p).mpr (((hra q).mp hq).trans (Rch.symm hn hms hp0 ((hL q).mp hqB)))⟩)⟩,λA hA=>by
     rcases At.mp hA with z|z
     ·exact hm.nd A z
     ·have:A=L:=by simpa using z
      rw [this];exact hnd,λA hA=>by
     rcases At.mp hA with z|z
     ·exact hm.so A z
     ·have:A=L:=by simpa using z
      rw [this];exact hso⟩
    (λq=>by
     rw [At,hK];constructor
     ·rintro(⟨A,h1,h2⟩|h)
      ·exact⟨A,Ay _ h1,h2⟩
      ·exact⟨L,by simp,h⟩
     ·rintro⟨A,h1,h2⟩;rcases At.mp h1 with z|z
      ·exact .inl ⟨A,z,h2⟩
      ·have:A=L:=by simpa using z
       rw [this] at h2;exact .inr h2)
   rw [Ar,List.length_singleton] at h6;refine⟨m',K',h1,h2,h3,λq hq=> ?_,λq hq=>h5 q (Ay _ hq),by rw [AT];lia⟩
   rcases AX.mp hq with rfl|hq
   ·exact h5 _ (BD _ ((hL _).mpr (Rch.refl _)))
   ·exact h4 q hq
theorem c0M(n:Nat):(pts n).Pairwise ltP:=by
 unfold pts b8w a2u;rw [List.pairwise_flatMap];refine⟨λr _=> ?_, ?_⟩
 ·refine List.pairwise_map.mpr (List.pairwise_map.mpr (List.pairwise_lt_range.imp λ {a b} h=> .inr ⟨rfl, ?_⟩));show(a:Int)<(b:Int)
  lia
 ·refine List.pairwise_map.mpr (List.pairwise_lt_range.imp λ {a b} h p hp q hq=> .inl ?_);obtain⟨c,_,rfl⟩:=Ae.mp hp;obtain⟨d,_,rfl⟩:=Ae.mp hq;show(a:Int)<(b:Int)
  lia
def RL(A B:List Pt):Prop:=∃a∈A,∀b∈B,ltP a b
theorem c3H{A B:List Pt}(h:RL A B):¬RL B A:=λ⟨b,hb,g⟩=>let ⟨a,ha,f⟩:=h;b79 (f b hb) (g a ha)
theorem a8B{n:Nat}(hn:0<n){ms:List Tr}(hms:∀x∈ms,x.1∈t7):∀(ps:List Pt) (m:List (List Pt)) (K:List Pt) (m':List (List Pt)) (K':List Pt),a2c (a6f n ms) ps m K=ξ (m',K')->ps.Pairwise ltP->(∀p∈ps,V8 n p)->(∀q,V8 n q->q∈ps\/q∈K)->(∀q∈K,V8 n q/\∀z,Rch n ms q z->z∈K)->(∀A∈m,∃a∈A,∀p∈ps,ltP a p)->m.Pairwise RL->m'.Pairwise RL
 |[],m,K,m',K',h,_,_,_,_,_,hm=>by cases h;exact hm
 |p::ps,m,K,m',K',h,hs,hb,hc,hK,hf,hm=>by
  obtain⟨hs1,hs2⟩:=List.pairwise_cons.mp hs;have hp0:=hb p AZ;have hb':∀q∈ps,V8 n q:=λq hq=>hb q (Ag _ hq);rw [a2c] at h
  by_cases e:p∈K
  ·rw [if_pos e] at h;refine a8B hn hms ps m K m' K' h hs2 hb' (λq hq=> ?_) hK (λA hA=> ?_) hm
   ·rcases hc q hq with z|z
    ·rcases AX.mp z with rfl|z
     ·exact .inr e
     ·exact .inl z
    ·exact .inr z
   ·obtain⟨a,ha,g⟩:=hf A hA;exact⟨a,ha,λq hq=>g q (Ag _ hq)⟩
  ·rw [if_neg e] at h;cases eL:a6f n ms p with
   |none=>rw [eL] at h;cases h
   |some L=>
    rw [eL,AF] at h;obtain⟨_,hL,_⟩:=a1w eL;have hin:∀b∈L,V8 n b:=λb hb=>((hL b).mp hb).inb hn hp0;refine a8B hn hms ps (m++[L]) (K++L) m' K' h hs2 hb' (λq hq=> ?_) (λq hq=> ?_) (λA hA=> ?_) (List.pairwise_append.mpr ⟨hm,List.pairwise_singleton _ _,λA hA B hB=> ?_⟩)
    ·rcases hc q hq with z|z
     ·rcases AX.mp z with rfl|z
      ·exact .inr (BD _ ((hL _).mpr (Rch.refl _)))
      ·exact .inl z
     ·exact .inr (Ay _ z)
    ·rcases At.mp hq with z|z
     ·exact⟨(hK q z).1,λy hy=>Ay _ ((hK q z).2 y hy)⟩
     ·exact⟨hin q z,λy hy=>BD _ ((hL y).mpr (((hL q).mp z).trans hy))⟩
    ·rcases At.mp hA with z|z
     ·obtain⟨a,ha,g⟩:=hf A z;exact⟨a,ha,λq hq=>g q (Ag _ hq)⟩
     ·have:A=L:=by simpa using z
      rw [this];exact⟨p,(hL p).mpr (Rch.refl p),hs1⟩
    ·have:B=L:=by simpa using hB
     rw [this];obtain⟨a,ha,g⟩:=hf A hA;refine⟨a,ha,λb hb=> ?_⟩;have hap:=g p AZ;rcases hc b (hin b hb) with z|z
     ·rcases AX.mp z with rfl|z
      ·exact hap
      ·exact g b (Ag _ z)
     ·exact absurd ((hK b z).2 p (Rch.symm hn hms hp0 ((hL b).mp hb))) e
theorem b24{n:Nat}(hn:0<n)(hn8:n<=7){ms:List Tr}(hms:∀x∈ms,x.1∈t7):∃m,LN n ms m/\m.Pairwise RL/\(∀q,V8 n q->∃L∈m,q∈L)/\m.length<=n*n/\a3h [.int n,.list (G1 ms)]=ξ (.own (v6 m)):=by
 obtain⟨m,K,h1,h2,h3,h4,_,h6⟩:=b1m hn hn8 hms (pts n) [] [] (λp hp=>b8X hp) ⟨λL h=>(nomatch h),List.Pairwise.nil,λL h=>(nomatch h),λL h=>(nomatch h)⟩ λq=>⟨λh=>(nomatch h),λ⟨_,h,_⟩=>(nomatch h)⟩;have e:=b6f (by lia) (b6O (n:=n) (ms:=ms)) h1
 rw [a3n] at h6;refine⟨m,h2,a8B hn hms (pts n) [] [] m K h1 (c0M n) (λp hp=>b8X hp) (λq hq=> .inl (Z6 hq)) (λq hq=>(nomatch hq)) (λA hA=>(nomatch hA)) List.Pairwise.nil,λq hq=>(h3 q).mp (h4 q (Z6 hq)),by simpa using h6, ?_⟩
 unfold a3h a9l;simp! [j7,d4,e9,d6,d0,c9,i7,k9,a5W,j9,l9,AF,AI,Ab,Aa,An,e]
theorem b6H{a b:Nat}:S [a]=S [b]↔a=b:=⟨λh=>(List.cons.inj (b6I h)).1,λh=>by rw [h]⟩
theorem b2L{i:Nat}{ρ:d5}{p:PV}{x:Str}{D:Γ}(h:ρ[i]?=ξ (ξ (.ow (.txt D))))(hl:D.length<16777216):b2K i ρ p x=ξ (.nx (ρ.set i (ξ (.ow (.txt (G2 D [.inr x] p)))))):=by
 unfold b2K;rw [h];exact if_pos (by rw [sizeLine_eq];exact hl)
theorem b2J{i:Nat}{ρ:d5}{x:Str}{p:PV}{D:Γ}(h:ρ[i]?=ξ (ξ (.ow (.txt D))))(hv:p7 D [.inr x]=ξ p):b2I i ρ x=φ p:=by
 unfold b2I;rw [h];show(p7 D [.inr x]).map g5.v=_;rw [hv];rfl
theorem b8j{i:Nat}{ρ:d5}{D:Γ}(h:ρ[i]?=ξ (ξ (.ow (.txt D)))):c7 i ρ=ξ (.bo (.txt D)):=by
 unfold c7;rw [h]
theorem c3Z{l:List Nat}(hl:l.length<=10000):Y7 (.v (.str (AR ""))) (.own (l.map λx=>row [x]))=φ (row l):=by
 have e:AR ""=S []:=by decide+kernel
 have h1:(l.map λx=>row [x])=(l.map λx=>[x]).map row:=by rw [Au];rfl
 rw [e,h1,a31 (sep:=[]) (rows:=l.map λx=>[x]) rfl (by
  have:((l.map λx=>[x]).map (·.length)).sum=l.length:=a8K l λx=>x;rw [this];simp;lia),a4N,a2E]
def M6(f:Nat->Nat->Nat)(q:Pt):Nat:=f q.1.toNat q.2.toNat
theorem a6n{n:Nat}(hn:0<n)(hn8:n<=8)(f:Nat->Nat->Nat){L:List Pt}(hl:L.length<=64)(hL:∀q∈L,V8 n q):S6 [i9 n f,.list (L.map pl)]=φ (row (L.map (M6 f))):=by
 have c2:=G6 (ι:=pl) (f:=λq=>row [M6 f q]) (k:=1) (elt:=a02) (tg:=g6 2) (it:=Q5 (c7 1)) (ρ:=[φ (i9 n f),φ (.list (L.map pl))]) L (a0M (r:= .v (.list (L.map pl))) rfl rfl) (by lia) λq hq=>⟨_,rfl,by
  obtain⟨a,b,ha,hb,rfl⟩:=b3j (hL q hq);have e:=a7W hn (by lia) f (a:Int) (b:Int)
  rw [Int.emod_eq_of_lt (by lia) (by lia),Int.emod_eq_of_lt (by lia) (by lia)] at e
  unfold a02;simp! [V3,V4,h9,j7,d4,e9,d6,d0,c9,i7,AF,Ah,Aa,Af,Ad,AV,AW,e]
  rfl⟩
 have e2:L.map (λq=>row [M6 f q])=(L.map (M6 f)).map λy=>row [y]:=by rw [Au];rfl
 rw [e2] at c2;unfold S6 a7r;simp! [h9,j7,k9,v8,j9,l9,AF,AI,Ab,Aa,An,AN,c2,c3Z (l:=L.map (M6 f)) (by rw [AN];lia)]
theorem c0U{l:List Nat}(hl:l.length<64):∃U:List Nat,U.Nodup/\U.length<=l.length/\(∀x,x∈U↔x∈l)/\a2G (.v (row l))=ξ (.own (U.map λx=>row [x])):=by
 have sg:E7 (S l)=l.map λx=>S [x]:=by
  unfold E7;rw [a1V];rfl
 have nd:=b2M (a5f (E7 (S l)));have mem:∀z,z∈W7 (E7 (S l))↔∃x∈l,S [x]=z:=λz=>by rw [a53,sg,Ae]
 have len:(W7 (E7 (S l))).length<=l.length:=by
  have:=length_le_of_nodup_of_subset (W7 (E7 (S l))) (l.map λx=>S [x]) nd λz hz=>by
   obtain⟨x,hx,rfl⟩:=(mem z).mp hz;exact Ae.mpr ⟨x,hx,rfl⟩
  rwa [AN] at this
 refine⟨(W7 (E7 (S l))).map λz=>z.cps.toList.headD 0, ?_,by rw [AN];exact len,λx=> ?_, ?_⟩
 ·refine List.pairwise_map.mpr ?_;refine nd.imp_of_mem λ {a b} ha hb hne e=>hne ?_;obtain⟨x,_,rfl⟩:=(mem a).mp ha;obtain⟨y,_,rfl⟩:=(mem b).mp hb;rw [a1V,a1V] at e;have:x=y:=e;rw [this]
 ·rw [Ae];constructor
  ·rintro⟨z,hz,e⟩;obtain⟨y,hy,rfl⟩:=(mem z).mp hz;rw [a1V] at e;have:y=x:=e;rw [<-this];exact hy
  ·intro hx;exact⟨S [x],(mem _).mpr ⟨x,hx,rfl⟩,by rw [a1V];rfl⟩
 ·rw [b3f,if_pos ⟨by rw [a57];lia,by lia⟩,Au]
  congr 2
  refine List.map_congr_left λz hz=> ?_;obtain⟨x,_,rfl⟩:=(mem z).mp hz;show PyData.str (S [x])=row [(S [x]).cps.toList.headD 0];rw [a1V];rfl
def cD(l:List Nat)(U:List Nat):Γ:=U.map λx=>([.inr (S [x])],.int (cnt x l))
theorem a1u(l:List Nat)(x:Nat):∀U:List Nat,p7 (cD l U) [.inr (S [x])]=if x∈U then ξ (.int (cnt x l)) else ζ
 |[]=>rfl
 |a::r=>by
  show p7 (([Sum.inr (S [a])],.int (cnt a l))::cD l r) _=_;rw [L6]
  by_cases c:a=x
  ·subst c;rw [if_pos rfl,if_pos AZ]
  ·rw [if_neg (by intro h;exact c (b6H.mp (Sum.inr.inj (List.cons.inj h).1))),a1u l x r]
   by_cases d:x∈r
   ·rw [if_pos d,if_pos (Ag _ d)]
   ·rw [if_neg d,if_neg (by simp [d];exact λh=>c h.symm)]
theorem b6W{l U:List Nat}{x:Nat}(h:x∉U):G2 (cD l U) [.inr (S [x])] (.int (cnt x l))=cD l (U++[x]):=by
 have e:((cD l U).any λkv=>decide (kv.1=[.inr (S [x])]))=false:=by rw [a6N,a1u,if_neg h];rfl
 unfold G2;rw [e,if_neg (by simp)]
 unfold cD;rw [BF]
 rfl
theorem b63(l:List Nat)(x:Nat):a5x (.v (row l)) (.v (row [x]))=φ (.int (cnt x l)):=by
 show ξ (g5.v (.int (Txt.count (S l) (S [x]))))=_;have:Txt.count (S l) ⟨#[x]⟩=cnt x (S l).cps.toList:=count_is (S l) x;rw [a1V] at this;rw [show S [x]=⟨#[x]⟩ from rfl,this]
theorem b15{c k:Υ g5}{l:List Nat}(hk:k=φ (row l)):∀(V U:List Nat) (q:Υ g5),(U++V).Nodup->U.length+V.length<1000->∃q',x8 v5 (g6 3) (V.map λx=>row [x]) [c,k,ξ (.ow (.txt (cD l U))),q]=ξ (.nx [c,k,ξ (.ow (.txt (cD l (U++V)))),q'])
 |[],U,q,_,_=>⟨q,by rw [An];rfl⟩
 |x::V,U,q,nd,hl=>by
  subst hk;have nx:x∉U:=λh=>by
   rw [List.nodup_append] at nd;exact nd.2.2 x h x AZ rfl
  rw [AT] at hl;obtain⟨q',e⟩:=b15 (c:=c) (k:=φ (row l)) (l:=l) rfl V (U++[x]) (φ (row [x])) (by rw [List.append_assoc];exact nd) (by rw [Ar,List.length_singleton];lia)
  refine⟨q', ?_⟩;have p2:=b2L (i:=2) (ρ:=[c,φ (row l),ξ (.ow (.txt (cD l U))),φ (row [x])]) (p:= .int (cnt x l)) (x:=S [x]) (D:=cD l U) rfl (by unfold cD;rw [AN];lia)
  rw [b6W nx] at p2;have hb:v5 [c,φ (row l),ξ (.ow (.txt (cD l U))),φ (row [x])]=ξ (.nx [c,φ (row l),ξ (.ow (.txt (cD l (U++[x])))),φ (row [x])]):=by
   unfold v5;rw [a9Y];simp! [h9,d4,e9,c9,AF,b63,b0T];exact p2
  rw [AI,x8];show(v5 [c,φ (row l),ξ (.ow (.txt (cD l U))),φ (row [x])]).bind _=_;rw [hb,AF];show x8 v5 _ _ _=_;rw [e,List.append_assoc]
  rfl
theorem c2o{l:List Nat}(hl:l.length<64):∃U:List Nat,U.Nodup/\U.length<=l.length/\(∀x,x∈U↔x∈l)/\J3 [.tuple [row l]]=ξ (.ow (.txt (cD l U))):=by
 obtain⟨U,nd,hU,mU,e⟩:=c0U hl;have e0:AR ""=S []:=by decide+kernel
 have hj:Y7 (.v (.str (AR ""))) (.v (.tuple [row l]))=φ (row l):=by
  rw [e0,a31 (sep:=[]) (rows:=[l]) rfl (by simp;lia),a4N]
  simp
 have hc:Z2 [.tuple [row l]]=ξ (.own (U.map λx=>row [x])):=by
  unfold Z2 a4z;simp! [h9,o8,j7,d4,k9,a5W,j9,l9,AF,AI,Ab,Aa,An,hj,e]
 obtain⟨q',lp⟩:=b15 (c:=φ (.tuple [row l])) (k:=φ (row l)) (l:=l) rfl U [] ζ (by simpa using nd) (by simp;lia)
 rw [Ad,show cD l []=[] from rfl] at lp;refine⟨U,nd,hU,mU, ?_⟩;unfold J3 a0B;simp! [h9,j7,d4,d6,d0,c9,E3,i7,i6,o9,g7,i8,j9,l9,n0,AF,AI,Ab,Ah,Aa,Af,Ad,AV,AW,T2,x9,a1J,a1K,hj,hc,b2d,W8,lp]
theorem b1K{bt:Nat->Nat->Bool}{K:Nat->Int}(h:∀i j,bt i j=decide (K i>K j)):∀m,argBest bt m<=m/\∀j,j<=m->K j<=K (argBest bt m)
 |0=>⟨AM _,λj hj=>by
  have:j=0:=by lia
  subst this;exact Int.le_refl _⟩
 |m+1=>by
  obtain⟨h1,h2⟩:=b1K h m;have hb:=h (m+1) (argBest bt m);simp only [argBest]
  by_cases c:K (m+1)>K (argBest bt m)
  ·rw [hb,decide_eq_true c];simp only [if_true];refine⟨AM _,λj hj=> ?_⟩;rcases Nat.lt_or_ge j (m+1) with hj'|hj'
   ·have:=h2 j (by lia);lia
   ·have:j=m+1:=by lia
    subst this;exact Int.le_refl _
  ·rw [hb,decide_eq_false c];simp only [Aw,if_false];refine⟨by lia,λj hj=> ?_⟩
   rcases Nat.lt_or_ge j (m+1) with hj'|hj'
   ·exact h2 j (by lia)
   ·have:j=m+1:=by lia
    subst this
    lia
theorem a9r{is:List Int}(h0:0<is.length):a14 is∈is/\∀i∈is,i<=a14 is:=by
 obtain⟨h1,h2⟩:=b1K (bt:=λi j=>decide (is.getD i 0>is.getD j 0)) (K:=λi=>is.getD i 0) (λi j=>rfl) (is.length - 1);have hb:argBest (λi j=>decide (is.getD i 0>is.getD j 0)) (is.length - 1)<is.length:=by lia
 constructor
 ·unfold a14;rw [List.getD_eq_getElem?_getD,Ax hb];exact List.getElem_mem hb
 ·intro i hi;obtain⟨j,hj,rfl⟩:=List.getElem_of_mem hi;have:=h2 j (by lia)
  simp only [List.getD_eq_getElem?_getD,Ax hj] at this;unfold a14;rw [List.getD_eq_getElem?_getD]
  simpa using this
theorem b9L(l U:List Nat):b8z (cD l U)=true:=by
 unfold b8z cD;rw [List.all_eq_true];intro e he;obtain⟨x,_,rfl⟩:=Ae.mp he
 rfl
theorem b37(l:List Nat){U:List Nat}:∀V:List Nat,(∀x∈V,x∈U)->((cD l V).mapM λe=>p7 (cD l U) e.1)=ξ (V.map λx=> .int (cnt x l))
 |[],_=>rfl
 |x::V,h=>by
  show((([Sum.inr (S [x])],.int (cnt x l))::cD l V).mapM λe=>p7 (cD l U) e.1)=_;rw [List.mapM_cons,b37 l V λy hy=>h y (Ag _ hy),a1u,if_pos (h x AZ)]
  rfl
theorem a5E:∀is:List Int,a2J (is.map .int)=ξ is
 |[]=>rfl
 |i::is=>by rw [AI,a2J,a5E is];rfl
theorem a9w{l U:List Nat}{M:Int}:∀V:List Nat,(∀x∈V,x∈U)->(((cD l V).filter (qP (cD l U) M)).map λe=>kPV e.1)=(V.filter λx=>decide (cnt x l=M)).map λx=>row [x]
 |[],_=>rfl
 |x::V,h=>by
  have ih:=a9w (l:=l) (U:=U) (M:=M) V λy hy=>h y (Ag _ hy);show(((([Sum.inr (S [x])],PyData.int (cnt x l))::cD l V).filter (qP (cD l U) M)).map λe=>kPV e.1)=_;have hq:qP (cD l U) M ([Sum.inr (S [x])],PyData.int (cnt x l))=decide (cnt x l=M):=by
   unfold qP;simp only [a1u,if_pos (h x AZ)]
  rw [List.filter_cons,List.filter_cons,hq];split
  ·rw [AI,AI,ih];rfl
  ·exact ih
theorem b9K{l U:List Nat}(nd:U.Nodup)(hU:U.length<64)(h0:0<U.length):∃W:List Nat,0<W.length/\W.length<64/\(∀x,x∈W↔x∈U/\∀y∈U,cnt y l<=cnt x l)/\W.Pairwise (· <=·)/\Q0 [tv (cD l U)]=ξ (.own (W.map λx=>row [x])):=by
 have tw:∀q:Υ g5,tvw 0 [φ (tv (cD l U)),q]=ξ (cD l U):=λq=>c3t rfl (b9L l U);have e1:a62 0 [φ (tv (cD l U)),ζ]=ξ (.own ((U.map λx=>cnt x l).map .int)):=by
  unfold a62;rw [tw,AF,if_pos (by rw [sizeLine_eq];unfold cD;rw [AN];lia),b37 l U λx hx=>hx,Au]
  rfl
 obtain⟨b1,b2⟩:=a9r (is:=U.map λx=>cnt x l) (by rw [AN];exact h0)
 have e2:a9K (.own ((U.map λx=>cnt x l).map .int))=φ (.int (a14 (U.map λx=>cnt x l))):=by
  show(a2J _).bind _=_;rw [a5E,AF,if_pos (by rw [AN];exact h0)]
 generalize hM:a14 (U.map λx=>cnt x l)=M at b1 b2 e2;have e3:a61 0 1 [φ (tv (cD l U)),φ (.int M)]=ξ (.own ((U.filter λx=>decide (cnt x l=M)).map λx=>row [x])):=by
  unfold a61;rw [tw,AF];have ha:b9F (cD l U)=true:=by
   unfold b9F;rw [List.all_eq_true];intro e he;obtain⟨x,hx,rfl⟩:=Ae.mp he;simp only [a1u,if_pos hx]
  show(if _ then _ else _)=_
  rw [if_pos ⟨by rw [sizeLine_eq];unfold cD;rw [AN];lia,ha⟩]
  rw [a9w U λx hx=>hx]
 obtain⟨x0,hx0,ex0⟩:=Ae.mp b1;have hf:(U.filter λx=>decide (cnt x l=M)).length<=U.length:=List.length_filter_le _ _;have mf:x0∈U.filter λx=>decide (cnt x l=M):=List.mem_filter.mpr ⟨hx0,decide_eq_true ex0⟩;have mW:∀x,x∈U.filter (λx=>decide (cnt x l=M))↔x∈U/\∀y∈U,cnt y l<=cnt x l:=λx=>by
  rw [List.mem_filter,decide_eq_true_eq];constructor
  ·rintro⟨h1,h2⟩;exact⟨h1,λy hy=>by rw [h2];exact b2 _ (Ae.mpr ⟨y,hy,rfl⟩)⟩
  ·rintro⟨h1,h2⟩;have h3:=h2 x0 hx0;have h4:=b2 _ (Ae.mpr ⟨x,h1,rfl⟩);have ex0':cnt x0 l=M:=ex0;exact⟨h1,by lia⟩
 generalize hW:(U.filter λx=>decide (cnt x l=M))=W at e3 hf mf mW;have e4:b0M (.own (W.map λx=>row [x]))=ξ (.own ((a0v (W.map λx=>S [x])).map .str)):=by
  have:Y3 (W.map λx=>row [x])=ξ (W.map λx=>S [x]):=by
   have:=a4o (W.map λx=>S [x]);rw [Au] at this;exact this
  show(Y3 (W.map λx=>row [x])).bind _=_;rw [this,AF,if_pos (by rw [AN];lia)]
 have pm:=E8 (W.map λx=>S [x]);have ps:=L5 (W.map λx=>S [x]);obtain⟨V,hV,eV⟩:=a8k pm.symm;rw [<-eV] at e4 ps;have ln:=hV.length_eq;refine⟨V,by rw [ln];exact List.length_pos_of_mem mf,by lia,λx=>by rw [hV.mem_iff];exact mW x, ?_, ?_⟩
 ·ext x
 ·rw [Au] at e4;unfold Q0 a2n;simp! [o8,i6,o9,k9,a5W,g7,i8,j9,l9,AF,AI,Ab,Ah,Aa,Af,Ad,AV,AW,e1,e2,e3,e4]
  rfl
theorem b35(z:Nat):∀W:List Nat,((W.map λx=>row [x]).any λq=>η q (row [z]))=decide (z∈W)
 |[]=>rfl
 |x::W=>by
  have:η (row [x]) (row [z])=decide (z=x):=by
   rw [Bool.eq_iff_iff,decide_eq_true_eq];have h1:η (row [x]) (row [z])=true↔S [x]=S [z]:=by simp [η]
   rw [h1,b6H];exact eq_comm
  rw [AI,List.any_cons,b35 z W,this,Bool.eq_iff_iff];simp
theorem b7K(z:Nat)(W:List Nat):a8X false (.v (row [z])) (.bo (.lst (W.map λx=>row [x])))=φ (.bool (decide (z∈W))):=by
 have ok:w4 (W.map λx=>row [x]) 50=true:=a41 λp hp=>by
  obtain⟨z,_,rfl⟩:=Ae.mp hp
  rfl
 show gIn false (.v (row [z])) (.bo (.lst (W.map λx=>row [x])))=_;unfold gIn;show(if n8 (row [z]) 50=true/\w4 (W.map λx=>row [x]) 50=true then _ else ζ)=_
 rw [if_pos ⟨rfl,ok⟩];show ξ (g5.v (.bool (if false=true then !_ else((W.map λx=>row [x]).any λq=>η q (row [z])))))=_
 rw [b35]
 rfl
def Lk(z:Nat)(W:List Nat)(x:Nat):Prop:=x∈W/\(x=z\/z∉W/\∀y∈W,x<=y)
theorem b5i{l U:List Nat}(nd:U.Nodup)(hU:U.length<64)(h0:0<U.length)(z:Nat):∃W:List Nat,(∀x,x∈W↔x∈U/\∀y∈U,cnt y l<=cnt x l)/\∃x,Lk z W x/\z6 [tv (cD l U),row [z]]=φ (row [x]):=by
 obtain⟨W,w0,wl,wm,ws,e⟩:=b9K (l:=l) nd hU h0;refine⟨W,wm, ?_⟩;have ni:=b7K z W
 by_cases c:z∈W
 ·rw [decide_eq_true c] at ni;refine⟨z,⟨c,.inl rfl⟩, ?_⟩;unfold z6 W9;simp! [h9,d4,t8,e9,d6,d0,c9,i7,i6,M0,g7,i8,a5e,l0,V7,j9,l9,k6,n4,AF,AI,Ab,Ah,Aa,Af,Ad,AV,AW,a1J,a1K,e,ni]
 ·rw [decide_eq_false c] at ni;cases W with
  |nil=>simp at w0
  |cons x W=>
   refine⟨x,⟨AZ,.inr ⟨c,λy hy=> ?_⟩⟩, ?_⟩
   ·rcases AX.mp hy with rfl|hy
    ·exact AM _
    ·exact(List.pairwise_cons.mp ws).1 y hy
   ·have ix:v4 (.bo (.lst ((x::W).map λx=>row [x]))) (.v (.int 0))=φ (row [x]):=a0G (p:=row [x]) (by rw [S1 (Int.le_refl 0)];rfl)
    rw [AI] at ni ix e;unfold z6 W9;simp! [h9,j7,d4,t8,e9,d6,d0,c9,i7,i6,M0,k9,v8,g7,i8,l0,G0,m4,j9,l9,k6,n4,AF,AI,Ab,Ah,Aa,Af,Ad,AV,AW,e,ni,ix]
theorem b0w(x:Nat):∀l:List Nat,0<=cnt x l
 |[]=>Int.le_refl _
 |a::r=>by
  have ih:=b0w x r;rw [cnt_cons];split<;>lia
def Cm(f:Nat->Nat->Nat)(L:List Pt)(x:Nat):Prop:=x∈L.map (M6 f)/\∀y,cnt y (L.map (M6 f))<=cnt x (L.map (M6 f))
def a3R(f:Nat->Nat->Nat)(z:Nat)(L:List Pt)(x:Nat):Prop:=Cm f L x/\(x=z\/¬Cm f L z/\∀y,Cm f L y->x<=y)
theorem a3R.uniq{f:Nat->Nat->Nat}{z:Nat}{L:List Pt}{x y:Nat}(h:a3R f z L x)(g:a3R f z L y):x=y:=by
 obtain⟨h1,h2⟩:=h;obtain⟨g1,g2⟩:=g;rcases h2 with h2|⟨h2,h3⟩
 ·rcases g2 with g2|⟨g2,g3⟩
  ·rw [h2,g2]
  ·exact absurd (h2▸h1) g2
 ·rcases g2 with g2|⟨g2,g3⟩
  ·exact absurd (g2▸g1) h2
  ·exact Nat.le_antisymm (h3 y g1) (g3 x h1)
theorem Lk.bst{f:Nat->Nat->Nat}{z:Nat}{L:List Pt}{W:List Nat}(hW:∀x,x∈W↔Cm f L x){x:Nat}(h:Lk z W x):a3R f z L x:=
 ⟨(hW x).mp h.1,h.2.imp id λ⟨a,b⟩=>⟨λc=>a ((hW z).mpr c),λy hy=>b y ((hW y).mpr hy)⟩⟩
theorem b8l{n:Nat}(hn:0<n)(hn8:n<=8)(f:Nat->Nat->Nat)(z:Nat){L:List Pt}(hl:L.length<64)(h0:0<L.length)(hL:∀q∈L,V8 n q):∃x,a3R f z L x/\
 F9 [i9 n f,.list (L.map pl),row [z]]=φ (.tuple [.list (L.map pl),row [x],.int (cnt x (L.map (M6 f)))]):=by
 have ka:=a6n hn hn8 f (by lia) hL
 obtain⟨U,nd,hU,mU,ek⟩:=c2o (l:=L.map (M6 f)) (by rw [AN];exact hl)
 rw [AN] at hU
 have hp:0<U.length:=by
  cases L with
  |nil=>simp at h0
  |cons a r=>exact List.length_pos_of_mem ((mU (M6 f a)).mpr (Ae.mpr ⟨a,AZ,rfl⟩))
 obtain⟨W,mW,x,hx,ec⟩:=b5i (l:=L.map (M6 f)) nd (by lia) hp z
 have hxU:=((mW x).mp hx.1).1
 refine⟨x,Lk.bst (λy=> ?_) hx, ?_⟩
 ·rw [mW y,mU y]
  refine and_congr_right λ_=>⟨λh w=> ?_,λh w _=>h w⟩
  by_cases hw:w∈U
  ·exact h w hw
  ·rw [cnt_none w _ λh=>hw ((mU w).mpr h)]
   exact b0w _ _
 ·have tf:a60 z6 3 (c7 2) [φ (i9 n f),φ (.list (L.map pl)),φ (row [z]),ξ (.ow (.txt (cD (L.map (M6 f)) U))),ζ]=φ (row [x]):=by
   unfold a60;show(z6 [tv (cD (L.map (M6 f)) U),row [z]]).bind _=_;rw [ec]
   rfl
  have tg:a74 3 (c7 4) [φ (i9 n f),φ (.list (L.map pl)),φ (row [z]),ξ (.ow (.txt (cD (L.map (M6 f)) U))),φ (row [x])]=φ (.int (cnt x (L.map (M6 f)))):=by
   rw [a9X];simp! [d4,e9,AF,b0T];rw [b2J (D:=cD (L.map (M6 f)) U) (p:= .int (cnt x (L.map (M6 f)))) rfl (by rw [a1u,if_pos hxU])]
  unfold F9 a12;simp! [d4,e9,d6,d0,c9,z0,i7,i6,o9,k9,v8,g7,i8,j9,l9,AF,AI,Ab,Ah,Aa,Af,Ad,AV,AW,AT,Ai,↓reduceIte,sz,Nat.reduceAdd,Am,ka,ek,W8,tf,tg]
theorem b7V{p q:Pt}(e:kp p=kp q):p=q:=by
 injection e with e1 e2
 injection e2 with e2 _
 exact Prod.ext (Sum.inl.inj e1) (Sum.inl.inj e2)
theorem a47(n:Nat):J9 0 (n:Int)=(AK n).map λ(c:Nat)=>PyData.int (c:Int):=by
 unfold J9;simp
theorem c0T{n:Nat}(hn8:n<=8){D:Γ}{col:Pt->Nat}{r:Nat}(h:∀c:Nat,c<n->p7 D (kp ((r:Int),(c:Int)))=ξ (row [col ((r:Int),(c:Int))])):Q1 [.int n,dv D,.int (r:Int)]=φ (row ((AK n).map λ(c:Nat)=>col ((r:Int),(c:Int)))):=by
 have e:C4 1 (u9 (b9 (c7 0) d9)) (g6 3) L8 J5 [φ (.int n),φ (dv D),φ (.int (r:Int))]=ξ (.own ((AK n).map λ(c:Nat)=>row [col ((r:Int),(c:Int))])):=by
  have:=L3 (k:=1) (it:=u9 (b9 (c7 0) d9)) (c:=L8) (elt:=J5) (tg:=g6 3) (ρ:=[φ (.int n),φ (dv D),φ (.int (r:Int))]) (ι:=λ(c:Nat)=>PyData.int (c:Int)) (f:=λ(c:Nat)=>row [col ((r:Int),(c:Int))]) (q:=λ_=>true) (AK n) (by simp! [d4,d6,d0,c9,r9,y3,AF];exact congrArg ξ (a47 n)) (by rw [Av];lia)
   (λc hc=>⟨[φ (.int n),φ (dv D),φ (.int (r:Int)),φ (.int (c:Int))],rfl,rfl,λ_=>by
    have hd:dvw 1 [φ (.int n),φ (dv D),φ (.int (r:Int)),φ (.int (c:Int))]=ξ D:=c1Z rfl;have hv:=h c (List.mem_range.mp hc);unfold J5 b3u;simp! [d4,e9,d6,d0,c9,AF,BB,AT,Ai,↓reduceIte,sz,Nat.reduceAdd,Am,b7U,hd,hv]⟩)
  rw [List.filter_eq_self.mpr (λ_ _=>rfl)] at this;exact this
 have hj:=a1F (k:=n) (by lia) λc=>col ((r:Int),(c:Int))
 unfold Q1 a2o;simp! [h9,j7,k9,j9,AF,AI,Ab,Aa,An,e];rw [show(AR "")=S [] from rfl,hj]
 rfl
theorem b1Q{n:Nat}(hn8:n<=8){D:Γ}{col:Pt->Nat}(h:∀q,V8 n q->p7 D (kp q)=ξ (row [col q])):S5 [.int n,dv D]=φ (i9 n λr c=>col ((r:Int),(c:Int))):=by
 have e:C4 1 (u9 (b9 (c7 0) d9)) (g6 2) L8 U7 [φ (.int n),φ (dv D)]=ξ (.own ((AK n).map λ(r:Nat)=>row ((AK n).map λ(c:Nat)=>col ((r:Int),(c:Int))))):=by
  have:=L3 (k:=1) (it:=u9 (b9 (c7 0) d9)) (c:=L8) (elt:=U7) (tg:=g6 2) (ρ:=[φ (.int n),φ (dv D)]) (ι:=λ(c:Nat)=>PyData.int (c:Int)) (f:=λ(r:Nat)=>row ((AK n).map λ(c:Nat)=>col ((r:Int),(c:Int)))) (q:=λ_=>true) (AK n) (by simp! [d4,d6,d0,c9,r9,y3,AF];exact congrArg ξ (a47 n)) (by rw [Av];lia)
   (λr hr=>⟨[φ (.int n),φ (dv D),φ (.int (r:Int))],rfl,rfl,λ_=>by
    have hr:=List.mem_range.mp hr;have hc:=c0T hn8 (D:=D) (col:=col) (r:=r) λc hc=>h _ ⟨⟨by show(0:Int)<=r;lia,by show(r:Int)<n;lia⟩,by show(0:Int)<=c;lia,by show(c:Int)<n;lia⟩
    unfold U7;simp! [d4,e9,d6,d0,c9,i7,AF,hc]⟩)
  rw [List.filter_eq_self.mpr (λ_ _=>rfl)] at this;exact this
 unfold S5 a7q;simp! [o8,k9,v8,j9,l9,AF,AI,Ab,Aa,An,a1G,e];unfold i9 a6g;rw [Au]
 rfl
theorem b4I:∀ls:List (List Nat),ndL (ls.map row)=true
 |[]=>rfl
 |l::ls=>by
  rw [AI,ndL,b4I ls]
  rfl
theorem c0w(n:Nat)(f:Nat->Nat->Nat):(g5.v (i9 n f)).noD=true:=by
 show nd (.tuple _)=true;rw [nd,b4I]
abbrev Rec:=List Pt×Nat×Int
def mr(t:Rec):PV:= .tuple [.list (t.1.map pl),row [t.2.1],.int t.2.2]
theorem a9C{q0 q1:Υ g5}{t:Rec}:∀(L:List Pt) (D:Γ) (q4:Υ g5),D.length+L.length<=1000000->∃D' q4',(∀q,p7 D' (kp q)=if q∈L then ξ (row [t.2.1]) else p7 D (kp q))/\D'.length<=D.length+L.length/\
 x8 y8 (g6 4) (L.map pl) [q0,q1,ξ (.ow (.dct D)),φ (mr t),q4]=ξ (.nx [q0,q1,ξ (.ow (.dct D')),φ (mr t),q4'])
 |[],D,q4,_=>⟨D,q4,λq=>by simp,AM _,rfl⟩
 |p::L,D,q4,hl=>by
  have hp:=W6 D (kp p) (row [t.2.1]);rw [AT] at hl;obtain⟨D',q4',h1,h2,h3⟩:=a9C (q0:=q0) (q1:=q1) (t:=t) L (G2 D (kp p) (row [t.2.1])) (φ (pl p)) (by lia)
  refine⟨D',q4',λq=> ?_,by rw [AT];lia, ?_⟩
  ·rw [h1 q,a1p]
   by_cases e:q∈L
   ·rw [if_pos e,if_pos (Ag _ e)]
   ·rw [if_neg e]
    by_cases e2:p=q
    ·rw [if_pos (by rw [e2]),if_pos (by rw [e2];exact AZ)]
    ·rw [if_neg (λz=>e2 (b7V z)),if_neg (λz=>by
      rcases AX.mp z with z|z
      ·exact e2 z.symm
      ·exact e z)]
  ·have ix:v4 (.v (mr t)) (.v (.int 1))=φ (row [t.2.1]):=rfl;have hb:y8 [q0,q1,ξ (.ow (.dct D)),φ (mr t),φ (pl p)]=ξ (.nx [q0,q1,ξ (.ow (.dct (G2 D (kp p) (row [t.2.1])))),φ (mr t),φ (pl p)]):=by
    unfold y8;simp! [h9,j7,d4,e9,c9,AF,E5,J4,ix];rw [P6 rfl (by lia)]
    rfl
   rw [AI,x8];show(y8 [q0,q1,ξ (.ow (.dct D)),φ (mr t),φ (pl p)]).bind _=_;rw [hb,AF];exact h3
theorem a8j{q0 q1:Υ g5}{col:Pt->Nat}:∀(T:List Rec) (D:Γ) (q3 q4:Υ g5),(∀t∈T,∀q∈t.1,col q=t.2.1)->(∀t∈T,t.1.length<=64)->D.length+64*T.length<=100000->∃D' q3' q4',(∀q,(∃t∈T,q∈t.1)\/p7 D (kp q)=ξ (row [col q])->p7 D' (kp q)=ξ (row [col q]))/\
 x8 y9 (g6 3) (T.map mr) [q0,q1,ξ (.ow (.dct D)),q3,q4]=ξ (.nx [q0,q1,ξ (.ow (.dct D')),q3',q4'])
 |[],D,q3,q4,_,_,_=>⟨D,q3,q4,λq h=>h.elim (λ⟨t,ht,_⟩=>nomatch ht) id,rfl⟩
 |t::T,D,q3,q4,hc,hs,hl=>by
  have hs1:=hs t AZ;rw [AT] at hl;obtain⟨D1,q41,a1,a2,a3⟩:=a9C (q0:=q0) (q1:=q1) (t:=t) t.1 D q4 (by lia)
  obtain⟨D',q3',q4',b1,b2⟩:=a8j (q0:=q0) (q1:=q1) (col:=col) T D1 (φ (mr t)) q41 (λt' ht'=>hc t' (Ag _ ht')) (λt' ht'=>hs t' (Ag _ ht')) (by lia)
  refine⟨D',q3',q4',λq h=>b1 q ?_, ?_⟩
  ·by_cases hq:q∈t.1
   ·right
    rw [a1 q,if_pos hq,hc t AZ q hq]
   ·rcases h with⟨t',ht',h⟩|h
    ·rcases AX.mp ht' with rfl|ht'
     ·exact absurd h hq
     ·exact .inl ⟨t',ht',h⟩
    ·right
     rw [a1 q,if_neg hq];exact h
  ·have ix:v4 (.v (mr t)) (.v (.int 0))=φ (.list (t.1.map pl)):=rfl;have hit:PyData.items? (.list (t.1.map pl))=ξ (t.1.map pl):=rfl;have hb:y9 [q0,q1,ξ (.ow (.dct D)),φ (mr t),q4]=ξ (.nx [q0,q1,ξ (.ow (.dct D1)),φ (mr t),q41]):=by
    unfold y9;simp! [h9,j7,d4,e9,c9,n0,AF,x9,ix,hit,a3]
   rw [AI,x8];show(y9 [q0,q1,ξ (.ow (.dct D)),φ (mr t),q4]).bind _=_;rw [hb,AF];exact b2
theorem b8E{n:Nat}(hn8:n<=8){col:Pt->Nat}{T:List Rec}(hc:∀t∈T,∀q∈t.1,col q=t.2.1)(hs:∀t∈T,t.1.length<=64)(hT:T.length<=64)(all:∀q,V8 n q->∃t∈T,q∈t.1):
 I0 [.int n,.list (T.map mr)]=φ (i9 n λr c=>col ((r:Int),(c:Int))):=by
 obtain⟨D',q3,q4,h1,h2⟩:=a8j (q0:=φ (.int n)) (q1:=φ (.list (T.map mr))) (col:=col) T [] ζ ζ hc hs (by simp;lia)
 have hcol:=b1Q (n:=n) hn8 (D:=D') (col:=col) λq hq=>h1 q (.inl (all q hq))
 have hcd:a6Z S5 2 (c7 0) [φ (.int n),φ (.list (T.map mr)),ξ (.ow (.dct D')),q3,q4]=φ (i9 n λr c=>col ((r:Int),(c:Int))):=by
  unfold a6Z;show(S5 [.int n,dv D']).bind _=_;rw [hcol];show(if _ then _ else _)=_
  rw [if_pos (c0w _ _)]
 unfold I0 a0A
 simp! [d4,e9,c9,i6,k9,v8,g7,i8,j9,l9,n0,AF,AI,Ab,Ah,Aa,Af,Ad,AV,AW,T2,x9,a0a,W8,h2,hcd]
def uf(n:Nat)(f g:Nat->Nat->Nat)(k:Nat):Υ PV:=if f (k / n) (k % n)=g (k / n) (k % n) then ζ else ξ (.tuple [.int ((k / n:Nat):Int),.int ((k % n:Nat):Int)])
def Uk(n:Nat)(f g:Nat->Nat->Nat)(k:Nat):List PV:=(AK k).filterMap (uf n f g)
theorem b9E(n:Nat)(f g:Nat->Nat->Nat)(k:Nat):Uk n f g (k+1)=Uk n f g k++(uf n f g k).toList:=by
 unfold Uk;rw [List.range_succ,List.filterMap_append]
 congr 1
theorem c1G(n:Nat)(f g:Nat->Nat->Nat)(k:Nat):(Uk n f g k).length<=k:=by
 have:=List.length_filterMap_le (uf n f g) (AK k);rw [Av] at this;exact this
theorem c1H{n:Nat}{f g:Nat->Nat->Nat}{k:Nat}{p:PV}(h:p∈Uk n f g k):∃a b:Nat,p= .tuple [.int (a:Int),.int (b:Int)]:=by
 obtain⟨j,_,e⟩:=List.mem_filterMap.mp h;unfold uf at e;split at e
 ·cases e
 ·cases e;exact⟨_,_,rfl⟩
theorem b1J(a b:Nat):([a]==[b])=decide (a=b):=by
 rw [Bool.eq_iff_iff,beq_iff_eq,decide_eq_true_eq];simp
theorem b6R{n:Nat}{f g:Nat->Nat->Nat}{k r c:Nat}(hr:k / n=r)(hc:k % n=c)(hk:k<100){ma mb:M}{i:Nat}{mp:M}{ρ:d5}(h1:ma ρ=φ (row [f r c]))(h2:mb ρ=φ (row [g r c]))(h3:ρ[i]?=ξ (ξ (.own (Uk n f g k))))(h4:mp ρ=φ (.tuple [.int (r:Int),.int (c:Int)])):
 ∃ρ2:d5,L4 (W4 (m2 gNe ma mb)) (J6 i mp) x4 ρ=ξ (.nx ρ2)/\ρ2=ρ.set i (ξ (.own (Uk n f g (k+1)))):=by
 have hl:=c1G n f g k
 rw [l0,k6,h9,h1,AF,h2,AF,a6T,b1J,AF]
 rw [b9E]
 unfold uf
 rw [hr,hc]
 by_cases e:f r c=g r c
 ·refine⟨ρ, ?_, ?_⟩
  ·rw [decide_eq_true e];rfl
  ·rw [if_pos e]
   show ρ=ρ.set i (ξ (.own (Uk n f g k++[])))
   rw [An]
   obtain⟨hi,e2⟩:=Al.mp h3
   rw [<-e2,List.set_getElem_self]
 ·refine⟨_, ?_,rfl⟩
  rw [decide_eq_false e,if_neg e]
  show J6 i mp ρ=_
  rw [B7 h4 rfl h3 (by lia)]
  rfl
theorem b69{n r c:Nat}(hc:c<n):(r*n+c)/ n=r/\(r*n+c) % n=c:=by
 have hn:0<n:=by lia
 constructor
 ·rw [Nat.add_comm,Nat.add_mul_div_right _ _ hn,Nat.div_eq_of_lt hc,Nat.zero_add]
 ·rw [Nat.add_comm,Nat.add_mul_mod_self_right,Nat.mod_eq_of_lt hc]
theorem c34{n r c:Nat}(hn8:n<=8)(hr:r<n)(hc:c<n):r*n+c<100:=by
 have:r*n<=7*8:=Nat.mul_le_mul (by lia) (by lia)
 lia
theorem size_eq{n:Nat}(hn:0<n)(hn8:n<=8)(f:Nat->Nat->Nat):a1g [i9 n f]=φ (.tuple [.int n,.int n]):=by
 unfold a1g a9q;have e:z9 (.v (row ((AK n).map λc=>f 0 c)))=φ (.int n):=by
  show(if(S ((AK n).map λc=>f 0 c)).length<=AQ then ξ (g5.v (.int (S ((AK n).map λc=>f 0 c)).length)) else ζ)=_
  rw [if_pos (by rw [a57,sizeLine_eq];simp;lia),a57]
  simp
 simp! [h9,o8,j7,d4,d6,d0,c9,z0,k9,v8,j9,l9,AF,AI,Ab,Aa,An,AT,Ai,↓reduceIte,sz,Nat.reduceAdd,Am,Int.reduceToNat,E9,a0C (n:=n) (f:=f) (i:=0) (by lia) (by lia),e]
theorem b6y{n:Nat}(hn:0<n)(hn8:n<=8)(f g:Nat->Nat->Nat):a4M [i9 n f,i9 n g]=ξ (.own (Uk n f g (n*n))):=by
 have inner:∀(r:Nat),r<n->∀(q5 q6:Υ g5),∃q5' q6':Υ g5,x8 a2L (R7 [5,6]) (B4 (((AK n).map λc=>f r c).map λc=> .str (S [c]))) [φ (i9 n f),φ (i9 n g),ξ (.own (Uk n f g (r*n))),φ (.int (r:Int)),φ (row ((AK n).map λc=>f r c)),q5,q6]
  =ξ (.nx [φ (i9 n f),φ (i9 n g),ξ (.own (Uk n f g (r*n+n))),φ (.int (r:Int)),φ (row ((AK n).map λc=>f r c)),q5',q6']):=λr hr q5 q6=>by
  obtain⟨ρ,e,a,b,rfl⟩:=z5 (body:=a2L) (tg:=R7 [5,6]) (λj ρ=>∃q5 q6:Υ g5,ρ=[φ (i9 n f),φ (i9 n g),ξ (.own (Uk n f g (r*n+j))),φ (.int (r:Int)),φ (row ((AK n).map λc=>f r c)),q5,q6])
   (ps:=B4 (((AK n).map λc=>f r c).map λc=> .str (S [c]))) (ρ:=[φ (i9 n f),φ (i9 n g),ξ (.own (Uk n f g (r*n))),φ (.int (r:Int)),φ (row ((AK n).map λc=>f r c)),q5,q6])
   (by
    rintro j p hp ρ ⟨q5,q6,rfl⟩;rw [a3e,Ak,Ak] at hp;have hj:j<n:=by
     cases h:(AK n)[j]? with
     |none=>rw [h] at hp;cases hp
     |some z=>have:=(Al.mp h).1;simpa using this
    rw [List.getElem?_range hj] at hp;cases hp;obtain⟨d1,d2⟩:=b69 (n:=n) (r:=r) hj;obtain⟨ρ2,e,rfl⟩:=b6R (f:=f) (g:=g) d1 d2 (c34 hn8 hr hj) (ma:=c7 6) (mb:=m2 v4 (m2 v4 (c7 1) (c7 3)) (c7 5)) (i:=2) (mp:=T6 (b9 (c7 3) (b9 (c7 5) d9)))
     (ρ:=[φ (i9 n f),φ (i9 n g),ξ (.own (Uk n f g (r*n+j))),φ (.int (r:Int)),φ (row ((AK n).map λc=>f r c)),φ (.int (j:Int)),φ (row [f r j])]) rfl
     (by simp! [h9,d4,e9,AF,a0C (n:=n) (f:=g) (i:=((r:Nat):Int)) (by lia) (by lia),a4h (n:=n) (g:=λc=>g r c) (j:=((j:Nat):Int)) (by lia) (by lia) (by lia),tn]) rfl (by simp! [d4,e9,d6,d0,c9,z0,AF,AT,Ai,↓reduceIte,sz,Nat.reduceAdd,Am])
    exact⟨_,_,rfl,.inl e,φ (.int (j:Int)),φ (row [f r j]),rfl⟩) ⟨q5,q6,rfl⟩
  rw [a3f,AN,AN,Av] at e
  exact⟨a,b,e⟩
 obtain⟨ρ,e,a3,a4,a5,a6,rfl⟩:=z5 (body:=a2M) (tg:=R7 [3,4]) (λi ρ=>∃q3 q4 q5 q6:Υ g5,ρ=[φ (i9 n f),φ (i9 n g),ξ (.own (Uk n f g (i*n))),q3,q4,q5,q6])
  (ps:=B4 (((AK n).map λr=>(AK n).map λc=>f r c).map row)) (ρ:=[φ (i9 n f),φ (i9 n g),ξ (.own []),ζ,ζ,ζ,ζ])
  (by
   rintro i p hp ρ ⟨q3,q4,q5,q6,rfl⟩;rw [a3e,Ak,Ak] at hp;have hi:i<n:=by
    cases h:(AK n)[i]? with
    |none=>rw [h] at hp;cases hp
    |some z=>have:=(Al.mp h).1;simpa using this
   rw [List.getElem?_range hi] at hp;cases hp;obtain⟨b5,b6,e⟩:=inner i hi q5 q6;have em:a6p (b9 (c7 4) d9) [φ (i9 n f),φ (i9 n g),ξ (.own (Uk n f g (i*n))),φ (.int (i:Int)),φ (row ((AK n).map λc=>f i c)),q5,q6]=ξ (B4 (((AK n).map λc=>f i c).map λc=> .str (S [c]))):=rfl;refine⟨[φ (i9 n f),φ (i9 n g),ξ (.own (Uk n f g (i*n))),φ (.int (i:Int)),φ (row ((AK n).map λc=>f i c)),q5,q6],_,rfl,.inl ?_,φ (.int (i:Int)),φ (row ((AK n).map λc=>f i c)),b5,b6,rfl⟩;unfold a2M;simp! [n0,AF,em,e];rw [Nat.add_mul,Nat.one_mul]) ⟨ζ,ζ,ζ,ζ,by rw [Nat.zero_mul];rfl⟩
 rw [a3f,AN,AN,Av] at e;have em:a6p (b9 (c7 0) d9) [φ (i9 n f),φ (i9 n g),ξ (.own []),ζ,ζ,ζ,ζ]=ξ (B4 (((AK n).map λr=>(AK n).map λc=>f r c).map row)):=rfl;unfold a4M b1I;have hne:gNe (.v (.tuple [.int n,.int n])) (.v (.tuple [.int n,.int n]))=φ (.bool false):=V5 (by rfl)
 simp! [h9,d4,e9,d6,d0,c9,A9,i7,i6,M0,g7,i8,l0,G0,m4,j9,l9,k6,n4,n0,AF,AI,Ab,Ah,Aa,Af,Ad,AV,AW,Ai,↓reduceIte,a1J,a1K,sz,Am,size_eq hn hn8,hne,em,e]
def b9z(n:MX):FX->Υ FX
 | .fl (.nx ρ)=>n ρ
 |f=>ξ f
def c3F(m n:MX)(ρ:d5)(b:Bool):Υ FX:=if b=true then m ρ else n ρ
def b2x:FX->Υ (g5 ⊕ XT)
 | .fl (.rt r)=>ξ (.inl r)
 | .fl (.nx _)=>ξ (.inl (.v .none))
 | .rz c _=>ξ (.inr c)
 |_=>ζ
theorem a5L(m n:MX)(ρ:d5):b4H m n ρ=(m ρ).bind (b9z n):=ω
theorem a8P(n:MX)(ρ:d5):b9z n (.fl (.nx ρ))=n ρ:=ω
theorem b9A(n:MX)(c:XT)(ρ:d5):b9z n (.rz c ρ)=ξ (.rz c ρ):=ω
theorem a2T(c:MT)(m n:MX)(ρ:d5):b8p c m n ρ=(c ρ).bind (c3F m n ρ):=ω
theorem b9x(m n:MX)(ρ:d5):c3F m n ρ true=m ρ:=ω
theorem b3Y(m n:MX)(ρ:d5):c3F m n ρ false=n ρ:=ω
theorem a4V(m:MS)(ρ:d5):b04 m ρ=(m ρ).map .fl:=ω
theorem b8r(c:Str)(p:PV)(ρ:d5):c0v c (b9 (mC p) d9) ρ=ξ (.rz ⟨c,[]⟩ ρ):=by
 unfold c0v;simp! [j7,d6,d0,c9,AF,AT,Ai,↓reduceIte,sz,Nat.reduceAdd,Am]
theorem a48(n:Nat)(b:MX)(ps:List PV):b84 n b ps=(b (ps.map (λp=>ξ (g5.v p))++Aq n ζ)).bind b2x:=ω
theorem b85(r:g5):b2x (.fl (.rt r))=ξ (.inl r):=ω
theorem b86(c:XT)(ρ:d5):b2x (.rz c ρ)=ξ (.inr c):=ω
theorem b03{g:List PV->Υ (g5 ⊕ XT)}{m:MA}{ρ:d5}{ps:List PV}{c:XT}(h1:m ρ=ξ ps)(h2:g ps=ξ (.inr c)):a3L g m ρ=ξ (.rz c ρ):=by
 unfold a3L b38;rw [h1,AF,h2]
 rfl
theorem a9Z{b:MX}{i:Nat}{inm:Str->Bool}{hd:MS}{ρ ρ':d5}{c:XT}(h:b ρ=ξ (.rz c ρ'))(hc:inm c.cls=true):a36 b i inm hd ρ=(hd (ρ'.set i (φ (xcV c)))).map (b0I i):=by
 unfold a36;rw [h,AF];exact if_pos hc
theorem c0u{g:List PV->Υ (g5 ⊕ XT)}{m:MA}{ρ:d5}{ps:List PV}{r:g5}(h1:m ρ=ξ ps)(h2:g ps=ξ (.inl r)):a3L g m ρ=ξ (.fl (.nx ρ)):=by
 unfold a3L b38;rw [h1,AF,h2]
 rfl
def fb(p:Tr->Bool):List Tr->Nat->Υ Nat
 |[],_=>ζ
 |x::xs,k=>if p x=true then fb p xs (k+1) else ξ k
abbrev lvs(n:Nat)(g:Nat->Nat->Nat)(x:Tr):Bool:=(uaR n g x.1 (x.2.1:Nat) (x.2.2:Nat)).isNone
abbrev nwX(k:Nat):XT:=⟨"NoWish",[(.str "place",.int (k:Int))]⟩
abbrev cwB:MX:=b8p (W5 (mtV (m9 a2H (b9 (c7 0) (b9 (c7 3) d9))))) (b8q "NoWish" ["place"] (b9 (c7 2) d9)) (b04 x4)
def enF(k:Nat)(ps:List PV):List PV:=(ps.zipIdx k).map λq=> .tuple [.int ((q.2:Nat):Int),q.1]
theorem a7v{n:Nat}(hn:0<n)(hn8:n<=100)(g:Nat->Nat->Nat){q1:Υ g5}:∀(xs:List Tr) (k:Nat) (q2 q3:Υ g5),(∀x∈xs,x.1∈t7)->
 (fb (lvs n g) xs k=ζ/\∃ρ,a2F cwB (R7 [2,3]) (enF k (G1 xs)) [φ (i9 n g),q1,q2,q3]=ξ (.fl (.nx ρ)))\/(∃j ρ,fb (lvs n g) xs k=ξ j/\a2F cwB (R7 [2,3]) (enF k (G1 xs)) [φ (i9 n g),q1,q2,q3]=ξ (.rz (nwX j) ρ))
 |[],k,q2,q3,_=> .inl ⟨rfl,_,rfl⟩
 |x::xs,k,q2,q3,h=>by
  have ih:=a7v hn hn8 g (q1:=q1) xs (k+1) (φ (.int (k:Int))) (φ (T3 x.1 (x.2.1:Nat) (x.2.2:Nat))) λy hy=>h y (Ag _ hy);have hl:=b5V hn hn8 g (h x AZ) (x.2.1:Nat) (x.2.2:Nat);have hs:a2F cwB (R7 [2,3]) (enF k (G1 (x::xs))) [φ (i9 n g),q1,q2,q3]=(cwB [φ (i9 n g),q1,φ (.int (k:Int)),φ (T3 x.1 (x.2.1:Nat) (x.2.2:Nat))]).bind λfx=>match fx with
   | .fl (.nx ρ')=>a2F cwB (R7 [2,3]) (enF (k+1) (G1 xs)) ρ'
   | .fl (.ct ρ')=>a2F cwB (R7 [2,3]) (enF (k+1) (G1 xs)) ρ'
   | .fl (.bk ρ')=>ξ (.fl (.nx ρ'))
   | .fl (.rt r)=>ξ (.fl (.rt r))
   | .rz c ρ'=>ξ (.rz c ρ'):=rfl
  by_cases c:lvs n g x=true
  ·have hb:cwB [φ (i9 n g),q1,φ (.int (k:Int)),φ (T3 x.1 (x.2.1:Nat) (x.2.2:Nat))]=ξ (.fl (.nx [φ (i9 n g),q1,φ (.int (k:Int)),φ (T3 x.1 (x.2.1:Nat) (x.2.2:Nat))])):=by
    have c':(uaR n g x.1 (x.2.1:Nat) (x.2.2:Nat)).isNone=true:=c;rw [c'] at hl;simp! [d4,e9,d6,d0,c9,i7,m4,Q6,a29,D8,AF,BB,Bool.not_true,a2T,hl,b3Y,a4V]
   rw [hs,hb,AF];show(fb (lvs n g) (x::xs) k=ζ/\_)\/_;rw [fb,if_pos c];exact ih
  ·right
   have hb:cwB [φ (i9 n g),q1,φ (.int (k:Int)),φ (T3 x.1 (x.2.1:Nat) (x.2.2:Nat))]=ξ (.rz (nwX k) [φ (i9 n g),q1,φ (.int (k:Int)),φ (T3 x.1 (x.2.1:Nat) (x.2.2:Nat))]):=by
    have c':(uaR n g x.1 (x.2.1:Nat) (x.2.2:Nat)).isNone=false:=Bool.not_eq_true _|>.mp c
    rw [c'] at hl;simp! [d4,e9,d6,d0,c9,i7,Q6,a29,D8,AF,BB,Bool.not_false,a2T,hl,b9x]
    rfl
   exact⟨k,_,by rw [fb,if_neg c],by rw [hs,hb,AF]⟩
theorem b6Y{n:Nat}(hn:0<n)(hn8:n<=100)(g:Nat->Nat->Nat){ms:List Tr}(hms:∀x∈ms,x.1∈t7):
 (fb (lvs n g) ms 0=ζ/\∃r,B6 [i9 n g,.list (G1 ms)]=ξ (.inl r))\/(∃j,fb (lvs n g) ms 0=ξ j/\B6 [i9 n g,.list (G1 ms)]=ξ (.inr (nwX j))):=by
 have em:a6p (b9 (c7 1) d9) [φ (i9 n g),φ (.list (G1 ms)),ζ,ζ]=ξ (enF 0 (G1 ms)):=rfl
 have e:B6 [i9 n g,.list (G1 ms)]=(a2F cwB (R7 [2,3]) (enF 0 (G1 ms)) [φ (i9 n g),φ (.list (G1 ms)),ζ,ζ]).bind b2x:=by
  unfold B6 a4y;rw [a48];show(b4G _ _ _ [φ (i9 n g),φ (.list (G1 ms)),ζ,ζ]).bind b2x=_;unfold b4G;rw [em,AF]
 rcases a7v hn hn8 g (q1:=φ (.list (G1 ms))) ms 0 ζ ζ hms with⟨h1,ρ,h2⟩|⟨j,ρ,h1,h2⟩
 ·exact .inl ⟨h1,_,by rw [e,h2,AF];rfl⟩
 ·exact .inr ⟨j,h1,by rw [e,h2,AF];rfl⟩
theorem LN.len{n:Nat}(hn:0<n){ms:List Tr}(hms:∀x∈ms,x.1∈t7){m:List (List Pt)}(h:LN n ms m){L:List Pt}(hL:L∈m):L.length<=n*n/\(∀q∈L,V8 n q)/\0<L.length:=by
 obtain⟨_,p,hp,hr⟩:=h.lane L hL;have hin:∀q∈L,V8 n q:=λq hq=>((hr q).mp hq).inb hn hp;refine⟨?_,hin,List.length_pos_of_mem ((hr p).mpr (Rch.refl p))⟩;rw [<-a3n n];exact a40 (h.nd L hL) λq hq=>Z6 (hin q hq)
theorem b5U{m:List (List Pt)}(h:m.Pairwise λA B=>∀q,q∈A->q∉B){A B:List Pt}(hA:A∈m)(hB:B∈m){q:Pt}(qA:q∈A)(qB:q∈B):A=B:=by
 induction m with
 |nil=>cases hA
 |cons C m ih=>
  obtain⟨h1,h2⟩:=List.pairwise_cons.mp h;rcases AX.mp hA with eA|hA
  ·rcases AX.mp hB with eB|hB
   ·rw [eA,eB]
   ·exact absurd qB (h1 B hB q (eA▸qA))
  ·rcases AX.mp hB with eB|hB
   ·exact absurd qA (h1 A hA q (eB▸qB))
   ·exact ih h2 hA hB
def a2W(f:Nat->Nat->Nat)(bx:List Pt->Nat)(L:List Pt):Rec:=(L,bx L,cnt (bx L) (L.map (M6 f)))
abbrev hd1(L:List Pt):Pt:=L.headD (0,0)
abbrev lkd(g:Nat->Nat->Nat)(L:List Pt):Nat:=M6 g (hd1 L)
structure Tld(n:Nat)(ms:List Tr)(f g:Nat->Nat->Nat)(m:List (List Pt))(bx:List Pt->Nat)(col:Pt->Nat):Prop where
 ln:LN n ms m
 all:∀q,V8 n q->∃L∈m,q∈L
 len:m.length<=n*n
 rl:m.Pairwise RL
 bs:∀L∈m,a3R f (lkd g L) L (bx L)/\∀q∈L,col q=bx L
abbrev c3q(n:Nat)(f:Nat->Nat->Nat)(m:List (List Pt))(bx:List Pt->Nat)(col:Pt->Nat):PV:= .tuple [i9 n λr c=>col ((r:Int),(c:Int)),.list (Uk n f (λr c=>col ((r:Int),(c:Int))) (n*n)),.list ((m.map (a2W f bx)).map mr)]
theorem c2r{n:Nat}(hn:0<n)(hn8:n<=8)(g:Nat->Nat->Nat){L:List Pt}(h0:0<L.length)(hL:∀q∈L,V8 n q):S6 [i9 n g,.list ((L.take 1).map pl)]=φ (row [lkd g L]):=by
 cases L with
 |nil=>simp at h0
 |cons a r=>
  have:=a6n hn hn8 g (L:=[a]) (by simp) λq hq=>hL q (by
   have:q=a:=by simpa using hq
   rw [this];exact AZ)
  exact this
theorem b3T{n m:Nat}(hn:n<=8)(hm:m<=8)(f g:Nat->Nat->Nat)(h:n≠m)(p:PV):l8 [i9 n f,i9 m g,p]=ξ (.inr ⟨"Unlike",[]⟩):=by
 have hne:gNe (.v (.int (n:Int))) (.v (.int (m:Int)))=φ (.bool true):=by
  rw [a5z (x:= .v (.int (n:Int))) (y:= .v (.int (m:Int))) ⟨rfl,rfl⟩];have:η (.int (n:Int)) (.int (m:Int))=false:=by
   rw [Bool.eq_false_iff];intro e;have:(n:Int)=(m:Int):=by simpa [η] using e
   lia
  show ξ (g5.v (.bool (!η (.int (n:Int)) (.int (m:Int)))))=_;rw [this];rfl
 unfold l8 K7;simp! [h9,o8,d4,e9,k6,n4,AF,AI,Ab,Ah,Aa,Af,Ad,a48,a5L,a2T,E9,hne,b9x,b8r,b9A,b86]
theorem b3S{n:Nat}(hn:0<n)(hn7:n<=7){ms:List Tr}(f g:Nat->Nat->Nat){c:XT}(hc:B6 [i9 n g,.list (G1 ms)]=ξ (.inr c)):l8 [i9 n f,i9 n g,.list (G1 ms)]=ξ (.inr c):=by
 have hne:gNe (.v (.int (n:Int))) (.v (.int (n:Int)))=φ (.bool false):=V5 rfl;unfold l8 K7;simp! [h9,o8,d4,e9,m4,k6,n4,AF,BB,AI,Ab,Ah,Aa,Af,Ad,a48,a5L,a2T,E9,hne,b3Y,a4V,a8P];rw [b03 (ps:=[i9 n g,.list (G1 ms)]) (by simp! [d4,e9,d6,d0,c9,AF]) hc]
 rfl
theorem b56{n:Nat}(hn:0<n)(hn7:n<=7){ms:List Tr}(hms:∀x∈ms,x.1∈t7)(f g:Nat->Nat->Nat){r0:g5}(hcw:B6 [i9 n g,.list (G1 ms)]=ξ (.inl r0)):∃(m:List (List Pt)) (bx:List Pt->Nat) (col:Pt->Nat),Tld n ms f g m bx col/\
 l8 [i9 n f,i9 n g,.list (G1 ms)]=ξ (.inl (.v (c3q n f m bx col))):=by
 have hnn:n*n<=7*7:=Nat.mul_le_mul hn7 hn7
 obtain⟨m,hm,hRL,hc,hl,ec⟩:=b24 hn hn7 hms
 have ex:∀L:List Pt,∃x:Nat,L∈m->a3R f (lkd g L) L x/\F9 [i9 n f,.list (L.map pl),row [lkd g L]]=φ (mr (L,x,cnt x (L.map (M6 f)))):=λL=>by
  by_cases hL:L∈m
  ·obtain⟨h1,h2,h3⟩:=hm.len hn hms hL;obtain⟨x,hx,e⟩:=b8l hn (by lia:n<=8) f (lkd g L) (by lia) h3 h2
   exact⟨x,λ_=>⟨hx,e⟩⟩
  ·exact⟨0,λz=>absurd z hL⟩
 obtain⟨bx,hbx⟩:=Classical.skolem.mp ex
 have exc:∀q:Pt,∃x:Nat,∀L∈m,q∈L->x=bx L:=λq=>by
  by_cases h:∃L∈m,q∈L
  ·obtain⟨L,hL,hq⟩:=h;exact⟨bx L,λL' hL' hq'=>by rw [b5U hm.dis hL hL' hq hq']⟩
  ·exact⟨0,λL hL hq=>absurd ⟨L,hL,hq⟩ h⟩
 obtain⟨col,hcol⟩:=Classical.skolem.mp exc
 refine⟨m,bx,col,⟨hm,hc,hl,hRL,λL hL=>⟨(hbx L hL).1,λq hq=>hcol q L hL hq⟩⟩, ?_⟩
 have cm:=G6 (ι:=λL:List Pt=> .list (L.map pl)) (f:=λL=>mr (a2W f bx L)) (k:=1) (elt:=M4) (tg:=g6 4) (it:=Q5 (c7 3)) (ρ:=[φ (i9 n f),φ (i9 n g),φ (.list (G1 ms)),ξ (.own (v6 m))]) m (a0M (r:= .bo (.lst (v6 m))) rfl rfl) (by lia) λL hL=>⟨_,rfl,by
  obtain⟨_,h2,h3⟩:=hm.len hn hms hL;have sl:gSl (.v (.list (L.map pl))) ζ (ξ 1)=ξ (.own ((L.take 1).map pl)):=by
   cases L with
   |nil=>simp at h3
   |cons a r=>rfl
  unfold M4;simp! [j7,d4,e9,d6,d0,c9,E3,i7,AF,Ah,Aa,Af,Ad,AV,AW,O2,T8,a0n,a3l,O2,sl,c2r hn (by lia:n<=8) g h3 h2,(hbx L hL).2]
  rfl⟩
 have e2:m.map (λL=>mr (a2W f bx L))=(m.map (a2W f bx)).map mr:=by rw [Au];rfl
 rw [e2] at cm
 have pe:=b8E (n:=n) (by lia) (col:=col) (T:=m.map (a2W f bx)) (λt ht q hq=>by
  obtain⟨L,hL,rfl⟩:=Ae.mp ht;exact hcol q L hL hq) (λt ht=>by
  obtain⟨L,hL,rfl⟩:=Ae.mp ht;exact(hm.lane L hL).1) (by rw [AN];lia) λq hq=>by
  obtain⟨L,hL,h⟩:=hc q hq;exact⟨_,Ae.mpr ⟨L,hL,rfl⟩,h⟩
 have un:=b6y hn (by lia:n<=8) f λr c=>col ((r:Int),(c:Int))
 have to:N6 [i9 n f,.list ((m.map (a2W f bx)).map mr)]=φ (.tuple [i9 n λr c=>col ((r:Int),(c:Int)),.list (Uk n f (λr c=>col ((r:Int),(c:Int))) (n*n)),.list ((m.map (a2W f bx)).map mr)]):=by
  unfold N6 a13;simp! [o8,d4,e9,d6,d0,c9,E3,z0,i7,i6,o9,k9,v8,g7,i8,j9,l9,AF,AI,Ab,Ah,Aa,Af,Ad,AV,AW,AT,Ai,↓reduceIte,sz,Nat.reduceAdd,Am,E9,pe,un]
 have hne:gNe (.v (.int (n:Int))) (.v (.int (n:Int)))=φ (.bool false):=V5 rfl
 unfold l8 K7
 simp! [h9,o8,d4,e9,m4,k6,n4,AF,BB,AI,Ab,Ah,Aa,Af,Ad,a48,a5L,a2T,E9,hne,b3Y,a4V,a8P]
 rw [c0u (ps:=[i9 n g,.list (G1 ms)]) (by simp! [d4,e9,d6,d0,c9,AF]) hcw]
 simp! [o8,d4,e9,d6,d0,c9,E3,i7,i6,M0,k9,v8,g7,i8,AF,BB,AV,AW,a8P,a4V,E9,ec,cm,to,b85]
abbrev tA:PV:= .tuple [.str (AR "turn"),.str (AR "back"),.str (AR "cross"),.str (AR "other")]
abbrev tB:PV:= .tuple [.str (AR "half"),.str (AR "flip"),.str (AR "back"),.str (AR "other")]
abbrev tC:PV:= .tuple [.str (AR "half"),.str (AR "side"),.str (AR "turn"),.str (AR "other")]
theorem W1{w:Str}{x y z:Bool}(h1:a8X false (.v (.str w)) (.v tA)=φ (.bool x))(h2:a8X false (.v (.str w)) (.v tB)=φ (.bool y))(h3:a8X false (.v (.str w)) (.v tC)=φ (.bool z))(n d t a b:Int)(hn:0<n):
 S8 [.int n,T3 w d t,.tuple [.int a,.int b]]=φ (.tuple [.int (((if y then 0 - (if x then b else a) else(if x then b else a))+d) % n),.int (((if z then 0 - (if x then a else b) else(if x then a else b))+t) % n)]):=by
 unfold S8 a9p
 cases x<;>cases y<;>cases z<;>simp! [y4,b7y,b8g,c2O,t5,h9,j7,d4,e9,d6,d0,c9,z0,i6,o9,k9,v8,g7,i8,l0,V7,G0,m4,j9,l9,k6,n4,b8i,c3w,c3x,AF,AI,Ab,Ah,Aa,Af,Ad,AV,AW,AT,Ai,↓reduceIte,Aw,sz,Nat.reduceAdd,Am,h1,h2,h3]
theorem b4C{w:Str}(hw:w∈t7){n:Int}(hn:0<n)(d t a b:Int):S8 [.int n,T3 w d t,.tuple [.int a,.int b]]=φ (.tuple [.int (lr n w d t a b),.int (lc n w d t a b)]):=by
 unfold lr lc;rcases W2 hw with rfl|rfl|rfl|rfl|rfl|rfl|rfl|rfl
 ·rw [W1 (x:=false) (y:=false) (z:=false) (by kernel_rfl) (by kernel_rfl) (by kernel_rfl) n d t a b hn];rfl
 ·rw [W1 (x:=true) (y:=false) (z:=true) (by kernel_rfl) (by kernel_rfl) (by kernel_rfl) n d t a b hn];show _=ξ (g5.v (.tuple [.int ((b+d) % n),.int ((-a+t) % n)]));rw [<-Int.zero_sub a];rfl
 ·rw [W1 (x:=false) (y:=true) (z:=true) (by kernel_rfl) (by kernel_rfl) (by kernel_rfl) n d t a b hn];show _=ξ (g5.v (.tuple [.int ((-a+d) % n),.int ((-b+t) % n)]));rw [<-Int.zero_sub a,<-Int.zero_sub b];rfl
 ·rw [W1 (x:=true) (y:=true) (z:=false) (by kernel_rfl) (by kernel_rfl) (by kernel_rfl) n d t a b hn];show _=ξ (g5.v (.tuple [.int ((-b+d) % n),.int ((a+t) % n)]));rw [<-Int.zero_sub b];rfl
 ·rw [W1 (x:=false) (y:=false) (z:=true) (by kernel_rfl) (by kernel_rfl) (by kernel_rfl) n d t a b hn];show _=ξ (g5.v (.tuple [.int ((a+d) % n),.int ((-b+t) % n)]));rw [<-Int.zero_sub b];rfl
 ·rw [W1 (x:=false) (y:=true) (z:=false) (by kernel_rfl) (by kernel_rfl) (by kernel_rfl) n d t a b hn];show _=ξ (g5.v (.tuple [.int ((-a+d) % n),.int ((b+t) % n)]));rw [<-Int.zero_sub a];rfl
 ·rw [W1 (x:=true) (y:=false) (z:=false) (by kernel_rfl) (by kernel_rfl) (by kernel_rfl) n d t a b hn];rfl
 ·rw [W1 (x:=true) (y:=true) (z:=true) (by kernel_rfl) (by kernel_rfl) (by kernel_rfl) n d t a b hn];show _=ξ (g5.v (.tuple [.int ((-b+d) % n),.int ((-a+t) % n)]));rw [<-Int.zero_sub a,<-Int.zero_sub b];rfl
def Y5(n k:Nat):Pt:=(((k / n:Nat):Int),((k % n:Nat):Int))
def Qn(n:Nat):List Pt:=(AK (n*n)).map (Y5 n)
theorem b6G{n:Nat}(hn:0<n){q:Pt}:q∈Qn n↔V8 n q:=by
 unfold Qn;rw [Ae];constructor
 ·rintro⟨k,hk,rfl⟩;have hk:=List.mem_range.mp hk;have d1:k / n<n:=Nat.div_lt_of_lt_mul hk;have d2:k % n<n:=Nat.mod_lt _ hn;exact⟨⟨Int.natCast_nonneg _,Int.ofNat_lt.mpr d1⟩,Int.natCast_nonneg _,Int.ofNat_lt.mpr d2⟩
 ·intro h;obtain⟨a,b,ha,hb,rfl⟩:=b3j h;refine⟨a*n+b,List.mem_range.mpr ?_, ?_⟩
  ·have:a*n+n<=n*n:=by
    rw [<-Nat.succ_mul];exact Nat.mul_le_mul_right n ha
   lia
  ·obtain⟨e1,e2⟩:=b69 (n:=n) (r:=a) hb;unfold Y5;rw [e1,e2]
theorem c0k{n:Nat}(hn:0<n){w:Str}(hw:w∈t7)(d t:Int)(p:Pt):S8 [.int n,T3 w d t,pl p]=φ (pl (nxt n w d t p)):=b4C hw (by lia) d t p.1 p.2
structure Fnl(n:Nat)(ms:List Tr)(p:Pt)(K:List Pt)(W:List Pt)(D:Γ):Prop where
 kn:Kn D (K++W)
 dl:D.length<=K.length+W.length
 b:W.length+unw (pts n) W<=n*n
 hp:p∈W
 all:∀q∈W,V8 n q/\Rch n ms p q
 nd:W.Nodup
theorem Fnl.add{n:Nat}{ms:List Tr}{p:Pt}{K W:List Pt}{D:Γ}(h:Fnl n ms p K W D){q:Pt}(hq:q∉W)(hb:V8 n q)(hr:Rch n ms p q):Fnl n ms p K (W++[q]) (G2 D (kp q) (.bool true)) where
 kn:=by rw [<-List.append_assoc];exact h.kn.put q _
 dl:=by
  have:=W6 D (kp q) (.bool true);have:=h.dl;rw [Ar,List.length_singleton];lia
 b:=by
  have:=a8M hq (Z6 hb);have:=h.b;rw [Ar,List.length_singleton];lia
 hp:=Ay _ h.hp
 all:=λz hz=>by
  rcases At.mp hz with y|y
  ·exact h.all z y
  ·have:z=q:=by simpa using y
   rw [this];exact⟨hb,hr⟩
 nd:=by
  rw [List.nodup_append];refine⟨h.nd,by simp,λa ha b hb'=> ?_⟩
  have:b=q:=by simpa using hb'
  rw [this];exact λe=>hq (e▸ha)
theorem b7Z{n:Nat}(hn:0<n)(hn8:n<=8){ms:List Tr}{p p0:Pt}{i:Nat}(h0:Rch n ms p p0){K:List Pt}(hK:∀q,Rch n ms p q->q∉K)(hKl:K.length<=64){q1 q3 q4 q5:Υ g5}:∀(xs:List Tr) (W:List Pt) (D:Γ) (q8 q9:Υ g5),(∀x∈xs,x∈ms/\x.1∈t7)->W[i]?=ξ p0->Fnl n ms p K W D->∃N D' q8' q9',Fnl n ms p K (W++N) D'/\(∀x∈xs,st n x p0∈W++N)/\
 x8 u4 (g6 8) (G1 xs) [φ (.int n),q1,ξ (.ow (.dct D)),q3,q4,q5,ξ (.own (W.map pl)),φ (.int (i:Int)),q8,q9]=ξ (.nx [φ (.int n),q1,ξ (.ow (.dct D')),q3,q4,q5,ξ (.own ((W++N).map pl)),φ (.int (i:Int)),q8',q9'])
 |[],W,D,q8,q9,_,_,h=>⟨[],D,q8,q9,by rw [An];exact h,(λx hx=>nomatch hx),by rw [An];rfl⟩
 |x::xs,W,D,q8,q9,hx,hi,h=>by
  have hxm:=hx x AZ;have hnn:n*n<=8*8:=Nat.mul_le_mul hn8 hn8;have hb:=h.b;have hdl:=h.dl;have ix:v4 (.bor (W.map pl)) (.v (.int (i:Int)))=φ (pl p0):=by
   refine a0G ?_;rw [b1E,Ak,hi];rfl
  have hl:=c0k hn hxm.2 (x.2.1:Nat) (x.2.2:Nat) p0;have hin:=h.kn (st n x p0);have hnk:st n x p0∉K:=hK _ (h0.step hxm.1);show ∃N D' q8' q9',_/\_/\x8 u4 (g6 8) (T3 x.1 (x.2.1:Nat) (x.2.2:Nat)::G1 xs) _=_
  by_cases e:st n x p0∈W
  ·rw [decide_eq_true (BD _ e)] at hin;have hbd:u4 [φ (.int n),q1,ξ (.ow (.dct D)),q3,q4,q5,ξ (.own (W.map pl)),φ (.int (i:Int)),φ (T3 x.1 (x.2.1:Nat) (x.2.2:Nat)),q9]=ξ (.nx [φ (.int n),q1,ξ (.ow (.dct D)),q3,q4,q5,ξ (.own (W.map pl)),φ (.int (i:Int)),φ (T3 x.1 (x.2.1:Nat) (x.2.2:Nat)),φ (pl (st n x p0))]):=by
    unfold u4;simp! [h9,d4,t8,e9,d6,d0,c9,i7,i6,o9,g7,i8,l0,G0,m4,k6,n4,AF,AV,AW,↓reduceIte,Bool.not_true,ix,hl,O8,J4,a2A,a2B,hin]
   obtain⟨N,D',a8,a9,h1,h2,h3⟩:=b7Z hn hn8 h0 hK hKl xs W D (φ (T3 x.1 (x.2.1:Nat) (x.2.2:Nat))) (φ (pl (st n x p0))) (λy hy=>hx y (Ag _ hy)) hi h;refine⟨N,D',a8,a9,h1,λy hy=> ?_, ?_⟩
   ·rcases AX.mp hy with rfl|hy
    ·exact Ay _ e
    ·exact h2 y hy
   ·ext v
    rw [hbd,AF];exact h3
  ·rw [decide_eq_false (λz=>(At.mp z).elim hnk e)] at hin;have hF:=h.add e (b2E hn x p0) (h0.step hxm.1);have hbd:u4 [φ (.int n),q1,ξ (.ow (.dct D)),q3,q4,q5,ξ (.own (W.map pl)),φ (.int (i:Int)),φ (T3 x.1 (x.2.1:Nat) (x.2.2:Nat)),q9]=ξ (.nx [φ (.int n),q1,ξ (.ow (.dct (G2 D (kp (st n x p0)) (.bool true)))),q3,q4,q5,ξ (.own ((W++[st n x p0]).map pl)),φ (.int (i:Int)),φ (T3 x.1 (x.2.1:Nat) (x.2.2:Nat)),φ (pl (st n x p0))]):=by
    unfold u4
    ext aa
    rw [B7 (r:= .v (pl (st n x p0))) (p:=pl (st n x p0)) rfl rfl rfl (by rw [AN];lia),BF]
    rfl
   obtain⟨N,D',a8,a9,h1,h2,h3⟩:=b7Z hn hn8 h0 hK hKl xs (W++[st n x p0]) (G2 D (kp (st n x p0)) (.bool true)) (φ (T3 x.1 (x.2.1:Nat) (x.2.2:Nat))) (φ (pl (st n x p0))) (λy hy=>hx y (Ag _ hy)) (by
    rw [BC (Al.mp hi).1];exact hi) hF
   refine⟨[st n x p0]++N,D',a8,a9,by rw [<-List.append_assoc];exact h1,λy hy=> ?_, ?_⟩
   ·rw [<-List.append_assoc];rcases AX.mp hy with rfl|hy
    ·exact Ay _ (by simp)
    ·exact h2 y hy
   ·ext v
    rw [hbd,AF,<-List.append_assoc];exact h3
theorem b70{n:Nat}(hn:0<n)(hn8:n<=8){ms:List Tr}(hms:∀x∈ms,x.1∈t7){p:Pt}(hp:V8 n p){K:List Pt}(hK:∀q,Rch n ms p q->q∉K)(hKl:K.length<=64){D0:Γ}(hD:Kn D0 K)(hDl:D0.length<=K.length)(q3 q4 q5 q8 q9:Υ g5):
 ∃(W:List Pt) (D':Γ) (q7' q8' q9':Υ g5),Fnl n ms p K W D'/\(∀q,q∈W↔Rch n ms p q)/\U1 (W4 (m2 a32 (c7 7) (m1 z9 (c7 6)))) D4 100 [φ (.int n),φ (.list (G1 ms)),ξ (.ow (.dct (G2 D0 (kp p) (.bool true)))),q3,q4,q5,ξ (.own ([p].map pl)),φ (.int 0),q8,q9]
  =ξ (.nx [φ (.int n),φ (.list (G1 ms)),ξ (.ow (.dct D')),q3,q4,q5,ξ (.own (W.map pl)),q7',q8',q9']):=by
 have hnn:n*n<=8*8:=Nat.mul_le_mul hn8 hn8
 have key:=a3a (c:=W4 (m2 a32 (c7 7) (m1 z9 (c7 6)))) (body:=D4) (I:=λm ρ=>∃(W:List Pt) (D:Γ) (i:Nat) (q8 q9:Υ g5),m=n*n - i/\i<=W.length/\Fnl n ms p K W D/\(∀j q,j<i->W[j]?=ξ q->∀x∈ms,st n x q∈W)/\ρ=[φ (.int n),φ (.list (G1 ms)),ξ (.ow (.dct D)),q3,q4,q5,ξ (.own (W.map pl)),φ (.int (i:Int)),q8,q9])
  (by
   rintro m ρ ⟨W,D,i,q8,q9,hm,hi,hF,hC,rfl⟩;have hb:=hF.b;have hc:W4 (m2 a32 (c7 7) (m1 z9 (c7 6))) [φ (.int n),φ (.list (G1 ms)),ξ (.ow (.dct D)),q3,q4,q5,ξ (.own (W.map pl)),φ (.int (i:Int)),q8,q9]=ξ (decide ((i:Int)<(W.length:Int))):=by
    ext ac
   by_cases e:i<W.length
   ·obtain⟨p0,hp0⟩:∃p0,W[i]?=ξ p0:=⟨W[i],Ax e⟩;obtain⟨N,D',a8,a9,h1,h2,h3⟩:=b7Z hn hn8 (hF.all p0 (BE hp0)).2 hK hKl (i:=i) (q1:=φ (.list (G1 ms))) (q3:=q3) (q4:=q4) (q5:=q5) ms W D q8 q9 (λx hx=>⟨hx,hms x hx⟩) hp0 hF;refine .inr ⟨by rw [hc,decide_eq_true (by lia)],[φ (.int n),φ (.list (G1 ms)),ξ (.ow (.dct D')),q3,q4,q5,ξ (.own ((W++N).map pl)),φ (.int ((i:Int)+1)),a8,a9],n*n - (i+1), ?_,by lia,W++N,D',i+1,a8,a9,rfl,by rw [Ar];lia,h1,λj q hj hq x hx=> ?_,by rw [Int.natCast_add];rfl⟩
    ·unfold D4;simp! [y4,h9,j7,d4,e9,c9,i6,o9,g7,i8,n0,AF,AV,AW,T2,x9,h3]
    ·by_cases hji:j<i
     ·have hjW:j<W.length:=by lia
      rw [BC hjW] at hq;exact Ay _ (hC j q hji hq x hx)
     ·have:j=i:=by lia
      subst this;rw [BC e,hp0] at hq;cases hq;exact h2 x hx
   ·exact .inl (by rw [hc,decide_eq_false (by lia)]))
  100 (n*n - 0) [φ (.int n),φ (.list (G1 ms)),ξ (.ow (.dct (G2 D0 (kp p) (.bool true)))),q3,q4,q5,ξ (.own ([p].map pl)),φ (.int 0),q8,q9] (by lia)
  ⟨[p],G2 D0 (kp p) (.bool true),0,q8,q9,rfl,by simp,⟨hD.put p _,by
   have:=W6 D0 (kp p) (.bool true);simp only [AT,Ai];lia,by
    have h:=a8M (q:=p) (K:=[]) (by simp) (Z6 hp)
    have h2:=c1C (pts n) [];rw [a3n] at h2;rw [Ad] at h;simp only [AT,Ai];lia,by simp,λq hq=>by
    have:q=p:=by simpa using hq
    rw [this];exact⟨hp,Rch.refl p⟩,by simp⟩,λj q hj=>by lia,rfl⟩
 obtain⟨ρ',m',e,⟨W,D,i,a8,a9,_,hi,hF,hC,rfl⟩,hc⟩:=key
 have hc':W4 (m2 a32 (c7 7) (m1 z9 (c7 6))) [φ (.int n),φ (.list (G1 ms)),ξ (.ow (.dct D)),q3,q4,q5,ξ (.own (W.map pl)),φ (.int (i:Int)),a8,a9]=ξ (decide ((i:Int)<(W.length:Int))):=by
  ext ac
 rw [hc'] at hc
 have hiW:i=W.length:=by
  have:¬((i:Int)<(W.length:Int)):=of_decide_eq_false (Option.some.inj hc)
  lia
 refine⟨W,D,_,a8,a9,hF,λq=>⟨λh=>(hF.all q h).2,λh=>h (λz=>z∈W) (λz hz x hx=> ?_) hF.hp⟩,e⟩
 obtain⟨j,hj⟩:=List.getElem?_of_mem hz
 exact hC j z (by have:=(Al.mp hj).1;lia) hj x hx
theorem LN.rch{n:Nat}(hn:0<n){ms:List Tr}(hms:∀x∈ms,x.1∈t7){m:List (List Pt)}(h:LN n ms m){L:List Pt}(hL:L∈m){a:Pt}(ha:a∈L):V8 n a/\∀q,q∈L↔Rch n ms a q:=by
 obtain⟨_,p,hp,hr⟩:=h.lane L hL;have hpa:=(hr a).mp ha;exact⟨hpa.inb hn hp,λq=>⟨λhq=>(Rch.symm hn hms hp hpa).trans ((hr q).mp hq),λhq=>(hr q).mpr (hpa.trans hq)⟩⟩
structure LcI(n:Nat)(ms:List Tr)(i:Nat)(Fs:List (List Pt))(K:List Pt)(D:Γ):Prop where
 ln:LN n ms Fs
 kn:Kn D K
 dl:D.length<=K.length
 nd:K.Nodup
 ink:∀q∈K,V8 n q
 mem:∀q,q∈K↔∃A∈Fs,q∈A
 all:∀j,j<i->Y5 n j∈K
 len:Fs.length<=i
theorem LcI.klen{n:Nat}{ms:List Tr}{i:Nat}{Fs:List (List Pt)}{K:List Pt}{D:Γ}(h:LcI n ms i Fs K D):K.length<=n*n:=by
 rw [<-a3n n];exact a40 h.nd λq hq=>Z6 (h.ink q hq)
theorem b9Q{n k:Nat}(hn:0<n)(hk:k<n*n):V8 n (Y5 n k):=(b6G hn).mp (Ae.mpr ⟨k,List.mem_range.mpr hk,rfl⟩)
theorem c2t{n:Nat}(hn:0<n)(hn7:n<=7){ms:List Tr}(hms:∀x∈ms,x.1∈t7){i:Nat}(hi:i<n*n){Fs:List (List Pt)}{K:List Pt}{D:Γ}(h:LcI n ms i Fs K D)(q5 q6 q7 q8 q9:Υ g5):
 ∃(Fs':List (List Pt)) (K':List Pt) (D':Γ) (q5' q6' q7' q8' q9':Υ g5),LcI n ms (i+1) Fs' K' D'/\D5 [φ (.int n),φ (.list (G1 ms)),ξ (.ow (.dct D)),ξ (.own (v6 Fs)),φ (.int (i:Int)),q5,q6,q7,q8,q9]
  =ξ (.nx [φ (.int n),φ (.list (G1 ms)),ξ (.ow (.dct D')),ξ (.own (v6 Fs')),φ (.int (i:Int)),q5',q6',q7',q8',q9']):=by
 have hnn:n*n<=7*7:=Nat.mul_le_mul hn7 hn7
 have hkl:=h.klen
 have hin:=h.kn (Y5 n i)
 have e1:(i:Int)/(n:Int)=((i / n:Nat):Int):=(Int.natCast_ediv i n).symm
 have e2:(i:Int) %(n:Int)=((i % n:Nat):Int):=(Int.natCast_emod i n).symm
 have dm:Z1 (.v (.int (i:Int))) (.v (.int (n:Int)))=φ (pl (Y5 n i)):=by
  show _=ξ (g5.v (.tuple [.int ((i / n:Nat):Int),.int ((i % n:Nat):Int)]));rw [<-e1,<-e2];unfold Z1;simp
  lia
 by_cases e:Y5 n i∈K
 ·rw [decide_eq_true e] at hin
  refine⟨Fs,K,D,φ (pl (Y5 n i)),q6,q7,q8,q9,⟨h.ln,h.kn,h.dl,h.nd,h.ink,h.mem,λj hj=> ?_,by have:=h.len;lia⟩, ?_⟩
  ·rcases Nat.lt_or_ge j i with hj'|hj'
   ·exact h.all j hj'
   ·rw [show j=i by lia];exact e
  ·unfold D5
   simp! [h9,d4,e9,i6,o9,g7,i8,l0,G0,m4,k6,n4,AF,AV,AW,↓reduceIte,Bool.not_true,dm,O8,J4,a2A,a2B,hin]
 ·rw [decide_eq_false e] at hin
  have hp:=b9Q hn hi
  have clo:∀q,Rch n ms (Y5 n i) q->q∉K:=λq hq hqK=>by
   obtain⟨A,hA,hqA⟩:=(h.mem q).mp hqK;obtain⟨_,hr⟩:=h.ln.rch hn hms hA hqA;exact e ((h.mem _).mpr ⟨A,hA,(hr _).mpr (Rch.symm hn hms hp hq)⟩)
  obtain⟨W,D',a7,a8,a9,hF,hW,ew⟩:=b70 hn (by lia:n<=8) hms hp clo (by lia) h.kn h.dl (ξ (.own (v6 Fs))) (φ (.int (i:Int))) (φ (pl (Y5 n i))) q8 q9
  have hWl:=hF.b
  obtain⟨M,hM,es,hso⟩:=b4Y (L:=W) (by lia) hF.nd (.bor (W.map pl)) rfl
  have hmM:∀q,q∈M↔Rch n ms (Y5 n i) q:=λq=>(hM.mem_iff).trans (hW q)
  refine⟨Fs++[M],K++W,D',φ (pl (Y5 n i)),ξ (.own (W.map pl)),a7,a8,a9,⟨⟨λA hA=> ?_,List.pairwise_append.mpr ⟨h.ln.dis,List.pairwise_singleton _ _,λA hA B hB q hq hqB=> ?_⟩,λA hA=> ?_,λA hA=> ?_⟩,hF.kn,by rw [Ar];exact hF.dl, ?_,λq hq=> ?_,λq=> ?_,λj hj=> ?_,by rw [Ar,List.length_singleton];have:=h.len;lia⟩, ?_⟩
  ·rcases At.mp hA with z|z
   ·exact h.ln.lane A z
   ·have:A=M:=by simpa using z
    rw [this];exact⟨by rw [hM.length_eq];lia,_,hp,hmM⟩
  ·have:B=M:=by simpa using hB
   rw [this] at hqB
   exact clo q ((hmM q).mp hqB) ((h.mem q).mpr ⟨A,hA,hq⟩)
  ·rcases At.mp hA with z|z
   ·exact h.ln.nd A z
   ·have:A=M:=by simpa using z
    rw [this];exact hM.nodup_iff.mpr hF.nd
  ·rcases At.mp hA with z|z
   ·exact h.ln.so A z
   ·have:A=M:=by simpa using z
    rw [this];exact hso
  ·rw [List.nodup_append]
   exact⟨h.nd,hF.nd,λa ha b hb eab=>clo b ((hW b).mp hb) (eab▸ha)⟩
  ·rcases At.mp hq with z|z
   ·exact h.ink q z
   ·exact(hF.all q z).1
  ·rw [At,h.mem]
   constructor
   ·rintro(⟨A,h1,h2⟩|h2)
    ·exact⟨A,Ay _ h1,h2⟩
    ·exact⟨M,by simp,hM.mem_iff.mpr h2⟩
   ·rintro⟨A,h1,h2⟩
    rcases At.mp h1 with z|z
    ·exact .inl ⟨A,z,h2⟩
    ·have:A=M:=by simpa using z
     rw [this] at h2;exact .inr (hM.mem_iff.mp h2)
  ·rcases Nat.lt_or_ge j i with hj'|hj'
   ·exact Ay _ (h.all j hj')
   ·rw [show j=i by lia];exact BD _ hF.hp
  ·have hfl:=h.len
   have hdl:=h.dl
   unfold D5
   have ap:=B7 (i:=3) (m:=m1 a33 (c7 6)) (ρ:=[φ (.int n),φ (.list (G1 ms)),ξ (.ow (.dct D')),ξ (.own (v6 Fs)),φ (.int (i:Int)),φ (pl (Y5 n i)),ξ (.own (W.map pl)),a7,a8,a9]) (r:= .own (M.map pl)) (p:= .list (M.map pl)) (ps:=v6 Fs) (by simp! [o8,t8,e9,AF,es]) rfl rfl (by rw [AN];lia)
   simp! [h9,j7,d4,e9,d6,d0,c9,A9,i6,o9,M0,g7,i8,l0,V7,k6,n4,AF,AV,AW,AT,Ai,↓reduceIte,Bool.not_false,sz,Nat.reduceAdd,Am,dm,O8,J4,a2A,a2B,hin,E5]
   rw [P6 rfl (by lia),AF,i8]
   have ew':U1 (W4 (m2 a32 (c7 7) (m1 z9 (c7 6)))) D4 100 [φ (.int n),φ (.list (G1 ms)),ξ (.ow (.dct (G2 D (kp (Y5 n i)) (.bool true)))),ξ (.own (v6 Fs)),φ (.int (i:Int)),φ (pl (Y5 n i)),ξ (.own [pl (Y5 n i)]),φ (.int 0),q8,q9]=_:=ew
   have el:v6 (Fs++[M])=v6 Fs++[.list (M.map pl)]:=by unfold v6;rw [BF];rfl
   rw [el]
   simp! [j7,i6,o9,g7,i8,AF,AV,AW,ew',ap]
theorem b4R:∀L:List Pt,(L.map pl).mapM b8V=ξ L
 |[]=>rfl
 |p::L=>by
  rw [AI,List.mapM_cons,b4R L]
  rfl
theorem a9S:∀Fs:List (List Pt),(v6 Fs).mapM b53=ξ Fs
 |[]=>rfl
 |A::Fs=>by
  have ih:=a9S Fs;show((PyData.list (A.map pl))::v6 Fs).mapM b53=_;rw [List.mapM_cons,ih];show((A.map pl).mapM b8V).bind _=_;rw [b4R]
  rfl
theorem c4h{A B:List Pt}(hA:0<A.length)(hB:0<B.length)(sB:B.Pairwise ltP)(h:ltF B A=false)(d:∀q,q∈A->q∉B):RL A B:=by
 cases A with
 |nil=>cases hA
 |cons a A=>
  cases B with
  |nil=>cases hB
  |cons b B=>
   have hne:a≠b:=λe=>d a AZ (e▸AZ);have h1:¬ltP b a:=λz=>by
    have:=b78 z (flK B) (flK A);rw [show R4 (.inl b.1:: .inl b.2::flK B) (.inl a.1:: .inl a.2::flK A)=ltF (b::B) (a::A) from rfl,h] at this;cases this
   have hab:ltP a b:=by
    unfold ltP at h1 ⊢;have:¬(a.1=b.1/\a.2=b.2):=λz=>hne (Prod.ext z.1 z.2)
    lia
   refine⟨a,AZ,λc hc=> ?_⟩;rcases AX.mp hc with rfl|hc
   ·exact hab
   ·have:=(List.pairwise_cons.mp sB).1 c hc;unfold ltP at this hab ⊢
    lia
theorem a7p{α:Type}{R:α->α->Prop}(as:∀{a b},R a b->¬R b a):∀{l m:List α},l.Pairwise R->m.Pairwise R->(∀x,x∈l↔x∈m)->l=m
 |[],[],_,_,_=>rfl
 |[],y::m,_,_,h=>nomatch (h y).mpr AZ
 |x::l,[],_,_,h=>nomatch (h x).mp AZ
 |x::l,y::m,hl,hm,h=>by
  obtain⟨l1,l2⟩:=List.pairwise_cons.mp hl;obtain⟨m1,m2⟩:=List.pairwise_cons.mp hm;have exy:x=y:=by
   rcases AX.mp ((h x).mp AZ) with e|e
   ·exact e
   ·rcases AX.mp ((h y).mpr AZ) with e'|e'
    ·exact e'.symm
    ·exact absurd (m1 x e) (as (l1 y e'))
  subst exy;rw [a7p as l2 m2 λz=>⟨λhz=> ?_,λhz=> ?_⟩]
  ·rcases AX.mp ((h z).mp (Ag _ hz)) with e|e
   ·subst e;exact absurd (l1 z hz) (as (l1 z hz))
   ·exact e
  ·rcases AX.mp ((h z).mpr (Ag _ hz)) with e|e
   ·subst e;exact absurd (m1 z hz) (as (m1 z hz))
   ·exact e
theorem b76{n:Nat}(hn:0<n){ms:List Tr}(hms:∀x∈ms,x.1∈t7){m m':List (List Pt)}(h:LN n ms m)(h':LN n ms m')(c':∀q,V8 n q->∃L∈m',q∈L){L:List Pt}(hL:L∈m):L∈m':=by
 obtain⟨_,hin,hp⟩:=h.len hn hms hL;obtain⟨a,ha⟩:=List.exists_mem_of_length_pos hp;obtain⟨B,hB,haB⟩:=c' a (hin a ha);have e:L=B:=a7p b79 (h.so L hL) (h'.so B hB) λq=>by rw [(h.rch hn hms hL ha).2 q,(h'.rch hn hms hB haB).2 q]
 rw [e];exact hB
theorem c31{n:Nat}(hn:0<n){ms:List Tr}(hms:∀x∈ms,x.1∈t7){m m':List (List Pt)}(h:LN n ms m)(h':LN n ms m')(c:∀q,V8 n q->∃L∈m,q∈L)(c':∀q,V8 n q->∃L∈m',q∈L)(o:m.Pairwise RL)(o':m'.Pairwise RL):m=m':=
 a7p c3H o o' λL=>⟨λhL=>b76 hn hms h h' c' hL,λhL=>b76 hn hms h' h c hL⟩
theorem b18{n:Nat}(hn:0<n)(hn7:n<=7){ms:List Tr}(hms:∀x∈ms,x.1∈t7):∃m,LN n ms m/\m.Pairwise RL/\(∀q,V8 n q->∃L∈m,q∈L)/\m.length<=n*n/\G4 [.int n,.list (G1 ms)]=ξ (.own (v6 m)):=by
 have hnn:n*n<=7*7:=Nat.mul_le_mul hn7 hn7;obtain⟨ρ1,e1,Fs,K,D,q5,q6,q7,q8,q9,q4,hI,rfl⟩:=z5 (body:=D5) (tg:=g6 4) (λi ρ=>∃(Fs:List (List Pt)) (K:List Pt) (D:Γ) (q5 q6 q7 q8 q9 q4:Υ g5),LcI n ms i Fs K D/\ρ=[φ (.int n),φ (.list (G1 ms)),ξ (.ow (.dct D)),ξ (.own (v6 Fs)),q4,q5,q6,q7,q8,q9])
  (ps:=J9 0 ((n*n:Nat):Int)) (ρ:=[φ (.int n),φ (.list (G1 ms)),ξ (.ow (.dct [])),ξ (.own []),ζ,ζ,ζ,ζ,ζ,ζ])
  (by
   rintro i p hp ρ ⟨Fs,K,D,q5,q6,q7,q8,q9,q4,hI,rfl⟩
   ext j
   rw [hi'] at hi ⊢;obtain⟨Fs',K',D',a5,a6,a7,a8,a9,hI',e⟩:=c2t hn hn7 hms (i:=i) (by lia) hI q5 q6 q7 q8 q9
   exact V0 rfl e ⟨_,_,_,_,_,_,_,_,_,hI',rfl⟩)
  ⟨[],[],[],ζ,ζ,ζ,ζ,ζ,ζ,⟨⟨λL h=>(nomatch h),List.Pairwise.nil,λL h=>(nomatch h),λL h=>(nomatch h)⟩,λq=>by simp [p7],AM _,List.nodup_nil,λq h=>(nomatch h),λq=>⟨λh=>(nomatch h),λ⟨_,h,_⟩=>(nomatch h)⟩,λj hj=>by lia,AM _⟩,rfl⟩
 have hlen:(J9 0 ((n*n:Nat):Int)).length=n*n:=by rw [a67,AN,Av]
 rw [hlen] at hI;have pm:=a1T (lt:=ltF) Fs;have hl:=hI.len;have es:a6V (.bo (.lst (v6 Fs)))=ξ (.own (v6 (a19 ltF Fs))):=by
  show((v6 Fs).mapM b53).bind _=_;rw [a9S,AF,if_pos (by lia)]
  rfl
 refine⟨a19 ltF Fs,⟨λL hL=>hI.ln.lane L (pm.mem_iff.mp hL), ?_,λL hL=>hI.ln.nd L (pm.mem_iff.mp hL),λL hL=>hI.ln.so L (pm.mem_iff.mp hL)⟩, ?_,λq hq=> ?_,by rw [pm.length_eq];exact hl, ?_⟩
 ·refine(pm.pairwise_iff λ {a b} h q hb ha=>h q ha hb).mpr hI.ln.dis
 ·refine List.Pairwise.imp_of_mem (λ {A B} hA hB ⟨h1,h2⟩=>c4h (hI.ln.len hn hms (pm.mem_iff.mp hA)).2.2 (hI.ln.len hn hms (pm.mem_iff.mp hB)).2.2 (hI.ln.so B (pm.mem_iff.mp hB)) h1 h2) ((Z8 b4D Fs).and ((pm.pairwise_iff λ {a b} h q hb ha=>h q ha hb).mpr hI.ln.dis))
 ·obtain⟨k,hk,e⟩:=Ae.mp ((b6G hn).mpr hq);obtain⟨A,hA,h⟩:=(hI.mem q).mp (e▸hI.all k (List.mem_range.mp hk));exact⟨A,pm.mem_iff.mpr hA,h⟩
 ·have mm:(n:Int)*(n:Int)=((n*n:Nat):Int):=by rw [Int.natCast_mul]
  unfold G4 a3E;simp! [U5,h9,o8,d4,t8,e9,d6,d0,c9,A9,i6,k9,a5W,g7,i8,j9,l9,n0,r9,y3,AF,AI,Ab,Ah,Aa,Af,Ad,AV,AW,Ai,↓reduceIte,sz,Am,a0a,W8,mm,e1,es]
theorem a6P(y a:Nat):∀l:List Nat,cnt y (l++[a])=cnt y l+if a=y then 1 else 0
 |[]=>by rw [Ad,cnt_cons];exact Int.add_comm _ _
 |b::l=>by rw [Af,cnt_cons,cnt_cons,a6P y a l];lia
theorem b9M{l U:List Nat}{a:Nat}(h:a∉U):cD (l++[a]) U=cD l U:=by
 unfold cD;refine List.map_congr_left λx hx=> ?_;have hne:¬a=x:=λe=>h (e▸hx);rw [a6P,if_neg hne,Int.add_zero]
theorem c1S{l U:List Nat}{a:Nat}(h:a∈U):G2 (cD l U) [.inr (S [a])] (.int (cnt a l+1))=cD (l++[a]) U:=by
 have e:((cD l U).any λkv=>decide (kv.1=[.inr (S [a])]))=true:=by rw [a6N,a1u,if_pos h];rfl
 unfold G2;rw [e,if_pos rfl];unfold cD;rw [Au];refine List.map_congr_left λx hx=> ?_;show(if [Sum.inr (S [x])]=[Sum.inr (S [a])] then([Sum.inr (S [x])],PyData.int (cnt a l+1)) else([Sum.inr (S [x])],PyData.int (cnt x l)))=_
 rw [a6P]
 by_cases c:a=x
 ·subst c;rw [if_pos rfl,if_pos rfl]
 ·rw [if_neg (λz=>c (b6H.mp (Sum.inr.inj (List.cons.inj z).1)).symm),if_neg c,Int.add_zero]
theorem c1R{l U:List Nat}{a:Nat}(hU:∀x,x∈U↔x∈l):(p7 (cD l U) [.inr (S [a])]).getD (.int 0)= .int (cnt a l):=by
 rw [a1u]
 by_cases h:a∈U
 ·rw [if_pos h];rfl
 ·rw [if_neg h,cnt_none a l λz=>h ((hU a).mpr z)];rfl
theorem b9k{i:Nat}{ρ:d5}{x:Str}{d:PV}{D:Γ}(h:ρ[i]?=ξ (ξ (.ow (.txt D)))):a8L i ρ x d=φ ((p7 D [.inr x]).getD d):=by
 unfold a8L;rw [h]
theorem c2f{n:Nat}(hn8:n<=8)(f:Nat->Nat->Nat){L:List Pt}(hl:L.length<64)(hL:∀q∈L,V8 n q):∃U:List Nat,U.Nodup/\U.length<=L.length/\(∀x,x∈U↔x∈L.map (M6 f))/\a3k [i9 n f,.list (L.map pl)]=ξ (.ow (.txt (cD (L.map (M6 f)) U))):=by
 obtain⟨ρ1,e1,U,q3,q4,h1,h2,h3,rfl⟩:=z5 (body:=Z5) (tg:=R7 [3,4]) (λi ρ=>∃(U:List Nat) (q3 q4:Υ g5),U.Nodup/\(∀x,x∈U↔x∈(L.take i).map (M6 f))/\U.length<=i/\ρ=[φ (i9 n f),φ (.list (L.map pl)),ξ (.ow (.txt (cD ((L.take i).map (M6 f)) U))),q3,q4])
  (ps:=L.map pl) (ρ:=[φ (i9 n f),φ (.list (L.map pl)),ξ (.ow (.txt [])),ζ,ζ])
  (by
   rintro i p hp ρ ⟨U,q3,q4,h1,h2,h3,rfl⟩;have hi:i<L.length:=by have:=(Al.mp hp).1;rwa [AN] at this
   have hq:L[i]?=ξ L[i]:=Ax hi;rw [Ak,hq] at hp;cases hp;obtain⟨⟨b1,b2⟩,b3,b4⟩:=hL L[i] (List.getElem_mem hi);have et:(L.take (i+1)).map (M6 f)=(L.take i).map (M6 f)++[M6 f L[i]]:=by
    rw [List.take_succ,hq,BF];rfl
   have i1:=a0C (n:=n) (f:=f) (i:=L[i].1) b1 b2;have i2:=a4h (n:=n) (g:=λc=>f L[i].1.toNat c) (j:=L[i].2) b3 b4 (by lia)
   generalize (L.take i).map (M6 f)=l at h2 et ⊢;obtain⟨a,ea⟩:∃a,M6 f L[i]=a:=⟨_,rfl⟩;have ea':f L[i].1.toNat L[i].2.toNat=a:=ea;rw [ea'] at i2;rw [ea] at et;have gt:=b9k (i:=2) (ρ:=[φ (i9 n f),φ (.list (L.map pl)),ξ (.ow (.txt (cD l U))),φ (.int L[i].1),φ (.int L[i].2)]) (x:=S [a]) (d:= .int 0) (D:=cD l U) rfl;rw [c1R h2] at gt;have hlen:(cD l U).length<16777216:=by unfold cD;rw [AN];lia
   have pt:=b2L (i:=2) (ρ:=[φ (i9 n f),φ (.list (L.map pl)),ξ (.ow (.txt (cD l U))),φ (.int L[i].1),φ (.int L[i].2)]) (p:= .int (cnt a l+1)) (x:=S [a]) (D:=cD l U) rfl hlen;have hb:Z5 [φ (i9 n f),φ (.list (L.map pl)),ξ (.ow (.txt (cD l U))),φ (.int L[i].1),φ (.int L[i].2)]=ξ (.nx [φ (i9 n f),φ (.list (L.map pl)),ξ (.ow (.txt (G2 (cD l U) [.inr (S [a])] (.int (cnt a l+1))))),φ (.int L[i].1),φ (.int L[i].2)]):=by
    unfold Z5;simp! [y4,h9,j7,d4,e9,c9,AF,a9Y,b3y,i1,i2,b0T,gt];exact pt
   refine V0 rfl hb ?_
   by_cases c:a∈U
   ·refine⟨U,φ (.int L[i].1),φ (.int L[i].2),h1,λx=> ?_,by lia,by rw [c1S c,et]⟩
    rw [et,At,<-h2 x];constructor
    ·exact λh=> .inl h
    ·rintro(h|h)
     ·exact h
     ·have:x=a:=by simpa using h
      rw [this];exact c
   ·refine⟨U++[a],φ (.int L[i].1),φ (.int L[i].2), ?_,λx=> ?_,by rw [Ar,List.length_singleton];lia, ?_⟩
    ·rw [List.nodup_append];refine⟨h1,by simp,λx hx y hy=> ?_⟩
     have:y=a:=by simpa using hy
     rw [this];exact λe=>c (e▸hx)
    ·rw [et,At,At,h2 x]
    ·have e0:cnt a l+1=cnt a (l++[a]):=by rw [a6P,if_pos rfl]
     rw [et,<-b9M (l:=l) c,e0,b6W c]) ⟨[],ζ,ζ,List.nodup_nil,λx=>by simp,AM _,rfl⟩
 rw [AN,List.take_length] at*;refine⟨U,h1,h3,h2, ?_⟩;have hit:PyData.items? (.list (L.map pl))=ξ (L.map pl):=rfl;unfold a3k a9o;simp! [d4,e9,c9,i6,g7,i8,j9,l9,n0,AF,AI,Ab,Ah,Aa,Af,Ad,AV,AW,x9,a1J,a1K,b2d,W8,hit,e1]
theorem b4A(l:List Nat):∀U:List Nat,(cD l U).mapM (λkv=>a8Z kv.1)=ξ (U.map λx=>S [x])
 |[]=>rfl
 |a::U=>by
  show(([Sum.inr (S [a])],PyData.int (cnt a l))::cD l U).mapM _=_;rw [List.mapM_cons,b4A l U]
  rfl
theorem b6s{l U:List Nat}(hU:U.length<64):∃V:List Nat,V.Perm U/\V.Pairwise (· <=·)/\a6U (.bo (.txt (cD l U)))=ξ (.own (V.map λx=>row [x])):=by
 have pm:=E8 (U.map λx=>S [x]);have ps:=L5 (U.map λx=>S [x]);obtain⟨V,hV,eV⟩:=a8k pm.symm;rw [<-eV] at ps;refine⟨V,hV, ?_, ?_⟩
 ·ext x
 ·show((cD l U).mapM (λkv=>a8Z kv.1)).bind _=_;rw [b4A,AF,if_pos (by rw [AN];lia),<-eV,Au]
  rfl
open Classical in
def bxx(f g:Nat->Nat->Nat)(L:List Pt):Nat:=if h:∃x,a3R f (lkd g L) L x then Classical.choose h else 0
theorem b6V{f g:Nat->Nat->Nat}{L:List Pt}{x:Nat}(h:a3R f (lkd g L) L x):bxx f g L=x:=by
 have z:∃x,a3R f (lkd g L) L x:=⟨x,h⟩;unfold bxx;rw [dif_pos z];exact(Classical.choose_spec z).uniq h
abbrev a5v(n:Nat)(f g:Nat->Nat->Nat)(q2:Υ g5)(T:List PV)(L:List Pt)(q5 q6 q7 q8:Υ g5):d5:=[φ (i9 n f),φ (i9 n g),q2,ξ (.own T),φ (.list (L.map pl)),q5,q6,q7,q8]
theorem b9Y{n:Nat}(hn8:n<=8)(f g:Nat->Nat->Nat){L:List Pt}(hl:L.length<64)(h0:0<L.length)(hL:∀q∈L,V8 n q){q2:Υ g5}{T:List PV}(hT:T.length<1000)(q5 q6 q7 q8:Υ g5):
 ∃q5' q6' q7' q8',a3R f (lkd g L) L (bxx f g L)/\E6 (a5v n f g q2 T L q5 q6 q7 q8)=ξ (.nx (a5v n f g q2 (T++[mr (a2W f (bxx f g) L)]) L q5' q6' q7' q8')):=by
 obtain⟨U,nd,hU,mU,eh⟩:=c2f hn8 f hl hL
 unfold a2W
 generalize hll:L.map (M6 f)=l at mU eh
 have hp:0<U.length:=by
  cases L with
  |nil=>simp at h0
  |cons a r=>exact List.length_pos_of_mem ((mU (M6 f a)).mpr (by rw [<-hll];exact AZ))
 have hcl:(cD l U).length=U.length:=by unfold cD;rw [AN]
 have e1:b0Z 5 (a5v n f g q2 T L (ξ (.ow (.txt (cD l U)))) q6 q7 q8)=ξ (.own ((U.map λx=>cnt x l).map .int)):=by
  show(if(cD l U).length<=AQ then ξ (g5.own ((cD l U).map (·.2))) else ζ)=_
  rw [if_pos (by rw [hcl,sizeLine_eq];lia)]
  unfold cD;rw [Au,Au]
  rfl
 obtain⟨b1,b2⟩:=a9r (is:=U.map λx=>cnt x l) (by rw [AN];exact hp)
 have e2:a9K (.own ((U.map λx=>cnt x l).map .int))=φ (.int (a14 (U.map λx=>cnt x l))):=by
  show(a2J _).bind _=_;rw [a5E,AF,if_pos (by rw [AN];exact hp)]
 generalize hM:a14 (U.map λx=>cnt x l)=M at b1 b2 e2
 obtain⟨V,hV,sV,eV⟩:=b6s (l:=l) (U:=U) (by lia)
 have e3:C4 1 (Q5 (m1 a6U (c7 5))) (g6 9) (W4 (m2 gEq (a74 5 (c7 9)) (c7 6))) a4R (a5v n f g q2 T L (ξ (.ow (.txt (cD l U)))) (φ (.int M)) q7 q8)=ξ (.own ((V.filter λx=>cnt x l==M).map λx=>row [x])):=by
  refine L3 (ι:=λx=>row [x]) (f:=λx=>row [x]) (q:=λx=>cnt x l==M) V ?_ ?_ λx hx=>⟨a5v n f g q2 T L (ξ (.ow (.txt (cD l U)))) (φ (.int M)) q7 q8++[φ (row [x])],rfl, ?_,λ_=>rfl⟩
  ·exact a0M (r:= .own (V.map λx=>row [x])) (by rw [o8,b8j (D:=cD l U) rfl,AF,eV]) rfl
  ·rw [hV.length_eq];lia
  ·have tg:a74 5 (c7 9) (a5v n f g q2 T L (ξ (.ow (.txt (cD l U)))) (φ (.int M)) q7 q8++[φ (row [x])])=φ (.int (cnt x l)):=by
    rw [a9X];simp! [d4,e9,AF,Af,Ad,b0T];exact b2J (D:=cD l U) (p:= .int (cnt x l)) rfl (by rw [a1u,if_pos (hV.mem_iff.mp hx)])
   rw [k6,h9,tg,AF];show((gEq (.v (.int (cnt x l))) (.v (.int M))).bind _)=_;rw [a15]
   rfl
 obtain⟨x0,hx0,ex0⟩:=Ae.mp b1
 have hW:∀x,x∈V.filter (λx=>cnt x l==M)↔Cm f L x:=λx=>by
  rw [List.mem_filter,beq_iff_eq,hV.mem_iff];unfold Cm;rw [hll,mU x];refine and_congr_right λhxl=>⟨λe y=> ?_,λh=> ?_⟩
  ·by_cases hy:y∈U
   ·rw [e];exact b2 _ (Ae.mpr ⟨y,hy,rfl⟩)
   ·rw [cnt_none y _ λh=>hy ((mU y).mpr h)];exact b0w x l
  ·have ex0':cnt x0 l=M:=ex0;have h3:=h x0;have h4:=b2 _ (Ae.mpr ⟨x,(mU x).mpr hxl,rfl⟩)
   lia
 have sW:(V.filter λx=>cnt x l==M).Pairwise (· <=·):=sV.filter _
 have w0:x0∈V.filter λx=>cnt x l==M:=List.mem_filter.mpr ⟨hV.mem_iff.mpr hx0,beq_iff_eq.mpr ex0⟩
 generalize hWW:(V.filter λx=>cnt x l==M)=W at e3 hW sW w0
 have ni:=b7K (lkd g L) W
 have hh:hd1 L∈L:=by
  cases L with
  |nil=>simp at h0
  |cons a r=>exact AZ
 obtain⟨⟨c1,c2⟩,c3,c4⟩:=hL _ hh
 have i0:v4 (.v (.list (L.map pl))) (.v (.int 0))=φ (pl (hd1 L)):=by
  refine a1f ?_;cases L with
  |nil=>simp at h0
  |cons a r=>rw [S1 (Int.le_refl 0)];rfl
 have i1:=a0C (n:=n) (f:=g) (i:=(hd1 L).1) c1 c2
 have i2:v4 (.v (row ((AK n).map λc=>g (hd1 L).1.toNat c))) (.v (.int (hd1 L).2))=φ (row [lkd g L]):=a4h (n:=n) (g:=λc=>g (hd1 L).1.toNat c) (j:=(hd1 L).2) c3 c4 (by lia)
 have hM0:∀x,Cm f L x->cnt x l=M:=λx hx=>by
  have:=(hW x).mpr hx;rw [<-hWW] at this;exact beq_iff_eq.mp (List.mem_filter.mp this).2
 have hT':T.length<16777216:=by lia
 by_cases c:lkd g L∈W
 ·rw [decide_eq_true c] at ni
  have hB:a3R f (lkd g L) L (lkd g L):=⟨(hW _).mp c,.inl rfl⟩
  have hc:=hM0 _ hB.1
  rw [b6V hB,hc]
  refine⟨ξ (.ow (.txt (cD l U))),φ (.int M),ξ (.own [row [lkd g L]]),φ (row [lkd g L]),hB, ?_⟩
  have ap:=B7 (i:=3) (m:=T6 (b9 (c7 4) (b9 (m2 v4 (c7 7) (mC (.int 0))) (b9 (c7 6) d9)))) (ρ:=a5v n f g q2 T L (ξ (.ow (.txt (cD l U)))) (φ (.int M)) (ξ (.own [row [lkd g L]])) (φ (row [lkd g L]))) (r:= .v (mr (L,lkd g L,M))) (p:=mr (L,lkd g L,M)) (ps:=T) (by
   have ix:v4 (.bor [row [lkd g L]]) (.v (.int 0))=φ (row [lkd g L]):=a0G (p:=row [lkd g L]) (by rw [S1 (Int.le_refl 0)];rfl)
   unfold a5v;simp! [h9,j7,d4,t8,e9,d6,d0,c9,z0,AF,AT,Ai,↓reduceIte,sz,Nat.reduceAdd,Am,ix]
   rfl) rfl rfl hT'
  unfold E6
  unfold a5v at*
  simp! [V3,V4,h9,o8,j7,d4,t8,e9,d6,d0,c9,A9,i7,i6,o9,g7,i8,l0,V7,k6,n4,AF,AV,AW,AT,Ai,↓reduceIte,sz,Nat.reduceAdd,Am,eh,W8,e1,e2,e3,i0,i1,i2,ni,ap]
 ·rw [decide_eq_false c] at ni
  cases W with
  |nil=>cases w0
  |cons x W=>
   have hB:a3R f (lkd g L) L x:=⟨(hW _).mp AZ,.inr ⟨λz=>c ((hW _).mpr z),λy hy=>by
    rcases AX.mp ((hW y).mpr hy) with rfl|h
    ·exact AM _
    ·exact(List.pairwise_cons.mp sW).1 y h⟩⟩
   have hc:=hM0 _ hB.1
   rw [b6V hB,hc]
   rw [AI] at e3 ni
   refine⟨ξ (.ow (.txt (cD l U))),φ (.int M),ξ (.own (row [x]::W.map λx=>row [x])),φ (row [lkd g L]),hB, ?_⟩
   have ap:=B7 (i:=3) (m:=T6 (b9 (c7 4) (b9 (m2 v4 (c7 7) (mC (.int 0))) (b9 (c7 6) d9)))) (ρ:=a5v n f g q2 T L (ξ (.ow (.txt (cD l U)))) (φ (.int M)) (ξ (.own (row [x]::W.map λx=>row [x]))) (φ (row [lkd g L]))) (r:= .v (mr (L,x,M))) (p:=mr (L,x,M)) (ps:=T) (by
    have ix:v4 (.bor (row [x]::W.map λx=>row [x])) (.v (.int 0))=φ (row [x]):=a0G (p:=row [x]) (by rw [S1 (Int.le_refl 0)];rfl)
    unfold a5v;simp! [h9,j7,d4,t8,e9,d6,d0,c9,z0,AF,AT,Ai,↓reduceIte,sz,Nat.reduceAdd,Am,ix]
    rfl) rfl rfl hT'
   unfold E6
   unfold a5v at*
   simp! [V3,V4,h9,o8,j7,d4,t8,e9,d6,d0,c9,i7,i6,o9,g7,i8,l0,G0,m4,k6,n4,AF,AV,AW,eh,W8,e1,e2,e3,i0,i1,i2,ni,ap]
theorem b1W{n:Nat}(hn8:n<=8)(f g:Nat->Nat->Nat){q2:Υ g5}:∀(m:List (List Pt)) (T:List PV) (q4 q5 q6 q7 q8:Υ g5),(∀L∈m,L.length<64/\0<L.length/\∀q∈L,V8 n q)->T.length+m.length<1000->
 (∀L∈m,a3R f (lkd g L) L (bxx f g L))/\∃q4' q5' q6' q7' q8',x8 E6 (g6 4) (v6 m) [φ (i9 n f),φ (i9 n g),q2,ξ (.own T),q4,q5,q6,q7,q8]=ξ (.nx [φ (i9 n f),φ (i9 n g),q2,ξ (.own (T++(m.map (a2W f (bxx f g))).map mr)),q4',q5',q6',q7',q8'])
 |[],T,q4,q5,q6,q7,q8,_,_=>⟨λL h=>(nomatch h),q4,q5,q6,q7,q8,by rw [Ab,Ab,An];rfl⟩
 |L::m,T,q4,q5,q6,q7,q8,h,hl=>by
  rw [AT] at hl;obtain⟨h1,h2,h3⟩:=h L AZ;obtain⟨a5,a6,a7,a8,hB,e⟩:=b9Y hn8 f g h1 h2 h3 (q2:=q2) (T:=T) (by lia) q5 q6 q7 q8
  obtain⟨hB',b4,b5,b6,b7,b8,e'⟩:=b1W hn8 f g (q2:=q2) m (T++[mr (a2W f (bxx f g) L)]) (φ (.list (L.map pl))) a5 a6 a7 a8 (λA hA=>h A (Ag _ hA)) (by rw [Ar,List.length_singleton];lia)
  refine⟨λA hA=> ?_,b4,b5,b6,b7,b8, ?_⟩
  ·rcases AX.mp hA with rfl|hA
   ·exact hB
   ·exact hB' A hA
  ·show x8 E6 (g6 4) (.list (L.map pl)::v6 m) _=_;rw [x8];show(E6 (a5v n f g q2 T L q5 q6 q7 q8)).bind _=_;rw [e,AF];rw [List.append_assoc] at e';exact e'
theorem c1X{n:Nat}(hn:0<n)(hn7:n<=7){ms:List Tr}(hms:∀x∈ms,x.1∈t7)(f g:Nat->Nat->Nat):∃m,LN n ms m/\m.Pairwise RL/\(∀q,V8 n q->∃L∈m,q∈L)/\(∀L∈m,a3R f (lkd g L) L (bxx f g L))/\a3j [i9 n f,i9 n g,.list (G1 ms)]=ξ (.own ((m.map (a2W f (bxx f g))).map mr)):=by
 have hnn:n*n<=7*7:=Nat.mul_le_mul hn7 hn7;obtain⟨m,hm,ho,hc,hl,e⟩:=b18 hn hn7 hms;obtain⟨hB,q4,q5,q6,q7,q8,el⟩:=b1W (n:=n) (by lia) f g (q2:=φ (.list (G1 ms))) m [] ζ ζ ζ ζ ζ (λL hL=>by
  obtain⟨h1,h2,h3⟩:=hm.len hn hms hL;exact⟨by lia,h3,h2⟩) (by simp;lia)
 refine⟨m,hm,ho,hc,hB, ?_⟩;rw [Ad] at el;have hit:PyData.items? (.list (v6 m))=ξ (v6 m):=rfl;unfold a3j a9n;simp! [o8,d4,e9,d6,d0,c9,E3,A9,i7,i6,M0,g7,i8,j9,l9,n0,AF,AI,Ab,Ah,Aa,Af,Ad,AV,AW,Ai,↓reduceIte,x9,a1J,a1K,sz,Am,E9,e,hit,el]
theorem c08(n:Nat)(f g:Nat->Nat->Nat):uf n f g=uf n g f:=by
 funext k
 unfold uf
 by_cases c:f (k / n) (k % n)=g (k / n) (k % n)
 ·rw [if_pos c,if_pos c.symm]
 ·rw [if_neg c,if_neg (λe=>c e.symm)]
theorem b9D(n:Nat)(f g:Nat->Nat->Nat)(k:Nat):Uk n f g k=Uk n g f k:=by unfold Uk;rw [c08]
theorem c2Z(L:List Pt)(k:Nat):w4 (L.map pl) (k+3)=true:=a4F λp hp=>by
 obtain⟨q,_,rfl⟩:=Ae.mp hp
 rfl
theorem c33(t:Rec):n8 (mr t) 49=true:=by
 show w4 [.list (t.1.map pl),row [t.2.1],.int t.2.2] 48=true;refine a4F λp hp=> ?_;simp only [AX,List.not_mem_nil,or_false] at hp;rcases hp with rfl|rfl|rfl
 ·exact c2Z t.1 44
 ·rfl
 ·rfl
theorem c0Q(R:List Rec):n8 (.list (R.map mr)) 50=true:=by
 show w4 (R.map mr) 49=true;exact a4F λp hp=>by
  obtain⟨t,_,rfl⟩:=Ae.mp hp;exact c33 t
theorem b0j(k:Int):a0I [.int k]=φ (.bool true):=rfl
theorem b52{R:List Rec}(hs:∀t∈R,t.1.length<=64)(c:PV):a0H [.list (R.map mr),c,.list (R.map mr)]=φ (.bool true):=by
 have ne:=V5 (c0Q R);obtain⟨ρ1,e1,q3,rfl⟩:=z5 (body:=Q3) (tg:=g6 3) (λ_ ρ=>∃q3,ρ=[φ (.list (R.map mr)),φ c,φ (.list (R.map mr)),q3])
  (ps:=R.map mr) (ρ:=[φ (.list (R.map mr)),φ c,φ (.list (R.map mr)),ζ])
  (by
   rintro i p hp ρ ⟨q3,rfl⟩;obtain⟨t,ht,rfl⟩:=Ae.mp (BE hp);have i0:v4 (.v (mr t)) (.v (.int 0))=φ (.list (t.1.map pl)):=rfl;have i1:v4 (.v (mr t)) (.v (.int 1))=φ (row [t.2.1]):=rfl;have i2:v4 (.v (mr t)) (.v (.int 2))=φ (.int t.2.2):=rfl;have k0:X7 "tuple" (mr t)=true:=rfl;have nf:isFn (mr t)=false:=rfl;have k1:X7 "list" (.list (t.1.map pl))=true:=rfl;have k2:X7 "str" (row [t.2.1])=true:=rfl;have cm:=L3 (ι:=pl) (f:=pl) (q:=λ_=>false) (k:=1) (it:=Q5 (m2 v4 (c7 3) (mC (.int 0)))) (elt:=a2P) (tg:=g6 4) (c:=W5 (mtV (m1 (a4H "tuple") (c7 4))))
    (ρ:=[φ (.list (R.map mr)),φ c,φ (.list (R.map mr)),φ (mr t)]) t.1 (a0M (r:= .v (.list (t.1.map pl))) (by simp! [h9,j7,d4,e9,AF,i0]) rfl) (by have:=hs t ht;lia) λq hq=>⟨_,rfl,rfl,λh=>nomatch h⟩
   rw [List.filter_eq_nil_iff.mpr (by simp),Ab] at cm
   have ne0:gNe (.own []) (.own [])=φ (.bool false):=rfl;refine V0 rfl (ρ2:=[φ (.list (R.map mr)),φ c,φ (.list (R.map mr)),φ (mr t)]) ?_ ⟨_,rfl⟩;show Q3 [φ (.list (R.map mr)),φ c,φ (.list (R.map mr)),φ (mr t)]=_;unfold Q3;simp! [h9,o8,j7,d4,e9,d6,d0,c9,A9,i7,g7,i8,l0,G0,m4,Q6,k6,n4,a29,D8,a2S,b2n,a7I,AF,BB,Ai,↓reduceIte,Bool.not_true,sz,Am,b7N,a7R,b6U,i0,i1,i2,nf,k0,k1,k2,b0j,cm,ne0]) ⟨ζ,rfl⟩
 have kl:X7 "list" (.list (R.map mr))=true:=rfl;have hit:PyData.items? (.list (R.map mr))=ξ (R.map mr):=rfl;unfold a0H a6d;simp! [h9,o8,j7,d4,e9,c9,k9,v8,g7,i8,l0,G0,m4,j9,l9,Q6,k6,n4,a29,D8,a2S,b2n,a7I,n0,AF,BB,AI,Ab,Ah,Aa,Af,Ad,Bool.not_true,x9,a7R,b6U,kl,ne,hit,e1]
theorem a6O(n:Nat)(f:Nat->Nat->Nat):n8 (i9 n f) 50=true:=by
 unfold i9 a6g;simp only [n8];refine a4F λp hp=> ?_;obtain⟨a,_,rfl⟩:=Ae.mp hp
 rfl
theorem c3K(n:Nat)(f g:Nat->Nat->Nat)(k:Nat):n8 (.list (Uk n f g k)) 50=true:=by
 show w4 (Uk n f g k) 49=true;exact a41 λp hp=>by
  obtain⟨a,b,rfl⟩:=c1H hp
  rfl
theorem b0f{q0 q1 q2 q3 q5 q7 q9:Υ g5}{y:Nat}:∀(L:List Pt) (D:Γ) (q8:Υ g5),D.length+L.length<=1000000->∃D' q8',(∀q,p7 D' (kp q)=if q∈L then ξ (row [y]) else p7 D (kp q))/\D'.length<=D.length+L.length/\
 x8 A7 (g6 8) (L.map pl) [q0,q1,q2,q3,ξ (.ow (.dct D)),q5,φ (row [y]),q7,q8,q9]=ξ (.nx [q0,q1,q2,q3,ξ (.ow (.dct D')),q5,φ (row [y]),q7,q8',q9])
 |[],D,q8,_=>⟨D,q8,λq=>by simp,AM _,rfl⟩
 |p::L,D,q8,hl=>by
  have hp:=W6 D (kp p) (row [y]);rw [AT] at hl;obtain⟨D',q8',h1,h2,h3⟩:=b0f (q0:=q0) (q1:=q1) (q2:=q2) (q3:=q3) (q5:=q5) (q7:=q7) (q9:=q9) (y:=y) L (G2 D (kp p) (row [y])) (φ (pl p)) (by lia)
  refine⟨D',q8',λq=> ?_,by rw [AT];lia, ?_⟩
  ·rw [h1 q,a1p]
   by_cases e:q∈L
   ·rw [if_pos e,if_pos (Ag _ e)]
   ·rw [if_neg e]
    by_cases e2:p=q
    ·rw [if_pos (by rw [e2]),if_pos (by rw [e2];exact AZ)]
    ·rw [if_neg (λz=>e2 (b7V z)),if_neg (λz=>by
      rcases AX.mp z with z|z
      ·exact e2 z.symm
      ·exact e z)]
  ·have hb:A7 [q0,q1,q2,q3,ξ (.ow (.dct D)),q5,φ (row [y]),q7,φ (pl p),q9]=ξ (.nx [q0,q1,q2,q3,ξ (.ow (.dct (G2 D (kp p) (row [y])))),q5,φ (row [y]),q7,φ (pl p),q9]):=by
    unfold A7;simp! [d4,e9,c9,AF,E5,J4];rw [P6 rfl (by lia)]
    rfl
   rw [AI,x8];show(A7 [q0,q1,q2,q3,ξ (.ow (.dct D)),q5,φ (row [y]),q7,φ (pl p),q9]).bind _=_;rw [hb,AF];exact h3
theorem a6C{q0 q1 q2 q3 q9:Υ g5}{col:Pt->Nat}:∀(T:List Rec) (D:Γ) (q5 q6 q7 q8:Υ g5),(∀t∈T,∀q∈t.1,col q=t.2.1)->(∀t∈T,t.1.length<=64)->D.length+64*T.length<=100000->∃D' q5' q6' q7' q8',(∀q,(∃t∈T,q∈t.1)\/p7 D (kp q)=ξ (row [col q])->p7 D' (kp q)=ξ (row [col q]))/\
 x8 A8 (R7 [5,6,7]) (T.map mr) [q0,q1,q2,q3,ξ (.ow (.dct D)),q5,q6,q7,q8,q9]=ξ (.nx [q0,q1,q2,q3,ξ (.ow (.dct D')),q5',q6',q7',q8',q9])
 |[],D,q5,q6,q7,q8,_,_,_=>⟨D,q5,q6,q7,q8,λq h=>h.elim (λ⟨t,ht,_⟩=>nomatch ht) id,rfl⟩
 |t::T,D,q5,q6,q7,q8,hc,hs,hl=>by
  have hs1:=hs t AZ;rw [AT] at hl;obtain⟨D1,q81,a1,a2,a3⟩:=b0f (q0:=q0) (q1:=q1) (q2:=q2) (q3:=q3) (q5:=φ (.list (t.1.map pl))) (q7:=φ (.int t.2.2)) (q9:=q9) (y:=t.2.1) t.1 D q8 (by lia)
  obtain⟨D',q5',q6',q7',q8',b1,b2⟩:=a6C (q0:=q0) (q1:=q1) (q2:=q2) (q3:=q3) (q9:=q9) (col:=col) T D1 (φ (.list (t.1.map pl))) (φ (row [t.2.1])) (φ (.int t.2.2)) q81 (λt' ht'=>hc t' (Ag _ ht')) (λt' ht'=>hs t' (Ag _ ht')) (by lia)
  refine⟨D',q5',q6',q7',q8',λq h=>b1 q ?_, ?_⟩
  ·by_cases hq:q∈t.1
   ·right
    rw [a1 q,if_pos hq,hc t AZ q hq]
   ·rcases h with⟨t',ht',h⟩|h
    ·rcases AX.mp ht' with rfl|ht'
     ·exact absurd h hq
     ·exact .inl ⟨t',ht',h⟩
    ·right
     rw [a1 q,if_neg hq];exact h
  ·have hit:PyData.items? (.list (t.1.map pl))=ξ (t.1.map pl):=rfl;have z:∀nn:MS,a2b 5 nn [q0,q1,q2,q3,ξ (.ow (.dct D)),φ (.list (t.1.map pl)),φ (row [t.2.1]),φ (.int t.2.2),q8,q9]=nn [q0,q1,q2,q3,ξ (.ow (.dct D)),φ (.list (t.1.map pl)),φ (row [t.2.1]),φ (.int t.2.2),q8,q9]:=λ_=>rfl;have hb:A8 [q0,q1,q2,q3,ξ (.ow (.dct D)),φ (.list (t.1.map pl)),φ (row [t.2.1]),φ (.int t.2.2),q8,q9]=ξ (.nx [q0,q1,q2,q3,ξ (.ow (.dct D1)),φ (.list (t.1.map pl)),φ (row [t.2.1]),φ (.int t.2.2),q81,q9]):=by
    unfold A8;rw [z];simp! [d4,e9,c9,n0,AF,x9,hit,a3]
   rw [AI,x8];show(A8 [q0,q1,q2,q3,ξ (.ow (.dct D)),φ (.list (t.1.map pl)),φ (row [t.2.1]),φ (.int t.2.2),q8,q9]).bind _=_;rw [hb,AF];exact b2
theorem c01{n:Nat}(hn:0<n)(hn8:n<=8)(f:Nat->Nat->Nat){col:Pt->Nat}{R:List Rec}(hc:∀t∈R,∀q∈t.1,col q=t.2.1)(hs:∀t∈R,t.1.length<=64)(hR:R.length<=64)(all:∀q,V8 n q->∃t∈R,q∈t.1):
 F8 [.tuple [i9 n λr c=>col ((r:Int),(c:Int)),.list (Uk n f (λr c=>col ((r:Int),(c:Int))) (n*n)),.list (R.map mr)],i9 n f,.list (R.map mr)]=φ (.bool true):=by
 have hnn:n*n<=8*8:=Nat.mul_le_mul hn8 hn8
 obtain⟨g,hg⟩:∃g:Nat->Nat->Nat,g=λ(r c:Nat)=>col ((r:Int),(c:Int)):=⟨_,rfl⟩
 rw [<-hg]
 obtain⟨X,hX⟩:∃X:PV,X= .tuple [i9 n g,.list (Uk n f g (n*n)),.list (R.map mr)]:=⟨_,rfl⟩
 have i0:v4 (.v X) (.v (.int 0))=φ (i9 n g):=by rw [hX];rfl
 have i1:v4 (.v X) (.v (.int 1))=φ (.list (Uk n f g (n*n))):=by rw [hX];rfl
 have i2:v4 (.v X) (.v (.int 2))=φ (.list (R.map mr)):=by rw [hX];rfl
 have kT:X7 "tuple" X=true:=by rw [hX];rfl
 have nf:isFn X=false:=by rw [hX];rfl
 have l3:z9 (.v X)=φ (.int 3):=by rw [hX];rfl
 have pk:=b52 hs (i9 n f)
 obtain⟨D,a5,a6,a7,a8,hD,e1⟩:=a6C (q0:=φ X) (q1:=φ (i9 n f)) (q2:=φ (.list (R.map mr))) (q3:=φ (.int n)) (q9:=ζ) (col:=col) R [] ζ ζ ζ ζ hc hs (by simp;lia)
 have hv:∀r c:Nat,r<n->c<n->p7 D [.inl (r:Nat),.inl (c:Nat)]=ξ (row [g r c]):=λr c hr hc'=>by
  rw [hg];exact hD ((r:Int),(c:Int)) (.inl (all _ ⟨⟨by show(0:Int)<=(r:Int);lia,by show(r:Int)<n;lia⟩,by show(0:Int)<=(c:Int);lia,by show(c:Int)<n;lia⟩))
 have cm1:C4 1 (u9 (b9 (c7 3) d9)) (g6 10) L8 N9 [φ X,φ (i9 n f),φ (.list (R.map mr)),φ (.int n),ξ (.ow (.dct D)),a5,a6,a7,a8,ζ]=ξ (.own ((AK n).map λr=>row ((AK n).map λc=>g r c))):=by
  refine G6 (ι:=λk:Nat=>PyData.int (k:Int)) (f:=λr:Nat=>row ((AK n).map λ(c:Nat)=>g r c)) (AK n) (T5 (n:=n) rfl (by lia)) (by rw [Av];lia) ?_
  intro r hr;have hr:=List.mem_range.mp hr;refine⟨_,rfl, ?_⟩;unfold N9
  ext z
  ·simp! [c9,AF,show AR ""=S [] from rfl,a1F (k:=n) (by lia)]
  ·intro c hc;have hc:=List.mem_range.mp hc;refine⟨_,rfl, ?_⟩;unfold a0l;rw [b0Y (p:=row [g r c]) (by simp! [d4,e9,d6,d0,c9,AF,Ah,Aa,Af,Ad,AV,AW]) rfl (hv r c hr hc)]
   rfl
 have ct:X6 (.own ((AK n).map λr=>row ((AK n).map λc=>g r c)))=φ (i9 n g):=by
  simp! [a1G];unfold i9 a6g;rw [Au]
  rfl
 have rl:u9 (b9 (m2 R6 (c7 3) (c7 3)) d9) [φ X,φ (i9 n f),φ (.list (R.map mr)),φ (.int n),ξ (.ow (.dct D)),a5,a6,a7,a8,φ (i9 n g)]=ξ ((AK (n*n)).map λ(k:Nat)=>PyData.int (k:Int)):=by
  rw [<-a47];have:(n:Int)*(n:Int)=((n*n:Nat):Int):=by rw [Int.natCast_mul]
  simp! [U5,h9,d4,e9,d6,d0,c9,r9,y3,AF,this]
 have cm:=L3 (ι:=λ(k:Nat)=>PyData.int (k:Int)) (f:=λk=> .tuple [.int ((k / n:Nat):Int),.int ((k % n:Nat):Int)]) (q:=λk=> !decide (g (k / n) (k % n)=f (k / n) (k % n))) (k:=1)
  (it:=u9 (b9 (m2 R6 (c7 3) (c7 3)) d9)) (elt:=O0) (tg:=g6 10)
  (c:=W4 (m2 gNe (m2 v4 (m2 v4 (c7 9) (m2 Ω (c7 10) (c7 3))) (m2 Θ (c7 10) (c7 3))) (m2 v4 (m2 v4 (c7 1) (m2 Ω (c7 10) (c7 3))) (m2 Θ (c7 10) (c7 3)))))
  (ρ:=[φ X,φ (i9 n f),φ (.list (R.map mr)),φ (.int n),ξ (.ow (.dct D)),a5,a6,a7,a8,φ (i9 n g)]) (AK (n*n)) rl (by rw [Av];lia) λk hk=>by
  have hk':=List.mem_range.mp hk
  have d1:k / n<n:=Nat.div_lt_of_lt_mul hk'
  have d2:k % n<n:=Nat.mod_lt _ hn
  have e1:(k:Int)/(n:Int)=((k / n:Nat):Int):=(Int.natCast_ediv k n).symm
  have e2:(k:Int) %(n:Int)=((k % n:Nat):Int):=(Int.natCast_emod k n).symm
  refine⟨_,rfl, ?_,λ_=> ?_⟩
  ·have i1:=a0C (n:=n) (f:=g) (i:=((k / n:Nat):Int)) (Int.natCast_nonneg _) (Int.ofNat_lt.mpr d1)
   have i2:=a0C (n:=n) (f:=f) (i:=((k / n:Nat):Int)) (Int.natCast_nonneg _) (Int.ofNat_lt.mpr d1)
   have j1:=a4h (n:=n) (g:=λc=>g (k / n) c) (j:=((k % n:Nat):Int)) (Int.natCast_nonneg _) (Int.ofNat_lt.mpr d2) (by lia)
   have j2:=a4h (n:=n) (g:=λc=>f (k / n) c) (j:=((k % n:Nat):Int)) (Int.natCast_nonneg _) (Int.ofNat_lt.mpr d2) (by lia)
   rw [tn] at i1 i2 j1 j2
   show W4 _ [φ X,φ (i9 n f),φ (.list (R.map mr)),φ (.int n),ξ (.ow (.dct D)),a5,a6,a7,a8,φ (i9 n g),φ (.int (k:Int))]=_
   simp! [t5,P9,h9,d4,e9,k6,n4,AF,e1,e2,i1,i2,j1,j2,a6T,b1J]
  ·unfold O0
   have dm:Z1 (.v (.int (k:Int))) (.v (.int (n:Int)))=φ (.tuple [.int ((k / n:Nat):Int),.int ((k % n:Nat):Int)]):=by
    rw [<-e1,<-e2];unfold Z1;simp
    lia
   show(m2 Z1 (c7 10) (c7 3) [φ X,φ (i9 n f),φ (.list (R.map mr)),φ (.int n),ξ (.ow (.dct D)),a5,a6,a7,a8,φ (i9 n g),φ (.int (k:Int))]).bind g5.toVal=_
   simp! [h9,d4,e9,c9,AF,dm]
 have eU:((AK (n*n)).filter λk=> !decide (g (k / n) (k % n)=f (k / n) (k % n))).map (λk=>PyData.tuple [.int ((k / n:Nat):Int),.int ((k % n:Nat):Int)])=Uk n g f (n*n):=by
  unfold Uk;generalize AK (n*n)=l
  induction l with
  |nil=>rfl
  |cons a r ih=>
   rw [List.filter_cons,List.filterMap_cons]
   by_cases c:g (a / n) (a % n)=f (a / n) (a % n)
   ·rw [if_neg (by simp [c])]
    have:uf n g f a=ζ:=by unfold uf;rw [if_pos c]
    rw [this];exact ih
   ·rw [if_pos (by simp [c]),AI,ih]
    have:uf n g f a=ξ (.tuple [.int ((a / n:Nat):Int),.int ((a % n:Nat):Int)]):=by unfold uf;rw [if_neg c]
    rw [this]
 rw [eU,b9D] at cm
 have ne1:=V5 (a6O n g)
 have okU:=c3K n f g (n*n)
 have eq1:gEq (.v (.list (Uk n f g (n*n)))) (.bo (.lst (Uk n f g (n*n))))=φ (.bool true):=by
  have h:=V5 okU;rw [c2c (x:= .v (.list (Uk n f g (n*n)))) (y:= .bo (.lst (Uk n f g (n*n)))) ⟨okU,okU⟩];rw [a5z (x:= .v (.list (Uk n f g (n*n)))) (y:= .v (.list (Uk n f g (n*n)))) ⟨okU,okU⟩] at h;have h:=Option.some.inj h;injection h with h
  injection h with h
  show ξ (g5.v (.bool (η (.list (Uk n f g (n*n))) (.list (Uk n f g (n*n))))))=_;have h':η (.list (Uk n f g (n*n))) (.list (Uk n f g (n*n)))=true:=by
   cases hh:η (.list (Uk n f g (n*n))) (.list (Uk n f g (n*n))) with
   |true=>rfl
   |false=>
    have h:(!η (.list (Uk n f g (n*n))) (.list (Uk n f g (n*n))))=false:=h;rw [hh] at h;cases h
  rw [h']
 have kc:X7 "tuple" (i9 n g)=true:=rfl
 have nc:isFn (i9 n g)=false:=by unfold i9 a6g;cases n with
  |zero=>lia
  |succ n=>rfl
 have kU:X7 "list" (.list (Uk n f g (n*n)))=true:=rfl
 have hit:PyData.items? (.list (R.map mr))=ξ (R.map mr):=rfl
 show F8 [.tuple [i9 n g,.list (Uk n f g (n*n)),.list (R.map mr)],i9 n f,.list (R.map mr)]=_
 rw [<-hX]
 unfold F8 a11
 simp! [h9,o8,j7,d4,t8,e9,d6,d0,c9,i7,i6,o9,k9,v8,g7,i8,l0,G0,m4,j9,l9,Q6,k6,n4,a29,D8,a2S,b2n,b2b,b6N,a7I,n0,AF,BB,AI,Ab,Ah,Aa,Af,Ad,AV,AW,Bool.not_true,x9,beq_self_eq_true,c3T,a7R,b6U,E9,kT,nf,l3,i0,i1,i2,pk,a0a,W8,hit,e1,cm1,ct,cm,kc,nc,ne1,kU,eq1]
theorem b02{n:Nat}(hn:0<n)(hn8:n<=8)(N:Int):∃w∈t7,∃d t:Nat,d<n/\t<n/\K3 [.int n,.int N]=φ (T3 w (d:Nat) (t:Nat)):=by
 have hl:=b1D t7 n;have e8:t7.length=8:=rfl;have hp:0<n*n:=Nat.mul_pos hn hn;have ec:(8:Int)*n*n=((a0w t7 n).length:Int):=by
  rw [hl,e8,Int.natCast_mul,Int.natCast_mul,Int.mul_assoc]
  rfl
 have hpl:0<(a0w t7 n).length:=by rw [hl,e8];lia
 have h0:0<=N %((a0w t7 n).length:Int):=Int.emod_nonneg _ (by lia)
 have h1:N %((a0w t7 n).length:Int)<(a0w t7 n).length:=Int.emod_lt_of_pos _ (by lia)
 have hk:(N %((a0w t7 n).length:Int)).toNat<(a0w t7 n).length:=by lia
 obtain⟨w,hw,d,t,hd,ht,e⟩:=b8m.mp (List.getElem_mem hk);have ix:v4 (.ow (.lst (a0w t7 n))) (.v (.int (N %((a0w t7 n).length:Int))))=φ (T3 w (d:Nat) (t:Nat)):=by
  refine c0b (p:=T3 w (d:Nat) (t:Nat)) ?_;rw [S1 h0,Ax hk,e]
 have hpos:0<(8:Int)*n*n:=by rw [ec];lia
 refine⟨w,hw,d,t,hd,ht, ?_⟩;unfold K3 a2p;simp! [U5,t5,h9,j7,d4,e9,d6,d0,c9,i7,k9,j9,AF,AI,Ab,Aa,An,b9G hn8];rw [ec];simp! [v8,l9,AF,ix]
theorem a9y{ns:List Int}{k:Int}(h0:0<=k):∃c:Int,N1 [.list (ns.map .int),.int k]=φ (.int c):=by
 unfold N1 a3D
 by_cases h:k<ns.length
 ·have hk:k.toNat<ns.length:=by lia
  have e:L2.atI (ns.map PyData.int) k=ξ (.int ns[k.toNat]):=by
   rw [S1 h0,Ak,Ax hk];rfl
  refine⟨ns[k.toNat], ?_⟩;simp! [a5y,S4,h9,o8,d4,e9,g7,l0,j9,k6,n4,AF,AI,Ab,Aa,An,AN,a1f e];simp only [h,decide_true];simp! [h9,d4,e9,k9,v8,a5e,V7,l9,AF,a1f e]
 ·refine⟨0, ?_⟩;simp! [a5y,S4,h9,o8,d4,e9,g7,l0,j9,k6,n4,AF,AI,Ab,Aa,An,AN];simp only [h,decide_false];simp! [j7,k9,v8,i8,G0,m4,l9,AF]
theorem c0W(cs:List Int)(lo hi:Υ Int):gSl (.v (.list (cs.map .int))) lo hi=ξ (.own ((cut cs lo hi).map .int)):=by
 show ξ _=_;rw [show cut (cs.map PyData.int) lo hi=(cut cs lo hi).map PyData.int by unfold cut;rw [AN,List.map_take,List.map_drop]]
abbrev mT(x:Tr):PV:=T3 x.1 (x.2.1:Nat) (x.2.2:Nat)
theorem c1T{cs:List Int}{k:Nat}(h:k<cs.length):0<(cut cs (ξ (k:Int)) ζ).length:=by
 unfold cut;rw [HT.sIx_nat,HT.sIx_none,List.length_take,List.length_drop]
 lia
theorem b5T{n:Nat}(hn:0<n)(hn8:n<=8)(f:Nat->Nat->Nat){w:Str}(hw:w∈t7)(d t:Int):∃(D:Γ) (q4 q5:Υ g5),(∀a b:Nat,a<n->b<n->p7 D [.inl (lr n w d t a b),.inl (lc n w d t a b)]=ξ (row [f a b]))/\x8 Q2 (g6 4) (J9 0 n) [φ (i9 n f),φ (T3 w d t),φ (.int n),ξ (.ow (.dct [])),ζ,ζ]=ξ (.nx [φ (i9 n f),φ (T3 w d t),φ (.int n),ξ (.ow (.dct D)),q4,q5]):=by
 have inj:∀a b x y:Nat,a<n->b<n->x<n->y<n->lr n w d t a b=lr n w d t x y->lc n w d t a b=lc n w d t x y->a=x/\b=y:=by
  intro a b x y ha hb hx hy h1 h2;have g1:=a2q (n:=(n:Int)) (by lia) hw d t (a:=a) (b:=b) (by lia) (by lia)
  have g2:=a2q (n:=(n:Int)) (by lia) hw d t (a:=x) (b:=y) (by lia) (by lia)
  rw [h1,h2,g2.1,g2.2] at g1
  lia
 obtain⟨ρ1,e1,D,hl,hD,q4,q5,rfl⟩:=z5 (body:=Q2) (tg:=g6 4) (λi ρ=>∃D:Γ,D.length<=8*i/\(∀a b:Nat,a<i->b<n->p7 D [.inl (lr n w d t a b),.inl (lc n w d t a b)]=ξ (row [f a b]))/\∃q4 q5:Υ g5,ρ=[φ (i9 n f),φ (T3 w d t),φ (.int n),ξ (.ow (.dct D)),q4,q5])
  (ps:=J9 0 n) (ρ:=[φ (i9 n f),φ (T3 w d t),φ (.int n),ξ (.ow (.dct [])),ζ,ζ])
  (by
   rintro i p hp ρ ⟨D,hl,hD,q4,q5,rfl⟩
   ext j
   rw [hi'] at hi ⊢;obtain⟨ρ2,e2,D2,hl2,hD2,hD3,q5',rfl⟩:=z5 (body:=a0k) (tg:=g6 5) (λj ρ=>∃D2:Γ,D2.length<=8*i+j/\(∀a b:Nat,a<i->b<n->p7 D2 [.inl (lr n w d t a b),.inl (lc n w d t a b)]=ξ (row [f a b]))/\(∀b:Nat,b<j->p7 D2 [.inl (lr n w d t i b),.inl (lc n w d t i b)]=ξ (row [f i b]))/\∃q5:Υ g5,ρ=[φ (i9 n f),φ (T3 w d t),φ (.int n),ξ (.ow (.dct D2)),φ (.int (i:Nat)),q5])
    (ps:=J9 0 n) (ρ:=[φ (i9 n f),φ (T3 w d t),φ (.int n),ξ (.ow (.dct D)),φ (.int (i:Nat)),q5])
    (by
     rintro j p hp ρ ⟨D2,hl2,hD2,hD3,q5,rfl⟩
     ext r
     rw [hj'] at hj ⊢;have hpl:=W6 D2 [.inl (lr n w d t i j),.inl (lc n w d t i j)] (row [f i j]);refine V0 rfl (ρ2:=[φ (i9 n f),φ (T3 w d t),φ (.int n),ξ (.ow (.dct (G2 D2 [.inl (lr n w d t i j),.inl (lc n w d t i j)] (row [f i j])))),φ (.int (i:Nat)),φ (.int (j:Nat))]) ?_ ⟨_,by lia,λa b ha hb=> ?_,λb hb=> ?_,_,rfl⟩
     ·unfold a0k;simp! [h9,d4,e9,d6,d0,c9,z0,i7,AF,AV,AW,AT,Ai,↓reduceIte,sz,Nat.reduceAdd,Am,E5,b4C hw (n:=(n:Int)) (by lia),J4,a0C (n:=n) (f:=f) (i:=((i:Nat):Int)) (by lia) (by lia),a4h (n:=n) (g:=λc=>f i c) (j:=((j:Nat):Int)) (by lia) (by lia) (by lia),tn]
      rw [P6 rfl (by lia)]
      rfl
     ·rw [a1p];split
      ·rename_i h;injection h with h1 h2
       injection h2 with h2 _
       have:=inj i j a b (by lia) (by lia) (by lia) hb (Sum.inl.inj h1) (Sum.inl.inj h2)
       lia
      ·exact hD2 a b ha hb
     ·rw [a1p];split
      ·rename_i h;injection h with h1 h2
       injection h2 with h2 _
       have:=inj i j i b (by lia) (by lia) (by lia) (by lia) (Sum.inl.inj h1) (Sum.inl.inj h2)
       rw [this.2]
      ·rename_i h
       by_cases hbj:b<j
       ·exact hD3 b hbj
       ·have:b=j:=by lia
        exact absurd (by rw [this]) h) ⟨D,by lia,hD,λb h=>by lia,q5,rfl⟩
   rw [Q9] at hD3 hl2;apply V0 rfl
   ·unfold Q2;simp! [d4,e9,d6,d0,c9,n0,r9,y3,AF,AV,AW];exact e2
   ·refine⟨D2,by lia,λa b ha hb=> ?_,_,_,rfl⟩
    by_cases h:a<i
    ·exact hD2 a b h hb
    ·have:a=i:=by lia
     rw [this];exact hD3 b (by lia)) ⟨[],by simp,λa b h=>by lia,ζ,ζ,rfl⟩
 rw [Q9] at hD;exact⟨D,q4,q5,λa b ha hb=>hD a b (by lia) hb,e1⟩
theorem b57{n:Nat}(hn:0<n)(hn8:n<=8)(f:Nat->Nat->Nat){w:Str}(hw:w∈t7)(d t:Int):V6 [i9 n f,T3 w d t]=φ (i9 n (mvd n f w d t)):=by
 obtain⟨D,q4,q5,hD,e1⟩:=b5T hn hn8 f hw d t;have hv:∀r c:Nat,r<n->c<n->p7 D [.inl (r:Nat),.inl (c:Nat)]=ξ (row [mvd n f w d t r c]):=by
  intro r c hr hc;obtain⟨a,b,ha,hb,e1,e2⟩:=b5W hn hw d t hr hc;have g:=hD a b ha hb;have g3:=c2B hn f hw d t ha hb;rw [e1,e2] at g;rw [e1,e2,tn,tn] at g3;rw [g,g3]
 unfold V6 a6c;simp! [o8,d4,e9,d6,d0,c9,i6,o9,k9,g7,i8,j9,n0,r9,y3,AF,AI,Ab,Ah,Aa,Af,Ad,AV,AW,E9,a0a,W8,e1];rw [G6 (f:=λr:Nat=>row ((AK n).map λ(c:Nat)=>mvd n f w d t r c)) (AK n) (T5 (n:=n) rfl (by lia)) (by rw [Av];lia)]
 ·simp! [v8,l9,AF,a1G];unfold i9 a6g;rw [Au]
  rfl
 ·intro r hr;have hr:=List.mem_range.mp hr;refine⟨_,rfl, ?_⟩;unfold a2O;simp! [h9,j7,AF,Ah,Aa,Af,Ad,AV,AW];rw [G6 (f:=λc:Nat=>row [mvd n f w d t r c]) (AK n) (T5 (n:=n) rfl (by lia)) (by rw [Av];lia)]
  ·simp! [c9,AF,show AR ""=S [] from rfl,a1F (k:=n) (by lia)]
  ·intro c hc;have hc:=List.mem_range.mp hc;refine⟨_,rfl, ?_⟩;unfold a2N;rw [b0Y (p:=row [mvd n f w d t r c]) (by simp! [d4,e9,d6,d0,c9,AF,Ah,Aa,Af,Ad,AV,AW]) rfl (hv r c hr hc)]
   rfl
theorem a6i:∀(R Q:List (List Nat)),θ (R.map row) (Q.map row)=true->R=Q
 |[],[],_=>rfl
 |[],q::Q,h=>by simp [θ] at h
 |r::R,[],h=>by simp [θ] at h
 |r::R,q::Q,h=>by
  rw [AI,AI] at h;simp only [θ,χ] at h;have h1:S r=S q:=by simpa [η] using h.1
  rw [b6I h1,a6i R Q h.2]
theorem b7D{n:Nat}{f g:Nat->Nat->Nat}{b:Bool}(h:b=true↔∀r c:Nat,r<n->c<n->g r c=f r c):gNe (.v (i9 n f)) (.v (i9 n g))=φ (.bool (!b)):=by
 cases b with
 |true=>
  have e:i9 n f=i9 n g:=by
   unfold i9
   congr 1
   refine List.map_congr_left λr hr=>List.map_congr_left λc hc=> ?_;exact(h.mp rfl r c (List.mem_range.mp hr) (List.mem_range.mp hc)).symm
  rw [e];exact V5 (a6O n g)
 |false=>
  rw [a5z (x:= .v (i9 n f)) (y:= .v (i9 n g)) ⟨a6O n f,a6O n g⟩];show ξ (g5.v (.bool (!η (i9 n f) (i9 n g))))=_;cases hh:η (i9 n f) (i9 n g) with
  |false=>rfl
  |true=>
   have hh:θ _ _=true:=hh;have e:=a6i _ _ hh;exact nomatch h.mpr λr c hr hc=>by
    have e1:=List.map_inj_left.mp e r (List.mem_range.mpr hr);exact(List.map_inj_left.mp e1 c (List.mem_range.mpr hc)).symm
theorem b8t{n:Nat}(g:Nat->Nat->Nat)(w:Str)(d t:Int):gNe (.v (i9 n (mvd n g w d t))) (.v (i9 n g))=φ (.bool (!(uaR n g w d t).isNone)):=
 b7D (by rw [Option.isNone_iff_eq_none,b9o])
def bq(p:Tr->Bool)(xs:List Tr)(i:Nat):Bool:=(xs[i]?).any λx=> !p x
theorem b4k(p:Tr->Bool):∀(xs:List Tr) (k:Nat),fb p xs k=(((AK xs.length).filter (bq p xs)).head?).map (· +k)
 |[],k=>rfl
 |x::xs,k=>by
  have hc:bq p (x::xs)∘Nat.succ=bq p xs:=by
   funext i
   rfl
  rw [fb,AT,List.range_succ_eq_map,List.filter_cons,List.filter_map,hc];have h0:bq p (x::xs) 0= !p x:=rfl;rw [h0]
  by_cases c:p x=true
  ·rw [if_pos c,c,if_neg (by simp),b4k p xs (k+1),List.head?_map]
   cases((AK xs.length).filter (bq p xs)).head? with
   |none=>rfl
   |some j=>show ξ (j+(k+1))=ξ (j+1+k);congr 1;lia
  ·rw [if_neg c,if_pos (by simpa using c)]
   show ξ k=ξ (0+k);rw [Nat.zero_add]
section
variable {n:Nat}{f g:Nat->Nat->Nat}{m:Nat}
theorem b6k{p q w:PV}{j:Nat}(h:l8 [p,q,w]=ξ (.inr (nwX j))):C2 [p,q,w]=φ (.int (j:Int)):=by
 have tr:a36 (a3L l8 (b9 (c7 0) (b9 (c7 1) (b9 (c7 2) d9)))) 4 (inL ["NoWish","Unlike"]) (p9 3 (c7 4)) [φ p,φ q,φ w,φ .none,ζ]=ξ (.nx [φ p,φ q,φ w,φ (xcV (nwX j)),ζ]):=by
  rw [a9Z (b03 (ps:=[p,q,w]) (by simp! [d4,e9,d6,d0,c9,AF]) h) (show inL ["NoWish","Unlike"] "NoWish"=true by decide+kernel)]
  rfl
 have i1:a7J [("NoWish",true),("Unlike",true)] (.v (xcV (nwX j)))=φ (.bool true):=by rfl
 have i2:a7J [("NoWish",true),("Unlike",false)] (.v (xcV (nwX j)))=φ (.bool true):=by rfl
 have i3:a7J [("NoWish",false),("Unlike",true)] (.v (xcV (nwX j)))=φ (.bool false):=by rfl
 have i4:gFx ["NoWish"] "place" (.v (xcV (nwX j)))=φ (.int (j:Int)):=by rfl
 have i5:gEq (.v (.bool true)) (.v (.bool false))=φ (.bool false):=by rfl
 unfold C2 a0Y;generalize xcV (nwX j)=X at*;simp! [h9,o8,j7,d4,e9,i6,o9,k9,v8,g7,i8,a5e,l0,V7,G0,m4,j9,l9,Q6,k6,n4,a29,D8,a2S,b2n,AF,BB,AI,Ab,Ah,Aa,Af,Ad,AV,AW,Bool.not_true,tr,i1,i2,i3,i4,i5]
theorem b6l{p q w:PV}(h:l8 [p,q,w]=ξ (.inr ⟨"Unlike",[]⟩)):C2 [p,q,w]=φ (.str "unlike"):=by
 have tr:a36 (a3L l8 (b9 (c7 0) (b9 (c7 1) (b9 (c7 2) d9)))) 4 (inL ["NoWish","Unlike"]) (p9 3 (c7 4)) [φ p,φ q,φ w,φ .none,ζ]=ξ (.nx [φ p,φ q,φ w,φ (xcV ⟨"Unlike",[]⟩),ζ]):=by
  rw [a9Z (b03 (ps:=[p,q,w]) (by simp! [d4,e9,d6,d0,c9,AF]) h) (by decide+kernel)]
  rfl
 have i1:a7J [("NoWish",true),("Unlike",true)] (.v (xcV ⟨"Unlike",[]⟩))=φ (.bool true):=by rfl
 have i2:a7J [("NoWish",true),("Unlike",false)] (.v (xcV ⟨"Unlike",[]⟩))=φ (.bool false):=by rfl
 have i3:a7J [("NoWish",false),("Unlike",true)] (.v (xcV ⟨"Unlike",[]⟩))=φ (.bool true):=by rfl
 have i5:gEq (.v (.bool false)) (.v (.bool true))=φ (.bool false):=by rfl
 unfold C2 a0Y;generalize xcV ⟨"Unlike",[]⟩=X at*;simp! [h9,o8,j7,d4,e9,i6,o9,k9,v8,g7,i8,l0,G0,m4,j9,l9,Q6,k6,n4,a29,D8,a2S,b2n,AF,BB,AI,Ab,Ah,Aa,Af,Ad,AV,AW,Bool.not_true,tr,i1,i2,i3,i5]
end
theorem c0c{n:Nat}(hn:0<n)(hn7:n<=7)(f g:Nat->Nat->Nat){ms:List Tr}(hms:∀x∈ms,x.1∈t7)(hl:ms.length<100)(ls:PV):a0j [i9 n f,i9 n g,.list (G1 ms),ls]=φ (.bool true):=by
 have hnn:n*n<=7*7:=Nat.mul_le_mul hn7 hn7;have gl:z9 (.v (.list (G1 ms)))=φ (.int ms.length):=by
  show ξ _=_;rw [AN]
 have cm:=L3 (k:=1) (it:=u9 (b9 (m1 z9 (c7 2)) d9)) (c:=W4 (m2 gNe (m9 V6 (b9 (c7 1) (b9 (m2 v4 (c7 2) (c7 6)) d9))) (c7 1))) (elt:=a3J) (tg:=g6 6) (ρ:=[φ (i9 n f),φ (i9 n g),φ (.list (G1 ms)),φ ls,ζ,ζ]) (ι:=λ(k:Nat)=>PyData.int (k:Int)) (f:=λ(k:Nat)=>PyData.int (k:Int)) (q:=bq (lvs n g) ms) (AK ms.length)
  (by rw [<-a47];simp! [o8,d4,e9,d6,d0,c9,r9,y3,AF,gl]) (by rw [Av];lia) λk hk=>by
   have hk:=List.mem_range.mp hk;have ix:v4 (.v (.list (G1 ms))) (.v (.int (k:Int)))=φ (T3 ms[k].1 (ms[k].2.1:Nat) (ms[k].2.2:Nat)):=a1f (by rw [b1E,Ak,Ax hk];rfl)
   have mv:=b57 hn (by lia:n<=8) g (hms ms[k] (List.getElem_mem hk)) (ms[k].2.1:Nat) (ms[k].2.2:Nat)
   have hb:bq (lvs n g) ms k= !(lvs n g ms[k]):=by
    unfold bq;rw [Ax hk]
    rfl
   refine⟨[φ (i9 n f),φ (i9 n g),φ (.list (G1 ms)),φ ls,ζ,ζ,φ (.int (k:Int))],rfl, ?_,λ_=>rfl⟩;rw [hb];simp! [h9,d4,e9,d6,d0,c9,i7,k6,n4,AF,ix,mv,b8t]
 have fh:=b4k (lvs n g) ms 0;rcases b6Y hn (by lia:n<=100) g hms with⟨h1,r0,h2⟩|⟨j,h1,h2⟩
 ·have e0:(AK ms.length).filter (bq (lvs n g) ms)=[]:=by
   rw [h1] at fh;cases hf:(AK ms.length).filter (bq (lvs n g) ms) with
   |nil=>rfl
   |cons a r=>rw [hf] at fh;cases fh
  rw [e0,Ab] at cm;obtain⟨m',bx,col,T,em⟩:=b56 hn hn7 hms f g h2;obtain⟨m,hm,ho,hc,hB,ed⟩:=c1X hn hn7 hms f g;have e:m'=m:=c31 hn hms T.ln hm T.all hc T.rl ho;subst e;have er:m'.map (a2W f bx)=m'.map (a2W f (bxx f g)):=List.map_congr_left λL hL=>by
   unfold a2W;rw [(T.bs L hL).1.uniq (hB L hL)]
  have hl':=T.len;have tw:=c01 hn (by lia:n<=8) f (col:=col) (R:=m'.map (a2W f (bxx f g))) (λt ht q hq=>by
   obtain⟨L,hL,rfl⟩:=Ae.mp ht;rw [(T.bs L hL).2 q hq];exact(T.bs L hL).1.uniq (hB L hL)) (λt ht=>by
   obtain⟨L,hL,rfl⟩:=Ae.mp ht;exact(hm.lane L hL).1) (by rw [AN];lia) λq hq=>by
   obtain⟨L,hL,h⟩:=hc q hq;exact⟨_,Ae.mpr ⟨L,hL,rfl⟩,h⟩
  have lf:left l8 [i9 n f,i9 n g,.list (G1 ms)]=φ (c3q n f m' bx col):=by
   unfold left;rw [em]
   rfl
  unfold c3q at lf;rw [er] at lf;have gb:b3e (.v (.list (G1 ms)))=ξ (.own (G1 ms)):=rfl;have ne0:gNe (.bor []) (.own [])=φ (.bool false):=rfl;generalize (m'.map (a2W f (bxx f g))).map mr=R at tw lf ed;unfold a0j a3W;simp! [h9,o8,d4,t8,e9,d6,d0,c9,E3,A9,i7,i6,M0,k9,v8,g7,i8,l0,G0,m4,j9,l9,k6,n4,AF,AI,Ab,Ah,Aa,Af,Ad,AV,AW,Ai,↓reduceIte,sz,Am,cm,ne0,gb,lf,ed,tw]
 ·rw [h1] at fh;cases hf:(AK ms.length).filter (bq (lvs n g) ms) with
  |nil=>rw [hf] at fh;cases fh
  |cons a r=>
   rw [hf] at fh cm;have ea:j=a:=Option.some.inj fh;subst ea;have rf:=b6k (b3S hn hn7 f g h2);have ne0:gNe (.bor ((j::r).map λ(k:Nat)=>PyData.int (k:Int))) (.own [])=φ (.bool true):=by
    have ok:n8 (.list ((j::r).map λ(k:Nat)=>PyData.int (k:Int))) 50=true:=by
     show w4 _ 49=true;exact a41 λp hp=>by
      obtain⟨q,_,rfl⟩:=Ae.mp hp
      rfl
    rw [a5z (x:= .bor ((j::r).map λ(k:Nat)=>PyData.int (k:Int))) (y:= .own []) ⟨ok,rfl⟩]
    rfl
   have ix:v4 (.bor ((j::r).map λ(k:Nat)=>PyData.int (k:Int))) (.v (.int 0))=φ (.int (j:Int)):=a0G (by rw [S1 (Int.le_refl 0)];rfl)
   have eq:gEq (.v (.int (j:Int))) (.v (.int (j:Int)))=φ (.bool true):=by rw [a15];simp
   generalize (j::r).map (λ(k:Nat)=>PyData.int (k:Int))=B at cm ne0 ix;unfold a0j a3W;simp! [h9,j7,d4,t8,e9,d6,d0,c9,A9,i7,i6,o9,M0,k9,v8,g7,i8,a5e,l0,V7,j9,l9,k6,n4,b2b,b6N,AF,AI,Ab,Ah,Aa,Af,Ad,AV,AW,Ai,↓reduceIte,sz,Am,cm,ne0,rf,b0j,ix,eq]
def Rw(D:Γ)(q:Pt):Prop:=∃x:Nat,p7 D (kp q)=ξ (row [x])
theorem Rw.put{D:Γ}(p:Pt)(y:Nat){q:Pt}(h:q=p\/Rw D q):Rw (G2 D (kp p) (row [y])) q:=by
 unfold Rw;rw [a1p]
 by_cases e:kp p=kp q
 ·exact⟨y,by rw [if_pos e]⟩
 ·rw [if_neg e];rcases h with h|h
  ·exact absurd (by rw [h]) e
  ·exact h
abbrev goR(n:Nat)(w:PV)(ls:List Nat)(cell:Int)(D:Γ)(s5 q6 q7:Υ g5):d5:=[φ (.int n),φ w,φ (.list (ls.map λx=>row [x])),φ (.int cell),ξ (.ow (.dct D)),s5,q6,q7]
theorem b4t{n:Nat}{w:PV}{ls:List Nat}(hls:0<ls.length){cell:Int}{k:Nat}(hk:k<1000){s5:Υ g5}:∀(L:List Pt) (D:Γ) (q7:Υ g5),D.length+L.length<=1000000->∃D' q7',(∀q,q∈L\/Rw D q->Rw D' q)/\D'.length<=D.length+L.length/\
 x8 N2 (g6 7) (L.map pl) (goR n w ls cell D s5 (φ (.int (k:Int))) q7)=ξ (.nx (goR n w ls cell D' s5 (φ (.int (k:Int))) q7'))
 |[],D,q7,_=>⟨D,q7,λq h=>h.elim (λz=>nomatch z) id,AM _,rfl⟩
 |p::L,D,q7,hl=>by
  rw [AT] at hl;have xm:=T7 (c:=cell) (k:=(k:Int)) (by lia)
  obtain⟨x,hx⟩:=a6X hls (a37 cell (k:Int)/ 8);have hp:=W6 D (kp p) (row [x]);have hlen:z9 (.v (.list (ls.map λx=>row [x])))=φ (.int (ls.length:Int)):=by
   show ξ _=_;rw [AN]
  obtain⟨D',q7',h1,h2,h3⟩:=b4t (n:=n) (w:=w) hls (cell:=cell) hk (s5:=s5) L (G2 D (kp p) (row [x])) (φ (pl p)) (by lia)
  refine⟨D',q7',λq h=>h1 q ?_,by rw [AT];lia, ?_⟩
  ·rcases h with h|h
   ·rcases AX.mp h with h|h
    ·exact .inr (Rw.put p x (.inl h))
    ·exact .inl h
   ·exact .inr (Rw.put p x (.inr h))
  ·have hb:N2 (goR n w ls cell D s5 (φ (.int (k:Int))) (φ (pl p)))=ξ (.nx (goR n w ls cell (G2 D (kp p) (row [x])) s5 (φ (.int (k:Int))) (φ (pl p)))):=by
    unfold N2 goR;simp! [t5,P9,h9,o8,j7,d4,e9,d6,d0,c9,i7,AF,E5,J4,xm,hlen,hx];rw [P6 rfl (by lia)]
    rfl
   rw [AI,x8];show(N2 (goR n w ls cell D s5 (φ (.int (k:Int))) (φ (pl p)))).bind _=_;rw [hb,AF];exact h3
def goI:MS:=L4 (W4 (m2 gEq (m2 Θ (c7 3) (mC (.int 4))) (mC (.int 0)))) (b2c 4 (b9 (m2 Θ (m2 Ω (c7 3) (mC (.int 4))) (c7 0)) (b9 (m2 Θ (m2 Ω (c7 3) (mC (.int 32))) (c7 0)) d9)) (m2 v4 (c7 2) (m2 Θ (m2 Ω (c7 3) (mC (.int 256))) (m1 z9 (c7 2))))) x4
theorem b4s{n:Nat}(hn:0<n)(hn7:n<=7){ms:List Tr}(hms:∀x∈ms,x.1∈t7){ls:List Nat}(hls:0<ls.length)(cell:Int):∃g:Nat->Nat->Nat,S7 [.int n,.list (G1 ms),.list (ls.map λx=>row [x]),.int cell]=φ (i9 n g):=by
 have hnn:n*n<=7*7:=Nat.mul_le_mul hn7 hn7;obtain⟨m,hm,ho,hc,hl,ec⟩:=b18 hn hn7 hms;have hlen:z9 (.v (.list (ls.map λx=>row [x])))=φ (.int (ls.length:Int)):=by
  show ξ _=_;rw [AN]
 obtain⟨ρ1,e1,D,q6,q7,hD,hDl,rfl⟩:=z5 (body:=N3) (tg:=g6 6) (λi ρ=>∃(D:Γ) (q6 q7:Υ g5),(∀A∈m.take i,∀q∈A,Rw D q)/\D.length<=64*i/\ρ=goR n (.list (G1 ms)) ls cell D (ξ (.own (v6 m))) q6 q7)
  (ps:=J9 0 m.length) (ρ:=goR n (.list (G1 ms)) ls cell [] (ξ (.own (v6 m))) ζ ζ)
  (by
   rintro i p hp ρ ⟨D,q6,q7,hD,hDl,rfl⟩
   ext j
   rw [hi'] at hi ⊢;have hi2:i<m.length:=by lia
   have hA:=(hm.lane m[i] (List.getElem_mem hi2)).1;obtain⟨D',q7',h1,h2,h3⟩:=b4t (n:=n) (w:= .list (G1 ms)) hls (cell:=cell) (k:=i) (by lia) (s5:=ξ (.own (v6 m))) m[i] D q7 (by lia)
   have ix:v4 (.bor (v6 m)) (.v (.int (i:Int)))=φ (.list (m[i].map pl)):=a0G (by rw [b1E,Ak,Ax hi2];rfl)
   have hit:PyData.items? (.list (m[i].map pl))=ξ (m[i].map pl):=rfl;refine V0 rfl (ρ2:=goR n (.list (G1 ms)) ls cell D' (ξ (.own (v6 m))) (φ (.int (i:Int))) q7') ?_ ⟨D',_,_,λA hA q hq=> ?_,by lia,rfl⟩
   ·show N3 (goR n (.list (G1 ms)) ls cell D (ξ (.own (v6 m))) (φ (.int (i:Int))) q7)=_;unfold N3;unfold goR at*;simp! [h9,d4,t8,e9,c9,n0,AF,x9,ix,hit,h3]
   ·rw [List.take_succ,Ax hi2] at hA;rcases At.mp hA with z|z
    ·exact h1 q (.inr (hD A z q hq))
    ·have:A=m[i]:=by simpa using z
     rw [this] at hq;exact h1 q (.inl hq)) ⟨[],ζ,ζ,λA hA=>by simp at hA,Nat.zero_le _,rfl⟩
 have hlr:(J9 0 (m.length:Int)).length=m.length:=by rw [a67,AN,Av]
 rw [hlr] at hD hDl;rw [List.take_length] at hD;have all:∀q,V8 n q->Rw D q:=λq hq=>by
  obtain⟨A,hA,h⟩:=hc q hq;exact hD A hA q h
 have gl:z9 (.bo (.lst (v6 m)))=φ (.int m.length):=by
  show ξ _=_;rw [AN]
 obtain⟨D2,hD2,e2⟩:∃D2:Γ,(∀q,V8 n q->Rw D2 q)/\goI (goR n (.list (G1 ms)) ls cell D (ξ (.own (v6 m))) q6 q7)=ξ (.nx (goR n (.list (G1 ms)) ls cell D2 (ξ (.own (v6 m))) q6 q7)):=by
  by_cases c:cell % 4=0
  ·obtain⟨x,hx⟩:=a6X hls (cell / 256);refine⟨G2 D (kp (cell / 4 % n,cell / 32 % n)) (row [x]),λq hq=>Rw.put _ _ (.inr (all q hq)), ?_⟩;have pt:=c0p (i:=4) (ma:=b9 (m2 Θ (m2 Ω (c7 3) (mC (.int 4))) (c7 0)) (b9 (m2 Θ (m2 Ω (c7 3) (mC (.int 32))) (c7 0)) d9)) (mv:=m2 v4 (c7 2) (m2 Θ (m2 Ω (c7 3) (mC (.int 256))) (m1 z9 (c7 2)))) (ρ:=goR n (.list (G1 ms)) ls cell D (ξ (.own (v6 m))) q6 q7) (a:=cell / 4 % n) (b:=cell / 32 % n) (r:= .v (row [x])) (p:=row [x]) (D:=D) (by unfold goR;simp! [t5,P9,h9,o8,j7,d4,e9,AF,hlen,hx]) rfl (by unfold goR;simp! [t5,P9,h9,j7,d4,e9,d6,d0,c9,AF]) rfl (by lia)
   unfold goI;unfold goR at*;simp! [t5,h9,j7,d4,e9,l0,V7,k6,n4,AF,AV,AW,beq_self_eq_true,a15,c,pt]
  ·have c':(cell % 4==0)=false:=by rw [beq_eq_false_iff_ne];exact c
   refine⟨D,all, ?_⟩;unfold goI goR;simp! [t5,h9,j7,d4,e9,l0,G0,m4,k6,n4,AF,a15,c']
 have sk:∀r c:Nat,∃x:Nat,r<n->c<n->p7 D2 [.inl (r:Nat),.inl (c:Nat)]=ξ (row [x]):=λr c=>by
  by_cases h:r<n/\c<n
  ·obtain⟨x,hx⟩:=hD2 ((r:Int),(c:Int)) ⟨⟨by show(0:Int)<=(r:Int);lia,by show(r:Int)<n;lia⟩,by show(0:Int)<=(c:Int);lia,by show(c:Int)<n;lia⟩
   exact⟨x,λ_ _=>hx⟩
  ·exact⟨0,λa b=>absurd ⟨a,b⟩ h⟩
 obtain⟨g,hg⟩:∃g:Nat->Nat->Nat,∀r c:Nat,r<n->c<n->p7 D2 [.inl (r:Nat),.inl (c:Nat)]=ξ (row [g r c]):=by
  obtain⟨g,hg⟩:=Classical.skolem.mp λr=>Classical.skolem.mp (sk r);exact⟨g,λr c=>hg r c⟩
 have cm1:C4 1 (u9 (b9 (c7 0) d9)) (g6 8) L8 U8 (goR n (.list (G1 ms)) ls cell D2 (ξ (.own (v6 m))) q6 q7)=ξ (.own ((AK n).map λr=>row ((AK n).map λc=>g r c))):=by
  refine G6 (ι:=λk:Nat=>PyData.int (k:Int)) (f:=λr:Nat=>row ((AK n).map λ(c:Nat)=>g r c)) (AK n) (T5 (n:=n) rfl (by lia)) (by rw [Av];lia) ?_
  intro r hr;have hr:=List.mem_range.mp hr;refine⟨_,rfl, ?_⟩;unfold U8
  ext z
  ·simp! [c9,AF,show AR ""=S [] from rfl,a1F (k:=n) (by lia)]
  ·intro c hc;have hc:=List.mem_range.mp hc;refine⟨_,rfl, ?_⟩;unfold a3I;rw [b0Y (p:=row [g r c]) (by simp! [d4,e9,d6,d0,c9,AF,Ah,Aa,Af,Ad,AV,AW]) rfl (hg r c hr hc)]
   rfl
 have ct:X6 (.own ((AK n).map λr=>row ((AK n).map λc=>g r c)))=φ (i9 n g):=by
  simp! [a1G];unfold i9 a6g;rw [Au]
  rfl
 refine⟨g, ?_⟩;have hb:a7s=k7 (p9 4 a4T) (k7 (p9 5 (m9 G4 (b9 (c7 0) (b9 (c7 1) d9)))) (k7 (K5 (u9 (b9 (m1 z9 (c7 5)) d9)) (g6 6) N3) (k7 goI (z7 (m1 X6 (C4 1 (u9 (b9 (c7 0) d9)) (g6 8) L8 U8)))))):=rfl;unfold S7;rw [hb];unfold goR at*;simp! [o8,d4,t8,e9,d6,d0,c9,i7,i6,k9,v8,g7,i8,j9,l9,n0,r9,y3,AF,AI,Ab,Ah,Aa,Af,Ad,AV,AW,a0a,W8,ec,gl,e1,e2,cm1,ct]
section
variable (nn:MS)(s0 s1 s2 s3 s4 s5 s6 s7 s8 s9 q10:Υ g5)(L:List PV)
theorem b97:a2b 3 nn [s0,s1,s2,ξ (.ow (.lst L)),s4,s5,s6,s7,s8,s9,q10]=nn [s0,s1,s2,φ (.list L),s4,s5,s6,s7,s8,s9,q10]:=rfl
theorem b98:a2b 3 nn [s0,s1,s2,φ (.list L),s4,s5,s6,s7,s8,s9,q10]=nn [s0,s1,s2,φ (.list L),s4,s5,s6,s7,s8,s9,q10]:=rfl
theorem b99:a2b 9 nn [s0,s1,s2,s3,s4,s5,s6,s7,s8,ξ (.ow (.lst L)),q10]=nn [s0,s1,s2,s3,s4,s5,s6,s7,s8,φ (.list L),q10]:=rfl
theorem c0a:a2b 9 nn [s0,s1,s2,s3,s4,s5,s6,s7,s8,φ (.list L),q10]=nn [s0,s1,s2,s3,s4,s5,s6,s7,s8,φ (.list L),q10]:=rfl
end
theorem b7Y{cs:List Int}{ls:List Nat}(hls:0<ls.length)(hcs:cs.length<100){i:Nat}(hi:i<cs.length){A:Int}(s0 s2:Υ g5){s3:g5}(h3:s3= .ow (.lst (ls.map λx=>row [x]))\/s3= .v (.list (ls.map λx=>row [x])))(q6 q7 q8 q9 q10:Υ g5):
 ∃q6' q7' q8' q9' q10',a2K [s0,φ (.int A),s2,ξ s3,ξ (.own (cs.map .int)),φ (.int (i:Int)),q6,q7,q8,q9,q10]=ξ (.nx [s0,φ (.int A),s2,φ (.list (ls.map λx=>row [x])),ξ (.own (cs.map .int)),φ (.int (i:Int)),q6',q7',q8',q9',q10']):=by
 have ix:v4 (.bo (.lst (cs.map .int))) (.v (.int (i:Int)))=φ (.int cs[i]):=a0G (by rw [b1E,Ak,Ax hi];rfl)
 have xm:=T7 (c:=cs[i]) (k:=(i:Int)+70) (by lia)
 have hN:=(c2A cs[i] ((i:Int)+70)).1
 generalize a37 cs[i] ((i:Int)+70)=N at xm hN
 obtain⟨n,en,hn,hn7⟩:∃n:Nat,1+(A+(i:Int)) % 5=(n:Int)/\0<n/\n<=5:=⟨(1+(A+(i:Int)) % 5).toNat,by lia,by lia,by lia⟩
 have sl1:gSl (.bo (.lst (cs.map .int))) (ξ (i:Int)) ζ=ξ (.own ((cut cs (ξ (i:Int)) ζ).map .int)):=by
  show ξ _=_;rw [show cut (cs.map PyData.int) (ξ (i:Int)) ζ=(cut cs (ξ (i:Int)) ζ).map PyData.int by unfold cut;rw [AN,List.map_take,List.map_drop]]
 have sl2:gSl (.bo (.lst (cs.map .int))) ζ (ξ (i:Int))=ξ (.own ((cut cs ζ (ξ (i:Int))).map .int)):=by
  show ξ _=_;rw [show cut (cs.map PyData.int) ζ (ξ (i:Int))=(cut cs ζ (ξ (i:Int))).map PyData.int by unfold cut;rw [AN,List.map_take,List.map_drop]]
 have c1:=a6Q cs (ξ (i:Int)) ζ
 have c2:=a6Q cs ζ (ξ (i:Int))
 have ad:K8 (.own ((cut cs (ξ (i:Int)) ζ).map .int)) (.own ((cut cs ζ (ξ (i:Int))).map .int))=ξ (.own ((cut cs (ξ (i:Int)) ζ++cut cs ζ (ξ (i:Int))).map .int)):=by
  rw [b4p (by rw [AN,AN,sizeLine_eq];lia),BF]
 have cne:=c1T hi
 obtain⟨f,ef⟩:=b6X (cs:=cut cs (ξ (i:Int)) ζ++cut cs ζ (ξ (i:Int))) (by rw [Ar];lia) (ls:=ls) hls hn (by lia) (N / 7)
 obtain⟨v,ev,hv⟩:∃v:Nat,N % 4=(v:Int)/\v<5:=⟨(N % 4).toNat,by lia,by lia⟩
 have exw:∀k:Nat,∃x:Tr,k<5->x.1∈t7/\K3 [.int n,.int (a37 N (20+(k:Int)))]=φ (mT x):=λk=>by
  obtain⟨w,hw,d,t,_,_,e⟩:=b02 hn (by lia:n<=8) (a37 N (20+(k:Int)))
  exact⟨(w,d,t),λ_=>⟨hw,e⟩⟩
 obtain⟨xw,hxw⟩:=Classical.skolem.mp exw
 have cw:=G6 (ι:=λk:Nat=>PyData.int (k:Int)) (f:=λk=>mT (xw k)) (k:=1) (it:=u9 (b9 (m2 Θ (c7 6) (mC (.int 4))) d9)) (elt:=a7Z) (tg:=g6 11)
  (ρ:=[s0,φ (.int A),s2,φ (.list (ls.map λx=>row [x])),ξ (.own (cs.map .int)),φ (.int (i:Int)),φ (.int N),φ (.int (n:Int)),φ (i9 n f),q9,q10]) (AK v)
  (by
   rw [<-a47];simp! [t5,h9,j7,d4,e9,d6,d0,c9,r9,y3,AF,ev])
  (by rw [Av];lia) λk hk=>⟨_,rfl,by
   have hk:=List.mem_range.mp hk;have xm:=T7 (c:=N) (k:=20+(k:Int)) (by lia)
   unfold a7Z;simp! [y4,h9,j7,d4,e9,d6,d0,c9,i7,AF,Ah,Aa,Af,Ad,AV,AW,xm,(hxw k (by lia)).2]⟩
 have ew:(AK v).map (λk=>mT (xw k))=G1 ((AK v).map xw):=by unfold G1;rw [Au];rfl
 rw [ew] at cw
 have hms:∀x∈(AK v).map xw,x.1∈t7:=λx hx=>by
  obtain⟨k,hk,rfl⟩:=Ae.mp hx;exact(hxw k (by have:=List.mem_range.mp hk;lia)).1
 have hmw:((AK v).map xw).length<=5:=by rw [AN,Av];lia
 generalize (AK v).map xw=ms at cw hms hmw
 obtain⟨g,eg⟩:=b4s hn (by lia:n<=7) hms hls (N / 4)
 have gd:=c0c hn (by lia:n<=7) f g hms (by lia) (.list (ls.map λx=>row [x]))
 obtain⟨w,ew2,hw,hw7,hwn⟩:∃w:Nat,1+(n:Int) % 5=(w:Int)/\0<w/\w<=5/\n≠w:=⟨(1+(n:Int) % 5).toNat,by lia,by lia,by lia,by lia⟩
 obtain⟨g2,eg2⟩:=b4s (n:=w) hw (by lia:w<=7) (ms:=[]) (λx h=>nomatch h) hls (N / 4)
 have rf:=b6l (b3T (by lia:n<=8) (by lia:w<=8) f g2 hwn (.list (G1 ms)))
 have eg2:S7 [.int w,.list [],.list (ls.map λx=>row [x]),.int (N / 4)]=_:=eg2
 have nn:gNe (.v (.str "unlike")) (.v (.str "unlike"))=φ (.bool false):=V5 rfl
 by_cases c:N / 11 % 9=0
 ·refine⟨φ (.int N),φ (.int (n:Int)),φ (i9 n f),φ (.list (G1 ms)),φ (i9 w g2), ?_⟩
  unfold a2K
  rcases h3 with rfl|rfl
  ·simp! [y4,t5,P9,h9,j7,d4,t8,e9,d6,d0,c9,E3,A9,i7,i6,o9,M0,g7,i8,l0,V7,G0,m4,Q6,k6,n4,a29,D8,AF,BB,AV,AW,Ai,↓reduceIte,Bool.not_true,O2,T8,a0n,a3l,sz,Am,beq_self_eq_true,a15,ix,xm,en,b97,b98,sl1,sl2,ad,ef,cw,b99,c0a,eg,gd,c,ew2,eg2,rf,nn]
  ·simp! [y4,t5,P9,h9,j7,d4,t8,e9,d6,d0,c9,E3,A9,i7,i6,o9,M0,g7,i8,l0,V7,G0,m4,Q6,k6,n4,a29,D8,AF,BB,AV,AW,Ai,↓reduceIte,Bool.not_true,O2,T8,a0n,a3l,sz,Am,beq_self_eq_true,a15,ix,xm,en,b97,b98,sl1,sl2,ad,ef,cw,b99,c0a,eg,gd,c,ew2,eg2,rf,nn]
 ·have c':(N / 11 % 9==0)=false:=by rw [beq_eq_false_iff_ne];exact c
  refine⟨φ (.int N),φ (.int (n:Int)),φ (i9 n f),φ (.list (G1 ms)),q10, ?_⟩
  unfold a2K
  rcases h3 with rfl|rfl
  ·simp! [y4,t5,P9,h9,j7,d4,t8,e9,d6,d0,c9,E3,i7,i6,o9,M0,g7,i8,l0,G0,m4,Q6,k6,n4,a29,D8,AF,BB,AV,AW,Bool.not_true,O2,T8,a0n,a3l,a15,ix,xm,en,b97,b98,sl1,sl2,ad,ef,cw,b99,c0a,eg,gd,c']
  ·simp! [y4,t5,P9,h9,j7,d4,t8,e9,d6,d0,c9,E3,i7,i6,o9,M0,g7,i8,l0,G0,m4,Q6,k6,n4,a29,D8,AF,BB,AV,AW,Bool.not_true,O2,T8,a0n,a3l,a15,ix,xm,en,b97,b98,sl1,sl2,ad,ef,cw,b99,c0a,eg,gd,c']
theorem main:∀ns:List Int,ns.length<=63->b7F [.list (ns.map .int)]=φ (.bool true):=by
 intro ns hl;obtain⟨c0,hc0⟩:=a9y (ns:=ns) (k:=0) (by lia)
 obtain⟨c1,hc1⟩:=a9y (ns:=ns) (k:=1) (by lia)
 have x0:=T7 (c:=c0) (k:=0) (by lia)
 have x1:=T7 (c:=c1) (k:=1) (by lia)
 generalize a37 c0 0=A at x0;generalize a37 c1 1=B at x1;obtain⟨j,ej,hj⟩:∃j:Nat,1+B / 26 % 4=(j:Int)/\0<j/\j<10:=⟨(1+B / 26 % 4).toNat,by lia,by lia,by lia⟩
 obtain⟨ls,hls,els⟩:=b19 B (m:=j) (by lia)
 have hcut:(cut ns (ξ 2) (ξ 14)).length<=ns.length:=a6Q _ _ _;have gs:=c0W ns (ξ 2) (ξ 14);have cat:K8 (.own ((cut ns (ξ 2) (ξ 14)).map .int)) (.own [.int (ns.length:Int)])=ξ (.own ((cut ns (ξ 2) (ξ 14)++[(ns.length:Int)]).map .int)):=by
  rw [b4p (by rw [AN,sizeLine_eq];simp only [AT,Ai];lia),BF]
  rfl
 have hcs:(cut ns (ξ 2) (ξ 14)++[(ns.length:Int)]).length<100:=by rw [Ar,List.length_singleton];lia
 generalize cut ns (ξ 2) (ξ 14)++[(ns.length:Int)]=cs at cat hcs;obtain⟨ρ1,e1,s3,q5,q6,q7,q8,q9,q10,_,rfl⟩:=z5 (body:=a2K) (tg:=g6 5) (λ_ ρ=>∃(s3:g5) (q5 q6 q7 q8 q9 q10:Υ g5),(s3= .ow (.lst (ls.map λx=>row [x]))\/s3= .v (.list (ls.map λx=>row [x])))/\ρ=[φ (.list (ns.map .int)),φ (.int A),φ (.int B),ξ s3,ξ (.own (cs.map .int)),q5,q6,q7,q8,q9,q10])
  (ps:=J9 0 cs.length) (ρ:=[φ (.list (ns.map .int)),φ (.int A),φ (.int B),ξ (.own (ls.map λx=>row [x])),ξ (.own (cs.map .int)),ζ,ζ,ζ,ζ,ζ,ζ])
  (by
   rintro i p hp ρ ⟨s3,q5,q6,q7,q8,q9,q10,h3,rfl⟩
   ext j
   rw [hi'] at hi ⊢;obtain⟨a6,a7,a8,a9,a10,e⟩:=b7Y (cs:=cs) (ls:=ls) (by lia) hcs (i:=i) (by lia) (A:=A) (φ (.list (ns.map .int))) (φ (.int B)) h3 q6 q7 q8 q9 q10
   exact V0 rfl e ⟨_,_,_,_,_,_,_,.inr rfl,rfl⟩) ⟨_,ζ,ζ,ζ,ζ,ζ,ζ,.inl rfl,rfl⟩
 have gc:z9 (.bo (.lst (cs.map .int)))=φ (.int cs.length):=by
  show ξ _=_;rw [AN]
 unfold b7F c1k;simp! [y4,t5,P9,S4,h9,o8,j7,d4,t8,e9,d6,d0,c9,A9,i7,i6,o9,M0,k9,v8,g7,i8,j9,l9,n0,r9,y3,AF,AI,Ab,Ah,Aa,Af,Ad,AV,AW,AT,Ai,↓reduceIte,O2,T8,a3l,AN,sz,Nat.reduceAdd,Am,hc0,x0,hc1,x1,ej,els,gs,cat,gc,e1]
set_option maxHeartbeats 4000000
section
variable {X:Cx}
theorem C9{a b:AO}{ma mb:M}{pos:Pos}{op:CmpOp}{g:g5->g5->Υ g5}(ho:OpM X (compareOp op) g)(ha:EE X a ma)(hb:EE X b mb)(hm:behindInMarks op b=false:=by first|rfl|exact a1M _):ET X (.Compare a [op] [b] pos) (W4 (m2 g ma mb)):=b3b ho ha hb hm
theorem b7d{a b:AO}{ma mb:M}{pos:Pos}{op:CmpOp}{g:g5->g5->Υ g5}(ho:OpM X (compareOp op) g)(ha:EE X a ma)(hb:EE X b mb)(hm:behindInMarks op b=false:=by first|rfl|exact a1M _):EE X (.Compare a [op] [b] pos) (m2 g ma mb):=c10 ho ha hb hm
theorem f8(i:Nat){x:Str}{pos:Pos}(hN:X.N[i]?=ξ x:=by rfl)(hv:Vis X.env.scope x:=by first|exact Or.inl rfl|exact Or.inr (Or.inl rfl)|exact Or.inr (Or.inr rfl))(hd:Δ x:=by decide)(hcd:(x==("__classdict__":Str))=false:=by decide):EE X (.Name x pos) (c7 i):=c13 i (pv i hN hv hd hcd)
end
seal L2.PE L2.PS L2.PSs L2.PT L2.PW L2.PA L2.PG L2.PGs L2.PI
def top(i:Nat):Stmt:=PySem.Challenge.pw_carpetkin_k93_mended_towards.main.body.getD i (.Pass ⟨0,0,0,0⟩)
abbrev a2Y:Stmt:=top 39
theorem a49:j6 [ϡi,"_law_k"] [ϡi,"_law_k"] (f6 a2Y):=mkS
theorem a5M:List.Nodup (α:=Str) ["_law_seed","_law_many",ϡb,"_law_k"]:=by decide+kernel
abbrev a05:Stmt:=top 45
theorem a26:j6 ["_law_seed","_law_many",ϡb] ["_law_seed","_law_many"] (f6 a05):=mkS
abbrev a03:Stmt:=top 37
theorem a24:j6 ["_law_script","_law_k"] ["_law_script","_law_k"] (f6 a03):=mkS
abbrev a1R:Stmt:=top 46
theorem a3O:j6 ["_law_cells",ϡj,ϡb,"_law_seed","_law_rows","_law_r","_law_row","_law_c","_law_at"] ["_law_cells",ϡj,ϡb,"_law_seed"] (f6 a1R):=mkS
abbrev a5Y:Stmt:=top 42
theorem a8v:j6 [ϡj,ϡc,"_law_way","_law_south","_law_east"] [ϡj] (f6 a5Y):=mkS
abbrev a0s:Stmt:=top 43
theorem a18:j6 [ϡj,ϡi] [ϡj,ϡi] (f6 a0s):=mkS
abbrev a21:Stmt:=top 38
theorem a5c:j6 [ϡc] [ϡc] (f6 a21):=mkS
theorem a79:List.Nodup (α:=Str) [ϡc,ϡa,ϡg,"_law_row","_law_spot"]:=by decide+kernel
abbrev a20:Stmt:=top 49
theorem a5b:j6 [ϡc,ϡa,ϡg,"_law_row"] [ϡc,ϡa,ϡg] (f6 a20):=mkS
theorem a39:List.Nodup (α:=Str) [ϡc,ϡa,ϡg,ϡj,ϡh,"_law_spots","_law_colour","_law_many","_law_spot","_law_rows","_law_r"]:=by decide+kernel
theorem a4a:List.Nodup (α:=Str) [ϡc,ϡa,ϡg,ϡj,ϡh,"_law_spots","_law_colour","_law_many","_law_spot","_law_rows","_law_r","_law_c"]:=by decide+kernel
theorem a4b:List.Nodup (α:=Str) [ϡc,ϡa,ϡg,ϡj,ϡh,"_law_spots","_law_colour","_law_many","_law_spot","_law_rows","_law_k"]:=by decide+kernel
abbrev Y0:Stmt:=top 50
theorem a1l:j6 [ϡc,ϡa,ϡg,ϡj,ϡh,"_law_spots","_law_colour","_law_many","_law_spot","_law_rows"] [ϡc,ϡa,ϡg] (f6 Y0):=mkS
abbrev a4n:Stmt:=top 12
theorem a6A:j6 ["way"] ["way"] (f6 a4n):=mkS
abbrev a4m:Stmt:=top 10
theorem a6z:j6 ["way","place","lead"] ["way","place"] (f6 a4m):=mkS
abbrev a1S:Stmt:=top 13
theorem a3P:j6 ["side","movement","way","shove"] ["side","movement"] (f6 a1S):=mkS
abbrev b89:Stmt:=top 11
theorem b9b:j6 ["side","movement","place","found"] ["side","movement","place"] (f6 b89):=mkS
abbrev b3M:Stmt:=top 7
theorem b4W:j6 ["carpet","r","c","side"] ["carpet","r","c"] (f6 b3M):=mkS
abbrev a22:Stmt:=top 15
theorem a5d:j6 ["carpet","movement","side","back","r","c","place"] ["carpet","movement"] (f6 a22):=mkS
abbrev a8r:Stmt:=top 16
theorem b0b:j6 ["carpet","movement"] ["carpet","movement"] (f6 a8r):=mkS
abbrev a1P:Stmt:=top 34
theorem a3M:j6 ["other","wish","place","movement"] ["other","wish"] (f6 a1P):=mkS
abbrev G7:Stmt:=top 18
theorem a23:j6 ["n","movements","place","known","waiting","at","movement","come"] ["n","movements","place"] (f6 G7):=mkS
abbrev a8s:Stmt:=top 19
theorem b0c:j6 ["n","leading","places_from","told","known","r","c","places","place"] ["n","leading","places_from"] (f6 a8s):=mkS
abbrev a5X:Stmt:=top 20
theorem a8u:j6 ["n","movements"] ["n","movements"] (f6 a5X):=mkS
theorem a4Y:List.Nodup (α:=Str) ["n","colours","r","c"]:=by decide+kernel
abbrev a0r:Stmt:=top 21
theorem a17:j6 ["n","colours","r"] ["n","colours","r"] (f6 a0r):=mkS
theorem a83:List.Nodup (α:=Str) ["n","colours","r"]:=by decide+kernel
abbrev a4i:Stmt:=top 22
theorem a6v:j6 ["n","colours"] ["n","colours"] (f6 a4i):=mkS
abbrev R0:Stmt:=top 32
theorem a0t:j6 ["side","paper","colours","circle","place"] ["side","paper"] (f6 R0):=mkS
abbrev a52:Stmt:=top 6
theorem a8z:j6 ["cloth"] ["cloth"] (f6 a52):=mkS
abbrev a8t:Stmt:=top 26
theorem b0d:j6 ["one","other","places","r","row","c","colour"] ["one","other"] (f6 a8t):=mkS
abbrev Y2:Stmt:=top 33
theorem a1n:j6 ["carpet","paper","come"] ["carpet","paper"] (f6 Y2):=mkS
abbrev a1Q:Stmt:=top 24
theorem a3N:j6 ["cloth"] ["cloth"] (f6 a1Q):=mkS
abbrev R1:Stmt:=top 25
theorem a0u:j6 ["cloth","knots","many","colour"] ["cloth"] (f6 R1):=mkS
theorem a4W:List.Nodup (α:=Str) ["many_by_colour","most","colour"]:=by decide+kernel
theorem a4X:List.Nodup (α:=Str) ["many_by_colour","most","colour"]:=by decide+kernel
abbrev a0q:Stmt:=top 29
theorem a16:j6 ["many_by_colour","most"] ["many_by_colour"] (f6 a0q):=mkS
abbrev X9:Stmt:=top 30
theorem a1k:j6 ["many_by_colour","liked","best"] ["many_by_colour","liked"] (f6 X9):=mkS
theorem a84:List.Nodup (α:=Str) ["carpet","places","place"]:=by decide+kernel
abbrev a4j:Stmt:=top 28
theorem a6w:j6 ["carpet","places"] ["carpet","places"] (f6 a4j):=mkS
abbrev Y1:Stmt:=top 31
theorem a1m:j6 ["carpet","places","liked","many_by_colour","colour"] ["carpet","places","liked"] (f6 Y1):=mkS
theorem a3u:List.Nodup (α:=Str) ["carpet","other","wish","found","places"]:=by decide+kernel
abbrev T9:Stmt:=top 35
theorem a0N:j6 ["carpet","other","wish","found"] ["carpet","other","wish"] (f6 T9):=mkS
abbrev a06:Stmt:=top 53
theorem a27:j6 [ϡa,ϡe,ϡd,"_law_refused","e"] [ϡa,ϡe,ϡd] (f6 a06):=mkS
abbrev a51:Stmt:=top 40
theorem a8y:j6 [ϡj,ϡf,"_law_place","_law_r","_law_c","_law_way","_law_south","_law_east"] [ϡj,ϡf,"_law_place"] (f6 a51):=mkS
abbrev a04:Stmt:=top 47
theorem a25:j6 [ϡj,ϡd,"_law_met",ϡc,"_law_k","_law_first","_law_spots","_law_at",ϡf,ϡe] [ϡj,ϡd] (f6 a04):=mkS
abbrev a50:Stmt:=top 48
theorem a8x:j6 [ϡa,"_law_spots","_law_had_here","_law_r","_law_c"] [ϡa,"_law_spots"] (f6 a50):=mkS
theorem b05:List.Nodup (α:=Str) [ϡa,ϡe,ϡd,ϡc,"_law_spots","_law_had_here","_law_many","_law_some","_law_there","_law_colour"]:=by decide+kernel
abbrev a5Z:Stmt:=top 51
theorem a8w:j6 [ϡa,ϡe,ϡd,ϡc,"_law_spots","_law_had_here","_law_many","_law_some","_law_there"] [ϡa,ϡe,ϡd] (f6 a5Z):=mkS
theorem a77:List.Nodup (α:=Str) [ϡa,ϡf,ϡj,ϡh,"0_law_r","_law_c","_law_r"]:=by decide+kernel
theorem a78:List.Nodup (α:=Str) [ϡa,ϡf,ϡj,ϡh,"0_law_r","0_law_c","_law_r","_law_c"]:=by decide+kernel
abbrev a2Z:Stmt:=top 41
theorem a5a:j6 [ϡa,ϡf,ϡj,ϡh,"_law_r","_law_c"] [ϡa,ϡf] (f6 a2Z):=mkS
theorem a87:List.Nodup (α:=Str) [ϡa,ϡe,ϡd,ϡb,"_law_bad",ϡc,"_law_k"]:=by decide+kernel
abbrev a4l:Stmt:=top 54
theorem a6y:j6 [ϡa,ϡe,ϡd,ϡb,"_law_bad",ϡc] [ϡa,ϡe,ϡd,ϡb] (f6 a4l):=mkS
theorem a85:List.Nodup (α:=Str) [ϡj,ϡd,ϡb,ϡi,ϡh,"_law_sets","_law_k","_law_spot","_law_r"]:=by decide+kernel
theorem a86:List.Nodup (α:=Str) [ϡj,ϡd,ϡb,ϡi,ϡh,"_law_sets","_law_k","_law_spot","_law_r","_law_c"]:=by decide+kernel
abbrev a4k:Stmt:=top 52
theorem a6x:j6 [ϡj,ϡd,ϡb,ϡi,ϡh,"_law_sets","_law_k","_law_spot"] [ϡj,ϡd,ϡb,ϡi] (f6 a4k):=mkS
theorem b8s:List.Nodup (α:=Str) ["_law_script","_law_seed","_law_other",ϡb,"_law_cells","_law_k",ϡi,ϡj,ϡa,ϡd,"_law_wider","_law_j"]:=by decide+kernel
abbrev b88:Stmt:=top 55
theorem b9a:j6 ["_law_script","_law_seed","_law_other",ϡb,"_law_cells","_law_k",ϡi,ϡj,ϡa,ϡd,"_law_wider"] ["_law_script"] (f6 b88):=mkS
structure MoB(K:AD)(mg:Str->Υ AA):Prop where
 Zaw:mg "ValueError"=ζ
 Zbe:mg "bool"=ζ
 Zay:mg "divmod"=ζ
 Zar:mg "enumerate"=ζ
 Zbq:mg "int"=ζ
 Zaa:mg "isinstance"=ζ
 Zan:mg "len"=ζ
 Za0:mg "list"=ζ
 Zbm:mg "max"=ζ
 Zbn:mg "min"=ζ
 Zae:mg "range"=ζ
 Zbr:mg "set"=ζ
 Zat:mg "sorted"=ζ
 Zbs:mg "str"=ζ
 Zas:mg "tuple"=ζ
 nk:a6r K=true
abbrev b0a:Stmt:=c3N (top 4) 0
theorem b3N:j6 ["self","place"] ["self","place"] (f6 b0a):=mkS
section
variable (P:AS)(w:AL)(K:AD)(mg:Str->Υ AA)(base:Heap)
abbrev a0z:Prop:=u7 P w K mg base "_law_mixed" [ϡi,"_law_k"] 1 y6
abbrev a3A:Prop:=u7 P w K mg base "_law_letters" ["_law_seed","_law_many"] 1 U6
abbrev a3z:Prop:=u7 P w K mg base "_law_cell_at" ["_law_script","_law_k"] 1 N1
abbrev a4u:Prop:=u7 P w K mg base "_law_carpet" ["_law_cells",ϡj,ϡb,"_law_seed"] 2 Z3
abbrev a9g:Prop:=u7 P w K mg base "_law_all" [ϡj] 1 a3i
abbrev a2l:Prop:=u7 P w K mg base "_law_movement" [ϡj,ϡi] 2 K3
abbrev a2m:Prop:=u7 P w K mg base "_law_whole" [ϡc] 1 a0I
abbrev a59:Prop:=u7 P w K mg base "_law_paper" [ϡc,ϡa,ϡg] 2 a0H
abbrev a1X:Prop:=u7 P w K mg base "_law_told_well" [ϡc,ϡa,ϡg] 3 F8
abbrev a7k:Prop:=u7 P w K mg base "way_back" ["way"] 1 a34
abbrev a3V:Prop:=u7 P w K mg base "place_by" ["way","place"] 1 S9
abbrev a4v:Prop:=u7 P w K mg base "taken_back" ["side","movement"] 2 Z4
abbrev b6J:Prop:=u7 P w K mg base "led" ["side","movement","place"] 2 a7M
abbrev b2X:Prop:=u7 P w K mg base "knot" ["carpet","r","c"] 1 a5B
abbrev a6a:Prop:=u7 P w K mg base "unlike_at" ["carpet","movement"] 3 a0J
abbrev b1A:Prop:=u7 P w K mg base "leaves" ["carpet","movement"] 4 a2H
abbrev a4s:Prop:=a7e P w K mg base "check_wish" ["other","wish"] 5 B6
abbrev a0U:Prop:=u7 P w K mg base "circle_from" ["n","movements","place"] 3 A5
abbrev b1B:Prop:=u7 P w K mg base "parted" ["n","leading","places_from"] 4 a4L
abbrev a9f:Prop:=u7 P w K mg base "circles" ["n","movements"] 5 a3h
abbrev a2k:Prop:=u7 P w K mg base "coloured_row" ["n","colours","r"] 1 Q1
abbrev a7h:Prop:=u7 P w K mg base "coloured" ["n","colours"] 2 S5
abbrev a0x:Prop:=u7 P w K mg base "carpet_of_paper" ["side","paper"] 3 I0
abbrev a9j:Prop:=u7 P w K mg base "size_of" ["cloth"] 1 a1g
abbrev b1C:Prop:=u7 P w K mg base "unlike" ["one","other"] 2 a4M
abbrev a1Z:Prop:=u7 P w K mg base "told_of_paper" ["carpet","paper"] 4 N6
abbrev a4t:Prop:=u7 P w K mg base "colours_of" ["cloth"] 1 Z2
abbrev a0y:Prop:=u7 P w K mg base "knots_by_colour" ["cloth"] 2 J3
abbrev a2j:Prop:=u7 P w K mg base "best_colours" ["many_by_colour"] 1 Q0
abbrev a1W:Prop:=u7 P w K mg base "chosen_colour" ["many_by_colour","liked"] 2 z6
abbrev a3U:Prop:=u7 P w K mg base "knots_at" ["carpet","places"] 2 S6
abbrev a1Y:Prop:=u7 P w K mg base "mended_circle" ["carpet","places","liked"] 3 F9
abbrev R9:Prop:=a7e P w K mg base "mended_towards" ["carpet","other","wish"] 6 l8
abbrev a0W:Prop:=u7 P w K mg base "_law_refusal" [ϡa,ϡe,ϡd] 7 C2
abbrev a5m:Prop:=u7 P w K mg base "_law_led" [ϡj,ϡf,"_law_place"] 1 S8
abbrev a0V:Prop:=u7 P w K mg base "_law_circles" [ϡj,ϡd] 2 G4
abbrev a9i:Prop:=u7 P w K mg base "_law_had" [ϡa,"_law_spots"] 1 a3k
abbrev a9h:Prop:=u7 P w K mg base "_law_due" [ϡa,ϡe,ϡd] 3 a3j
abbrev a58:Prop:=u7 P w K mg base "_law_moved" [ϡa,ϡf] 2 V6
abbrev a7j:Prop:=u7 P w K mg base "_law_good" [ϡa,ϡe,ϡd,ϡb] 8 a0j
abbrev a7i:Prop:=u7 P w K mg base "_law_goal" [ϡj,ϡd,ϡb,ϡi] 3 S7
end
section
variable (P:AS)(w:AL){K:AD}{mg:Str->Υ AA}(base:Heap)
theorem b06(D:Df K mg "_law_mixed" a2Y):a0z P w K mg base:=by
 exists z0,0,a49,el2 λ_ _=>rfl
 exact f7 (m6 (g9 r6 (g9 B8 (g9 v7 (g9 r6 (f8 0) g0) g0) (g9 v7 g0 (g9 B8 (g9 B8 g0 (f8 1)) (f8 1)))) g0))
theorem a8g(D:Df K mg "_law_letters" a05)(M:MoB K mg):a3A P w K mg base:=by
 exists z0,0,a26,el2 λ_ _=>rfl
 ext a
 ·exact j5 (i:=2) S.nd t4 rfl (Or.inr rfl)
 ext t
 exists y0,["_law_k"],["_law_seed","_law_many",ϡb],3,a5M
 ·exact rfl
 ·exact N5 rfl M.Zae (a0 (f8 1) d8)
 ext n
 exact l7 (f8 2) (g9 r6 (g9 v7 (f8 0) (g9 B8 g0 (f8 3))) g0)
theorem a8e(D:Df K mg "_law_cell_at" a03)(M:MoB K mg):a3z P w K mg base:=by
 exists z0,0,a24,el2 λ_ _=>rfl
 exact d7 (B5 (C9 b1b (f8 1) (B3 A6 rfl M.Zan (by rfl) (f8 0))) (f7 (m6 (l7 (f8 0) (f8 1)))) u8) (f7 (m6 g0))
theorem a9a(D:Df K mg "_law_carpet" a1R)(M:MoB K mg)(A4:a0z P w K mg base):a4u P w K mg base:=by
 exists z0,1,a3O,el4 λ_ _ _ _=>rfl
 ext a
 ·exact j5 (i:=4) S.nd (P7 d8)
 ext a
 ·ext p
  ·exact rfl
  ·exact rfl
  ·exact a0 (f8 1) d8
  ·exact j3 (i:=5) S.nd rfl (Or.inl rfl)
  ext a
  ·exact j5 (i:=6) S.nd t4
  ext a
  ·refine C8 PassesOwn.never ?_ ?_ M.Zae ?_ ?_ (n6 7) ?_
   ·exact rfl
   ·exact rfl
   ·exact a0 (f8 1) d8
   ·exact j3 (i:=7) S.nd rfl (Or.inl rfl)
   ext a
   ·exact j5 (i:=8) S.nd (g9 v7 (g9 B8 (f8 5) (f8 1)) (f8 7))
   ext a
   ·exact B5 (C9 (a0o hu) (g9 r6 (f8 3) g0) g0) (f7 (j5 (i:=8) S.nd (f8 7))) u8
   ext a
   ·exact B5 (C9 (a0o hu) (g9 r6 (f8 3) g0) g0) (f7 (j5 (i:=8) S.nd (g9 r6 (g9 v7 (f8 5) (f8 7)) (f8 1)))) u8
   ext a
   ·refine B5 ?_ ?_ ?_
    ·exact C9 (a0o hu) (g9 r6 (f8 3) g0) g0
    ·refine f7 ?_;refine j5 (i:=8) ?_ ?_
     ·exact S.nd
     refine g9 v7 ?_ ?_
     ·exact b4d (b65 rfl) rfl M.Zbn (by rfl) (f8 5) (g9 a3m (g9 a3m (f8 1) g0) (f8 5))
     exact g9 B8 (f8 1) (b4d (b65 rfl) rfl M.Zbn (by rfl) (f8 7) (g9 a3m (g9 a3m (f8 1) g0) (f8 7)))
    exact u8
   refine f7 ?_;refine j5 (i:=6) ?_ ?_
   ·exact S.nd
   refine g9 v7 ?_ ?_
   ·exact f8 6
   refine l7 ?_ ?_
   ·exact f8 2
   refine g9 r6 ?_ ?_
   ·exact l6 A4 hr (by decide) rfl (c8 (c8 j0)) (a0 (l7 (f8 0) (g9 r6 (f8 8) (B3 A6 rfl M.Zan (by rfl) (f8 0)))) (a0 (f8 8) d8))
   exact B3 A6 rfl M.Zan (by rfl) (f8 2)
  exact f7 (O6 4 (pv 4) (f8 6))
 exact f7 (m6 (a9H a2v rfl M.Zas (by rfl) (f8 4)))
theorem b3E(D:Df K mg "_law_all" a5Y)(M:MoB K mg):a9g P w K mg base:=by
 exists z0,0,a8v,el1 λ_=>rfl
 ext a
 ·exact j5 (i:=1) S.nd (P7 d8)
 ext a
 ·refine S2 PassesOwn.never ?_ ?_ ?_ (n6 2) ?_
  ·exact rfl
  ·exact P7 (a0 t4 (a0 t4 (a0 t4 (a0 t4 (a0 t4 (a0 t4 (a0 t4 (a0 t4 d8))))))))
  ·exact j3 (i:=2) S.nd rfl (Or.inl rfl)
  refine f7 ?_;refine C8 PassesOwn.never ?_ ?_ M.Zae ?_ ?_ (n6 3) ?_
  ·exact rfl
  ·exact rfl
  ·exact a0 (f8 0) d8
  ·exact j3 (i:=3) S.nd rfl (Or.inl rfl)
  exact f7 (C8 PassesOwn.never rfl rfl M.Zae (a0 (f8 0) d8) (j3 (i:=4) S.nd rfl (Or.inl rfl)) (n6 4) (f7 (O6 1 (pv 1) (C7 (a0 (f8 2) (a0 (f8 3) (a0 (f8 4) d8)))))))
 exact f7 (a0F 1 (pv 1))
theorem a6L(D:Df K mg "_law_movement" a0s)(a5r:a9g P w K mg base):a2l P w K mg base:=by
 exists z0,1,a18,el2 λ_ _=>rfl
 exact f7 (m6 (l7 (l6 a5r hr (by decide) rfl (c8 j0) (a0 (f8 0) d8)) (g9 r6 (f8 1) (g9 B8 (g9 B8 g0 (f8 0)) (f8 0)))))
theorem b09(D:Df K mg "_law_whole" a21)(M:MoB K mg):a2m P w K mg base:=by
 exists z0,0,a5c,el1 λ_=>rfl
 exact f7 (m6 (b26 (a01 (.inl rfl) rfl M.Zaa (f8 0) (Q8 rfl M.Zbq (by rfl) rfl)) (b28 (c11 (a01 (.inr (.inl rfl)) rfl M.Zaa (f8 0) (Q8 rfl M.Zbe (by rfl) rfl))))))
theorem b08(D:Df K mg "_law_paper" a20)(M:MoB K mg)(V2:a2m P w K mg base):a59 P w K mg base:=by
 exists z0,1,a5b,el3 λ_ _ _=>rfl
 ext a
 ·exact B5 (PW.pt (a6j (X5 (S3 (a01 (.inr (.inr (.inr (.inl rfl)))) rfl M.Zaa (f8 0) (Q8 rfl M.Za0 (by rfl) rfl)))) (a5w (C9 (X8 hu) (f8 0) (f8 2))))) (f7 (m6 a0D)) u8
 ext a
 ·refine S2 PassesOwn.never ?_ ?_ ?_ (n6 3) ?_
  ·exact rfl
  ·exact f8 0
  ·exact j3 (i:=3) S.nd rfl (Or.inl rfl)
  ext a
  ·refine B5 (PW.pt (a6j (X5 (S3 (a01 (.inr (.inr (.inr (.inr (.inl rfl))))) rfl M.Zaa (f8 3) (Q8 rfl M.Zas (by rfl) rfl)))) (a6j (X5 (S3 (a01 (.inr (.inr (.inr (.inl rfl)))) rfl M.Zaa (l7 (f8 3) g0) (Q8 rfl M.Za0 (by rfl) rfl)))) (a5w (X5 (S3 (a01 (.inr (.inr (.inl rfl))) rfl M.Zaa (l7 (f8 3) g0) (Q8 rfl M.Zbs (by rfl) rfl)))))))) ?_ ?_
   ·exact f7 (m6 a0D)
   exact u8
  refine f7 ?_;refine B5 (PW.pt (a6j (X5 (S3 (l6 V2 hr (by decide) rfl (c8 j0) (a0 (l7 (f8 3) g0) d8)))) (a5w (C9 (X8 hu) (N4 (ys:=["_law_spot"]) (N0:=[ϡc,ϡa,ϡg,"_law_row"]) (λ_ _ h=>h) rfl ⟨by kernel_rfl,rfl,δ rfl,δ rfl,δ rfl⟩ (b0E (l7 (f8 3) g0)) (λC fp pins s H=>j3 (i:=4) a79 rfl (Or.inl rfl)) (λn h=>u6 (i:=4) (Nat.le_of_eq h)) (λC fp pins s H=>(b0B (X5 (S3 (a01 (.inr (.inr (.inr (.inr (.inl rfl))))) rfl M.Zaa (f8 4) (Q8 rfl M.Zas (by rfl) rfl)))))) (λC fp pins s H=>(f8 4))) (P7 d8))))) ?_ ?_
  ·exact f7 (m6 a0D)
  exact u8
 exact f7 (m6 a0D)
theorem a5O(D:Df K mg "_law_told_well" Y0)(M:MoB K mg)(a2y:a59 P w K mg base):a1X P w K mg base:=by
 exists z0,2,a1l,el3 λ_ _ _=>rfl
 ext a
 ·exact j5 (i:=3) S.nd (B3 A6 rfl M.Zan (by rfl) (f8 1)) rfl (Or.inr rfl)
 ext a
 ·refine B5 (PW.pt (a6j (X5 (S3 (a01 (.inr (.inr (.inr (.inr (.inl rfl))))) rfl M.Zaa (f8 0) (Q8 rfl M.Zas (by rfl) rfl)))) (a6j (C9 (X8 hu) (B3 A6 rfl M.Zan (by rfl) (f8 0)) g0) (a5w (X5 (S3 (l6 a2y hr (by decide) rfl (c8 (c8 (c8 j0))) (a0 (l7 (f8 0) g0) (a0 (f8 1) (a0 (f8 2) d8)))))))))) ?_ ?_
  ·exact f7 (m6 a0D)
  exact u8
 ext a
 ·exact j5 (i:=4) S.nd a3d rfl (Or.inr rfl)
 ext a
 ·refine S2 PassesOwn.never ?_ ?_ ?_ (a28 [5,6,7]) ?_
  ·exact rfl
  ·exact f8 2
  ·exact a5T rfl (A0 (j3 (i:=5) S.nd rfl (Or.inl rfl)) (A0 (j3 (i:=6) S.nd rfl (Or.inl rfl)) (A0 (j3 (i:=7) S.nd rfl (Or.inl rfl)) a1N)))
  exact f7 (a2D 5 (S2 PassesOwn.never rfl (f8 5) (j3 (i:=8) S.nd rfl (Or.inl rfl)) (n6 8) (f7 (O7 4 hu M.nk (pv 4) (f8 8) (f8 6)))))
 ext a
 ·refine j5 (i:=9) ?_ ?_ ?_ (Or.inr rfl)
  ·exact S.nd
  ·refine a9H a2v ?_ M.Zas ?_ ?_
   ·exact rfl
   ·rfl
   exists y1,["_law_r"],[ϡc,ϡa,ϡg,ϡj,ϡh,"_law_spots","_law_colour","_law_many","_law_spot","_law_rows"],10,a39
   ·exact rfl
   ·exact N5 rfl M.Zae (a0 (f8 3) d8)
   ext n
   refine a1D ?_ ?_
   ·exact t4
   exists y0,["_law_c"],[ϡc,ϡa,ϡg,ϡj,ϡh,"_law_spots","_law_colour","_law_many","_law_spot","_law_rows","_law_r"],11,a4a
   ·exact rfl
   ·exact N5 rfl M.Zae (a0 (f8 3) d8)
   ext n
   exact b0C 4 hu (pv 4) (a0 (f8 10) (a0 (f8 11) d8))
  exact rfl
 ext a
 ·refine a6R (i:=5) (ys:=["_law_k"]) (N0:=[ϡc,ϡa,ϡg,ϡj,ϡh,"_law_spots","_law_colour","_law_many","_law_spot","_law_rows"]) ?_ (λ_ _ h=>h) ?_ ⟨by kernel_rfl,rfl,δ rfl,δ rfl,δ rfl⟩ ?_ (λC fp pins s H=>j3 (i:=10) a4b rfl (Or.inl rfl)) (λn h=>u6 (i:=10) (Nat.le_of_eq h)) ?_ ?_
  ·exact S.nd
  ·exact rfl
  ·exact N5 rfl M.Zae (a0 (g9 B8 (f8 3) (f8 3)) d8)
  ·ext n
   refine b0B ?_;refine b3b (X8 hu) ?_ ?_ ?_
   ·exact l7 (l7 (f8 9) (g9 K6 (f8 10) (f8 3))) (g9 r6 (f8 10) (f8 3))
   ·exact l7 (l7 (f8 1) (g9 K6 (f8 10) (f8 3))) (g9 r6 (f8 10) (f8 3))
   first|rfl|exact a1M _
  ext n
  exact b4d a9D rfl M.Zay (by rfl) (f8 10) (f8 3)
 ext a
 ·refine B5 (PW.pt (a6j (X5 (S3 (a01 (.inr (.inr (.inr (.inr (.inl rfl))))) rfl M.Zaa (l7 (f8 0) g0) (Q8 rfl M.Zas (by rfl) rfl)))) (a5w (C9 (X8 hu) (l7 (f8 0) g0) (f8 9))))) ?_ ?_
  ·exact f7 (m6 a0D)
  exact u8
 exact f7 (m6 (b26 (a01 (.inr (.inr (.inr (.inl rfl)))) rfl M.Zaa (l7 (f8 0) g0) (Q8 rfl M.Za0 (by rfl) rfl)) (b28 (b7d (a0o hu) (l7 (f8 0) g0) (f8 5)))))
theorem b2m(D:Df K mg "way_back" a4n):a7k P w K mg base:=by
 exists z0,0,a6A,el1 λ_=>rfl
 exact d7 (B5 (C9 (a0o hu) (f8 0) t4) (f7 (m6 t4)) u8) (d7 (B5 (C9 (a0o hu) (f8 0) t4) (f7 (m6 t4)) u8) (f7 (a0F 0 (pv 0))))
theorem b2l(D:Df K mg "place_by" a4m){Zbf:AB}(Zbt:mg "LEADS"=ξ (.ref Zbf))(Zbc:Tab P w K Zbf J7):a3V P w K mg base:=by
 exists z0,0,a6z,el2 λ_ _=>rfl
 ext a
 ·exact j5 (i:=2) S.nd (c12 Zbc rfl Zbt (f8 0))
 ext t
 refine C7 ?_;refine a0 ?_ ?_
 ·exact g9 v7 (g9 B8 (l7 (f8 2) g0) (l7 (f8 1) g0)) (g9 B8 (l7 (f8 2) g0) (l7 (f8 1) g0))
 exact a0 (g9 v7 (g9 B8 (l7 (f8 2) g0) (l7 (f8 1) g0)) (g9 B8 (l7 (f8 2) g0) (l7 (f8 1) g0))) d8
theorem a9b(D:Df K mg "taken_back" a1S)(a3Z:a7k P w K mg base)(a0g:a3V P w K mg base):a4v P w K mg base:=by
 exists z0,1,a3P,el2 λ_ _=>rfl
 ext a
 ·exact j5 (i:=2) S.nd (l6 a3Z hr (by decide) rfl (c8 j0) (a0 (l7 (f8 1) g0) d8))
 ext a
 ·exact j5 (i:=3) S.nd (l6 a0g hr (by decide) rfl (c8 (c8 j0)) (a0 (f8 2) (a0 (C7 (a0 (b7j (l7 (f8 1) g0)) (a0 (b7j (l7 (f8 1) g0)) d8))) d8)))
 exact f7 (m6 (C7 (a0 (f8 2) (a0 (g9 r6 (l7 (f8 3) g0) (f8 0)) (a0 (g9 r6 (l7 (f8 3) g0) (f8 0)) d8)))))
theorem c2F(D:Df K mg "led" b89)(a0g:a3V P w K mg base):b6J P w K mg base:=by
 exists z0,1,b9b,el3 λ_ _ _=>rfl
 ext a
 ·exact j5 (i:=3) S.nd (l6 a0g hr (by decide) rfl (c8 (c8 j0)) (a0 (l7 (f8 1) g0) (a0 (f8 2) d8)))
 exact f7 (m6 (C7 (a0 (g9 r6 (g9 v7 (l7 (f8 3) g0) (l7 (f8 1) g0)) (f8 0)) (a0 (g9 r6 (g9 v7 (l7 (f8 3) g0) (l7 (f8 1) g0)) (f8 0)) d8))))
theorem c0y(D:Df K mg "knot" b3M)(M:MoB K mg):b2X P w K mg base:=by
 exists z0,0,b4W,el3 λ_ _ _=>rfl
 exact d7 (j5 (i:=3) S.nd (B3 A6 rfl M.Zan (by rfl) (f8 0))) (f7 (m6 (l7 (l7 (f8 0) (g9 r6 (f8 1) (f8 3))) (g9 r6 (f8 2) (f8 3)))))
theorem b1a(D:Df K mg "unlike_at" a22)(M:MoB K mg)(a1C:a4v P w K mg base)(b1S:b6J P w K mg base)(a5q:b2X P w K mg base):a6a P w K mg base:=by
 exists z0,2,a5d,el2 λ_ _=>rfl
 ext a
 ·exact j5 (i:=2) S.nd (B3 A6 rfl M.Zan (by rfl) (f8 0))
 ext a
 ·exact j5 (i:=3) S.nd (l6 a1C hr (by decide) rfl (c8 (c8 j0)) (a0 (f8 2) (a0 (f8 1) d8)))
 ext a
 ·refine C8 PassesOwn.never ?_ ?_ M.Zae ?_ ?_ (n6 4) ?_
  ·exact rfl
  ·exact rfl
  ·exact a0 (f8 2) d8
  ·exact j3 (i:=4) S.nd rfl (Or.inl rfl)
  refine f7 ?_
  ext p
  ·exact rfl
  ·exact rfl
  ·exact a0 (f8 2) d8
  ·exact j3 (i:=5) S.nd rfl (Or.inl rfl)
  ext a
  ·exact j5 (i:=6) S.nd (l6 b1S hr (by decide) rfl (c8 (c8 (c8 j0))) (a0 (f8 2) (a0 (f8 3) (a0 (C7 (a0 (f8 4) (a0 (f8 5) d8))) d8))))
  refine f7 ?_;refine B5 ?_ ?_ ?_
  ·refine b3b (X8 hu) ?_ ?_ ?_
   ·exact l6 a5q hr (by decide) rfl (c8 (c8 (c8 j0))) (a0 (f8 0) (a0 (f8 4) (a0 (f8 5) d8)))
   ·exact l6 a5q hr (by decide) rfl (c8 (c8 (c8 j0))) (a0 (f8 0) (a0 (l7 (f8 6) g0) (a0 (l7 (f8 6) g0) d8)))
   first|rfl|exact a1M _
  ·exact f7 (m6 (C7 (a0 (f8 4) (a0 (f8 5) d8))))
  exact u8
 exact f7 (m6 b27)
theorem b6b(D:Df K mg "leaves" a8r)(a2z:a6a P w K mg base):b1A P w K mg base:=by
 exists z0,3,b0b,el2 λ_ _=>rfl
 exact f7 (m6 (b7d c0A (l6 a2z hr (by decide) rfl (c8 (c8 j0)) (a0 (f8 0) (a0 (f8 1) d8))) b27))
theorem a88(D:Df K mg "check_wish" a1P)(M:MoB K mg)(Za1:b9B P w K mg base "NoWish" ["place"] 1)(a7x:b1A P w K mg base):a4s P w K mg base:=by
 exists z1,4,a3M,el2 λ_ _=>rfl
 refine a4G ?_;refine b94 PassesOwn.leaving ?_ ?_ M.Zar ?_ ?_ (a28 [2,3]) ?_
 ·exact rfl
 ·exact rfl
 ·exact a0 (f8 1) d8
 ·exact a5T rfl (A0 (j3 (i:=2) S.nd rfl (Or.inl rfl)) (A0 (j3 (i:=3) S.nd rfl (Or.inl rfl)) a1N))
 refine a4G ?_;refine c1o ?_ ?_ ?_
 ·exact X5 (S3 (l6 a7x hr (by decide) rfl (c8 (c8 j0)) (a0 (f8 0) (a0 (f8 3) d8))))
 ·exact a4G (b5w rfl rfl rfl Za1 hr (by decide) (c8 j0) (a0 (f8 2) d8) (λpins σ H s a C dd I x h0 hn e=>a6o I x h0 hn e))
 exact b0H u8
theorem a8d(D:Df K mg "circle_from" G7)(M:MoB K mg)(b1S:b6J P w K mg base):a0U P w K mg base:=by
 exists z0,2,a23,el3 λ_ _ _=>rfl
 ext a
 ·exact j5 (i:=3) S.nd (b7i hu M.nk (f8 2) a0D)
 ext a
 ·exact j5 (i:=4) S.nd (P7 (a0 (f8 2) d8))
 ext a
 ·exact j5 (i:=5) S.nd g0
 ext a
 ·refine b10 100 PassesOwn.never ?_ ?_
  ·exact C9 b1b (f8 5) (B3 A6 rfl M.Zan (by rfl) (f8 4))
  ext a
  ·refine S2 PassesOwn.never ?_ ?_ ?_ (n6 6) ?_
   ·exact rfl
   ·exact f8 1
   ·exact j3 (i:=6) S.nd rfl (Or.inl rfl)
   ext a
   ·exact j5 (i:=7) S.nd (l6 b1S hr (by decide) rfl (c8 (c8 (c8 j0))) (a0 (f8 0) (a0 (f8 6) (a0 (l7 (f8 4) (f8 5)) d8))))
   exact f7 (B5 (a1E 3 hu M.nk (pv 3) (f8 7) (by first|rfl|exact a1M _)) (d7 (O7 3 hu M.nk (pv 3) (f8 7) a0D) (f7 (O6 4 (pv 4) (f8 7)))) u8)
  exact f7 (c14 (i:=5) S.nd g0 b8B)
 exact f7 (m6 (B3 b1R rfl M.Zat (by rfl) (f8 4)))
theorem b6c(D:Df K mg "parted" a8s)(M:MoB K mg){a0h:AB}(D3:FnV K mg "circle_from" a0h)(U3:a0U P w K mg base):b1B P w K mg base:=by
 exists z0,3,b0c,el3 λ_ _ _=>rfl
 ext a
 ·exact j5 (i:=3) S.nd (P7 d8)
 ext a
 ·exact j5 (i:=4) S.nd a3d
 ext a
 ·ext p
  ·exact rfl
  ·exact rfl
  ·exact a0 (f8 0) d8
  ·exact j3 (i:=5) S.nd rfl (Or.inl rfl)
  refine f7 ?_;refine C8 PassesOwn.never ?_ ?_ M.Zae ?_ ?_ (n6 6) ?_
  ·exact rfl
  ·exact rfl
  ·exact a0 (f8 0) d8
  ·exact j3 (i:=6) S.nd rfl (Or.inl rfl)
  refine f7 ?_;refine B5 ?_ ?_ ?_
  ·exact a1E 4 hu M.nk (pv 4) (C7 (a0 (f8 5) (a0 (f8 6) d8))) (by first|rfl|exact a1M _)
  ·ext a
   ·exact j5 (i:=7) S.nd (b7c 2 (b3c U3 D3 (by decide) rfl b5z) hr (pv 2) (c8 (c8 (c8 j0))) (a0 (f8 0) (a0 (f8 1) (a0 (C7 (a0 (f8 5) (a0 (f8 6) d8))) d8))))
   exact d7 (a2D 7 (O6 3 (pv 3) (f8 7))) (f7 (a2D 7 (S2 PassesOwn.never rfl (f8 7) (j3 (i:=8) S.nd rfl (Or.inl rfl)) (n6 8) (f7 (O7 4 hu M.nk (pv 4) (f8 8) a0D)))))
  exact u8
 exact f7 (a0F 3 (pv 3))
theorem b3D(D:Df K mg "circles" a5X){a0h:AB}(D3:FnV K mg "circle_from" a0h)(a7y:b1B P w K mg base)(U3:a0U P w K mg base):a9f P w K mg base:=by
 exists z0,4,a8u,el2 λ_ _=>rfl
 exact f7 (m6 (l6 a7y hr (by decide) rfl (c8 (c8 (c8 j0))) (a0 (f8 0) (a0 (f8 1) (a0 (c3Q D3) d8)))))
theorem a6K(D:Df K mg "coloured_row" a0r)(M:MoB K mg):a2k P w K mg base:=by
 exists z0,0,a17,el3 λ_ _ _=>rfl
 ext t
 refine a1D ?_ ?_
 ·exact t4
 exists y0,["c"],["n","colours","r"],3,a4Y
 ·exact rfl
 ·exact N5 rfl M.Zae (a0 (f8 0) d8)
 ext n
 exact b7h 1 hu (pv 1) (a0 (f8 2) (a0 (f8 3) d8))
theorem b2g(D:Df K mg "coloured" a4i)(M:MoB K mg)(a0d:a2k P w K mg base):a7h P w K mg base:=by
 exists z0,1,a6v,el2 λ_ _=>rfl
 ext t
 refine a9H a2v ?_ M.Zas ?_ ?_
 ·exact rfl
 ·rfl
 exists y0,["r"],["n","colours"],2,a83
 ·exact rfl
 ·exact N5 rfl M.Zae (a0 (f8 0) d8)
 ext n
 exact l6 a0d hr (by decide) rfl (c8 (c8 (c8 j0))) (a0 (f8 0) (a0 (f8 1) (a0 (f8 2) d8)))
theorem a4c(D:Df K mg "carpet_of_paper" R0)(M:MoB K mg)(a3X:a7h P w K mg base):a0x P w K mg base:=by
 exists z0,2,a0t,el2 λ_ _=>rfl
 ext a
 ·exact j5 (i:=2) S.nd a3d
 ext a
 ·refine S2 PassesOwn.never ?_ ?_ ?_ (n6 3) ?_
  ·exact rfl
  ·exact f8 1
  ·exact j3 (i:=3) S.nd rfl (Or.inl rfl)
  exact f7 (S2 PassesOwn.never rfl (l7 (f8 3) g0) (j3 (i:=4) S.nd rfl (Or.inl rfl)) (n6 4) (f7 (O7 2 hu M.nk (pv 2) (f8 4) (l7 (f8 3) g0))))
 exact f7 (m6 (b7f 2 a3X hr (by decide) rfl (f8 0) (pv 2)))
theorem b3I(D:Df K mg "size_of" a52)(M:MoB K mg):a9j P w K mg base:=by
 exists z0,0,a8z,el1 λ_=>rfl
 exact f7 (m6 (C7 (a0 (B3 A6 rfl M.Zan (by rfl) (f8 0)) (a0 (B3 A6 rfl M.Zan (by rfl) (l7 (f8 0) g0)) d8))))
theorem b6d(D:Df K mg "unlike" a8t)(M:MoB K mg)(a3c:a9j P w K mg base):b1C P w K mg base:=by
 exists z0,1,b0d,el2 λ_ _=>rfl
 ext a
 ·exact B5 (C9 (X8 hu) (l6 a3c hr (by decide) rfl (c8 j0) (a0 (f8 0) d8)) (l6 a3c hr (by decide) rfl (c8 j0) (a0 (f8 1) d8))) (f7 b7o) u8
 ext a
 ·exact j5 (i:=2) S.nd (P7 d8)
 ext a
 ·refine b4g PassesOwn.never ?_ ?_ M.Zar ?_ ?_ (a28 [3,4]) ?_
  ·exact rfl
  ·exact rfl
  ·exact a0 (f8 0) d8
  ·exact a5T rfl (A0 (j3 (i:=3) S.nd rfl (Or.inl rfl)) (A0 (j3 (i:=4) S.nd rfl (Or.inl rfl)) a1N))
  refine f7 ?_;refine b4g PassesOwn.never ?_ ?_ M.Zar ?_ ?_ (a28 [5,6]) ?_
  ·exact rfl
  ·exact rfl
  ·exact a0 (f8 4) d8
  ·exact a5T rfl (A0 (j3 (i:=5) S.nd rfl (Or.inl rfl)) (A0 (j3 (i:=6) S.nd rfl (Or.inl rfl)) a1N))
  exact f7 (B5 (C9 (X8 hu) (f8 6) (l7 (l7 (f8 1) (f8 3)) (f8 5))) (f7 (O6 2 (pv 2) (C7 (a0 (f8 3) (a0 (f8 5) d8))))) u8)
 exact f7 (a0F 2 (pv 2))
theorem a5Q(D:Df K mg "told_of_paper" Y2)(M:MoB K mg)(P3:a0x P w K mg base)(a7z:b1C P w K mg base):a1Z P w K mg base:=by
 exists z0,3,a1n,el2 λ_ _=>rfl
 ext a
 ·exact j5 (i:=2) S.nd (l6 P3 hr (by decide) rfl (c8 (c8 j0)) (a0 (B3 A6 rfl M.Zan (by rfl) (f8 0)) (a0 (f8 1) d8)))
 exact f7 (m6 (C7 (a0 (f8 2) (a0 (l6 a7z hr (by decide) rfl (c8 (c8 j0)) (a0 (f8 0) (a0 (f8 2) d8))) (a0 (f8 1) d8)))))
theorem a89(D:Df K mg "colours_of" a1Q)(M:MoB K mg):a4t P w K mg base:=by
 exists z0,0,a3N,el1 λ_=>rfl
 exact f7 (m6 (b29 rfl rfl M.Zat rfl M.Zbr (a1D t4 (f8 0))))
theorem a4d(D:Df K mg "knots_by_colour" R1)(a1z:a4t P w K mg base):a0y P w K mg base:=by
 exists z0,1,a0u,el1 λ_=>rfl
 ext a
 ·exact j5 (i:=1) S.nd (a1D t4 (f8 0))
 ext a
 ·exact j5 (i:=2) S.nd b7m
 ext a
 ·exact S2 PassesOwn.never rfl (l6 a1z hr (by decide) rfl (c8 j0) (a0 (f8 0) d8)) (j3 (i:=3) S.nd rfl (Or.inl rfl)) (n6 3) (f7 (b4h 2 hu (pv 2) (f8 3) (b7e (f8 1) (f8 3))))
 exact f7 (a0F 2 (pv 2))
theorem a6J(D:Df K mg "best_colours" a0q)(M:MoB K mg):a2j P w K mg base:=by
 exists z0,0,a16,el1 λ_=>rfl
 ext a
 ·refine j5 (i:=1) ?_ ?_ ?_ (Or.inr rfl)
  ·exact S.nd
  ·refine B3 (b39 rfl) ?_ M.Zbm ?_ ?_
   ·exact rfl
   ·rfl
   refine b5t 0 (N0:=["many_by_colour","most"]) (λ_ _ h=>h) ?_ ⟨by kernel_rfl,rfl,δ rfl,δ rfl,δ rfl⟩ (pv 0) ?_ (λC fp pins s H=>j3 (i:=2) a4W rfl (Or.inl rfl)) (λC fp pins s H=>pv 0) (λC fp pins s H=>pv 2)
   ·exact rfl
   exact hu
  exact rfl
 ext t
 refine B3 b66 ?_ M.Zat ?_ ?_
 ·exact rfl
 ·rfl
 refine b5s 0 1 (N0:=["many_by_colour","most"]) (λ_ _ h=>h) ?_ ⟨by kernel_rfl,rfl,δ rfl,δ rfl,δ rfl⟩ (pv 0) ?_ (λC fp pins s H=>j3 (i:=2) a4X rfl (Or.inl rfl)) (λC fp pins s H=>pv 0) (λC fp pins s H=>pv 2) (λC fp pins s H=>pv 1) (λC fp pins s H=>pv 2)
 ·exact rfl
 exact hu
theorem a5N(D:Df K mg "chosen_colour" X9)(a0c:a2j P w K mg base):a1W P w K mg base:=by
 exists z0,1,a1k,el2 λ_ _=>rfl
 ext a
 ·exact j5 (i:=2) S.nd (l6 a0c hr (by decide) rfl (c8 j0) (a0 (f8 0) d8))
 exact d7 (B5 (C9 (a43 hu) (f8 1) (f8 2)) (f7 (a0F 1 (pv 1))) u8) (f7 (m6 (l7 (f8 2) g0)))
theorem b2h(D:Df K mg "knots_at" a4j)(a5q:b2X P w K mg base):a3U P w K mg base:=by
 exists z0,1,a6w,el2 λ_ _=>rfl
 ext t
 refine a1D ?_ ?_
 ·exact t4
 exists y0,["place"],["carpet","places"],2,a84
 ·exact rfl
 ·exact b0E (f8 1)
 ext n
 exact l6 a5q hr (by decide) rfl (c8 (c8 (c8 j0))) (a0 (f8 0) (a0 (l7 (f8 2) g0) (a0 (l7 (f8 2) g0) d8)))
theorem a5P(D:Df K mg "mended_circle" Y1)(P4:a0y P w K mg base)(X0:a1W P w K mg base)(a0e:a3U P w K mg base):a1Y P w K mg base:=by
 exists z0,2,a1m,el3 λ_ _ _=>rfl
 ext a
 ·exact j5 (i:=3) S.nd (l6 P4 hr (by decide) rfl (c8 j0) (a0 (C7 (a0 (l6 a0e hr (by decide) rfl (c8 (c8 j0)) (a0 (f8 0) (a0 (f8 1) d8))) d8)) d8))
 exact d7 (j5 (i:=4) S.nd (b7g 3 X0 hr (by decide) rfl (pv 3) (f8 2))) (f7 (m6 (C7 (a0 (f8 1) (a0 (f8 4) (a0 (b4e 3 hu (pv 3) (f8 4)) d8))))))
theorem a42(D:Df K mg "mended_towards" T9)(M:MoB K mg)(kb:K.In base){Zad:AB}(Zal:XC K mg "Unlike" Zad)(Za2:PySem.W.excIn K Zad a4U "ValueError.__new__"=true)(a1y:a4s P w K mg base)(a5p:a9f P w K mg base)(X3:a1Z P w K mg base)(X2:a1Y P w K mg base)(a0e:a3U P w K mg base):R9 P w K mg base:=by
 exists z1,5,a0N,el3 λ_ _ _=>rfl
 refine b11 ?_ ?_
 ·refine c1o ?_ ?_ ?_
  ·exact C9 (X8 hu) (B3 A6 rfl M.Zan (by rfl) (f8 0)) (B3 A6 rfl M.Zan (by rfl) (f8 1))
  ·exact a4G (b7r rfl rfl rfl Zal.mg (c1g kb Za2) (a0 t4 d8) (λpins σ H s a I x h0 hn e=>a6o I x h0 hn e))
  exact b0H u8
 refine b11 ?_ ?_
 ·exact b4i a1y hr (by decide) rfl hx (c8 (c8 j0)) (a0 (f8 1) (a0 (f8 2) d8))
 refine b0H ?_
 ext a
 ·exact j5 (i:=3) S.nd (l6 a5p hr (by decide) rfl (c8 (c8 j0)) (a0 (B3 A6 rfl M.Zan (by rfl) (f8 0)) (a0 (f8 2) d8)))
 ext t
 refine l6 X3 hr ?_ ?_ ?_ ?_
 ·decide
 ·exact rfl
 ·exact c8 (c8 j0)
 refine a0 ?_ ?_
 ·exact f8 0
 refine a0 ?_ ?_
 ·exists y0,["places"],["carpet","other","wish","found"],4,a3u
  ·exact rfl
  ·exact b0E (f8 3)
  ext n
  refine l6 X2 hr ?_ ?_ ?_ ?_
  ·decide
  ·exact rfl
  ·exact c8 (c8 (c8 j0))
  exact a0 (f8 0) (a0 (f8 4) (a0 (l6 a0e hr (by decide) rfl (c8 (c8 j0)) (a0 (f8 1) (a0 (a4D (f8 4) b0G (a4E g0)) d8))) d8))
 exact d8
theorem a8h(D:Df K mg "_law_refusal" a06)(M:MoB K mg){Zab:AB}(Zam:XC K mg "CarpetError" Zab){Zac:AB}(Zaq:XC K mg "NoWish" Zac){Zad:AB}(Zal:XC K mg "Unlike" Zad)(Zaj:PySem.W.kitOne K (.ref Zac) (.ref Zac)=ξ true)(Zao:PySem.W.kitOne K (.ref Zac) (.ref Zad)=ξ false)(Zah:PySem.W.kitOne K (.ref Zac) (.type "ValueError")=ξ true)(Zak:PySem.W.kitOne K (.ref Zad) (.ref Zac)=ξ false)(Zap:PySem.W.kitOne K (.ref Zad) (.ref Zad)=ξ true)(Zai:PySem.W.kitOne K (.ref Zad) (.type "ValueError")=ξ true)(Zau:b3X K Zac=true)(Zav:b3X K Zad=true)(Za9:a9e K ["NoWish"] "place")(Zaf:a7O K Zac Zab=true)(Zag:a7O K Zad Zab=true)(C6:R9 P w K mg base):a0W P w K mg base:=by
 exists z0,6,a27,el3 λ_ _ _=>rfl
 ext a
 ·exact j5 (i:=3) S.nd b27
 ext a
 ·refine b5v (i:=4) ?_ Zam (b13 Zam Zaq Zaf (b13 Zam Zal Zag c0d)) ?_ ?_
  ·exact S.nd
  ·intro Y pn E hx;exact a4G (b4i C6 hr (by decide) rfl hx (c8 (c8 (c8 j0))) (a0 (f8 0) (a0 (f8 1) (a0 (f8 2) d8))))
  intro a Y;exact f7 (j5 (i:=3) S.nd (f8 4))
 ext a
 ·refine B5 (PW.pt (a6j (X5 (S3 (b0D (cV:= .ty "ValueError") (O9 Zaq Zau Zah (O9 Zal Zav Zai a5h)) (λu h=>h) rfl M.Zaa (f8 3) (Q8 rfl M.Zaw (by rfl) rfl)))) (a5w (C9 (a0o hu) (b0D (cV:= .ref _) (O9 Zaq Zau Zaj (O9 Zal Zav Zak a5h)) (λu h=>h) rfl M.Zaa (f8 3) (a65 rfl Zaq.mg rfl)) (b0D (cV:= .ref _) (O9 Zaq Zau Zao (O9 Zal Zav Zap a5h)) (λu h=>h) rfl M.Zaa (f8 3) (a65 rfl Zal.mg rfl)))))) ?_ ?_
  ·exact f7 (m6 t4)
  exact u8
 ext a
 ·exact B5 (S3 (b0D (cV:= .ref _) (O9 Zaq Zau Zaj (O9 Zal Zav Zak a5h)) (λu h=>h) rfl M.Zaa (f8 3) (a65 rfl Zaq.mg rfl))) (f7 (m6 (c3R Za9 (f8 3)))) u8
 exact f7 (m6 t4)
theorem b3H(D:Df K mg "_law_led" a51):a5m P w K mg base:=by
 exists z0,0,a8y,el3 λ_ _ _=>rfl
 ext a
 ·exact b7q (is:=[3,4]) rfl (f8 2) (A0 (j3 (i:=3) S.nd rfl (Or.inl rfl)) (A0 (j3 (i:=4) S.nd rfl (Or.inl rfl)) a1N))
 ext a
 ·exact b7q (is:=[5,6,7]) rfl (f8 1) (A0 (j3 (i:=5) S.nd rfl (Or.inl rfl)) (A0 (j3 (i:=6) S.nd rfl (Or.inl rfl)) (A0 (j3 (i:=7) S.nd rfl (Or.inl rfl)) a1N)))
 ext a
 ·exact B5 (C9 (a43 hu) (f8 5) (C7 (a0 t4 (a0 t4 (a0 t4 (a0 t4 d8)))))) (f7 (c15 3 4 S.nd rfl (a0 (f8 4) (a0 (f8 3) d8)))) u8
 ext a
 ·exact B5 (C9 (a43 hu) (f8 5) (C7 (a0 t4 (a0 t4 (a0 t4 (a0 t4 d8)))))) (f7 (j5 (i:=3) S.nd (g9 a3m g0 (f8 3)))) u8
 ext a
 ·exact B5 (C9 (a43 hu) (f8 5) (C7 (a0 t4 (a0 t4 (a0 t4 (a0 t4 d8)))))) (f7 (j5 (i:=4) S.nd (g9 a3m g0 (f8 4)))) u8
 exact f7 (m6 (C7 (a0 (g9 r6 (g9 v7 (f8 3) (f8 6)) (f8 0)) (a0 (g9 r6 (g9 v7 (f8 4) (f8 7)) (f8 0)) d8))))
theorem a8f(D:Df K mg "_law_circles" a04)(M:MoB K mg)(a09:a5m P w K mg base):a0V P w K mg base:=by
 exists z0,1,a25,el2 λ_ _=>rfl
 ext a
 ·exact j5 (i:=2) S.nd a3d
 ext a
 ·exact j5 (i:=3) S.nd (P7 d8)
 ext a
 ·refine C8 PassesOwn.never ?_ ?_ M.Zae ?_ ?_ (n6 4) ?_
  ·exact rfl
  ·exact rfl
  ·exact a0 (g9 B8 (f8 0) (f8 0)) d8
  ·exact j3 (i:=4) S.nd rfl (Or.inl rfl)
  ext a
  ·exact j5 (i:=5) S.nd (b4d a9D rfl M.Zay (by rfl) (f8 4) (f8 0))
  refine f7 ?_;refine B5 ?_ ?_ ?_
  ·exact a1E 2 hu M.nk (pv 2) (f8 5) (by first|rfl|exact a1M _)
  ·ext a
   ·exact j5 (i:=6) S.nd (P7 (a0 (f8 5) d8))
   ext a
   ·exact O7 2 hu M.nk (pv 2) (f8 5) a0D
   ext a
   ·exact j5 (i:=7) S.nd g0
   ext a
   ·refine b10 100 PassesOwn.never ?_ ?_
    ·exact C9 b1b (f8 7) (B3 A6 rfl M.Zan (by rfl) (f8 6))
    ext a
    ·refine S2 PassesOwn.never ?_ ?_ ?_ (n6 8) ?_
     ·exact rfl
     ·exact f8 1
     ·exact j3 (i:=8) S.nd rfl (Or.inl rfl)
     ext a
     ·exact j5 (i:=9) S.nd (l6 a09 hr (by decide) rfl (c8 (c8 (c8 j0))) (a0 (f8 0) (a0 (f8 8) (a0 (l7 (f8 6) (f8 7)) d8))))
     exact f7 (B5 (a1E 2 hu M.nk (pv 2) (f8 9) (by first|rfl|exact a1M _)) (d7 (O7 2 hu M.nk (pv 2) (f8 9) a0D) (f7 (O6 6 (pv 6) (f8 9)))) u8)
    exact f7 (j5 (i:=7) S.nd (g9 v7 (f8 7) g0))
   exact f7 (O6 3 (pv 3) (B3 b1R rfl M.Zat (by rfl) (f8 6)))
  exact u8
 exact f7 (m6 (B3 (b5n hu) rfl M.Zat (by rfl) (f8 3)))
theorem b3G(D:Df K mg "_law_had" a50):a9i P w K mg base:=by
 exists z0,0,a8x,el2 λ_ _=>rfl
 ext a
 ·exact j5 (i:=2) S.nd b7m
 ext a
 ·refine S2 PassesOwn.never ?_ ?_ ?_ (a28 [3,4]) ?_
  ·exact rfl
  ·exact f8 1
  ·exact a5T rfl (A0 (j3 (i:=3) S.nd rfl (Or.inl rfl)) (A0 (j3 (i:=4) S.nd rfl (Or.inl rfl)) a1N))
  exact f7 (b4h 2 hu (pv 2) (l7 (l7 (f8 0) (f8 3)) (f8 4)) (g9 v7 (b7k 2 hu (pv 2) (l7 (l7 (f8 0) (f8 3)) (f8 4)) g0) g0))
 exact f7 (a0F 2 (pv 2))
theorem b3F(D:Df K mg "_law_due" a5Z)(M:MoB K mg)(M7:a0V P w K mg base)(a5t:a9i P w K mg base):a9h P w K mg base:=by
 exists z0,2,a8w,el3 λ_ _ _=>rfl
 ext a
 ·exact j5 (i:=3) S.nd (P7 d8)
 ext a
 ·refine S2 PassesOwn.never ?_ ?_ ?_ (n6 4) ?_
  ·exact rfl
  ·exact l6 M7 hr (by decide) rfl (c8 (c8 j0)) (a0 (B3 A6 rfl M.Zan (by rfl) (f8 0)) (a0 (f8 2) d8))
  ·exact j3 (i:=4) S.nd rfl (Or.inl rfl)
  ext a
  ·exact j5 (i:=5) S.nd (l6 a5t hr (by decide) rfl (c8 (c8 j0)) (a0 (f8 0) (a0 (f8 4) d8))) rfl (Or.inr rfl)
  ext a
  ·exact j5 (i:=6) S.nd (B3 (b39 rfl) rfl M.Zbm (by rfl) (b7l 5 rfl rfl M.Za0 (pv 5))) rfl (Or.inr rfl)
  ext a
  ·refine a6R (i:=7) (ys:=["_law_colour"]) (N0:=[ϡa,ϡe,ϡd,ϡc,"_law_spots","_law_had_here","_law_many","_law_some","_law_there"]) ?_ (λ_ _ h=>h) ?_ ⟨by kernel_rfl,rfl,δ rfl,δ rfl,δ rfl⟩ ?_ (λC fp pins s H=>j3 (i:=9) b05 rfl (Or.inl rfl)) (λn h=>u6 (i:=9) (Nat.le_of_eq h)) ?_ ?_
   ·exact S.nd
   ·exact rfl
   ·exact b0E (B3 (b5m rfl) rfl M.Zat (by rfl) (f8 5))
   ·ext n
    exact b0B (C9 (a0o hu) (b4e 5 hu (pv 5) (f8 9)) (f8 6))
   ext n
   exact f8 9
  ext a
  ·exact j5 (i:=8) S.nd (l7 (l7 (f8 1) (l7 (l7 (f8 4) g0) g0)) (l7 (l7 (f8 4) g0) g0))
  ext a
  ·exact B5 (C9 (a43 hu) (f8 8) (f8 7)) (f7 (j5 (i:=7) S.nd (P7 (a0 (f8 8) d8)))) u8
  exact f7 (O6 3 (pv 3) (C7 (a0 (f8 4) (a0 (l7 (f8 7) g0) (a0 (f8 6) d8)))))
 exact f7 (a0F 3 (pv 3))
theorem b07(D:Df K mg "_law_moved" a2Z)(M:MoB K mg)(a09:a5m P w K mg base):a58 P w K mg base:=by
 exists z0,1,a5a,el2 λ_ _=>rfl
 ext a
 ·exact j5 (i:=2) S.nd (B3 A6 rfl M.Zan (by rfl) (f8 0)) rfl (Or.inr rfl)
 ext a
 ·exact j5 (i:=3) S.nd a3d rfl (Or.inr rfl)
 ext a
 ·refine C8 PassesOwn.never ?_ ?_ M.Zae ?_ ?_ (n6 4) ?_
  ·exact rfl
  ·exact rfl
  ·exact a0 (f8 2) d8
  ·exact j3 (i:=4) S.nd rfl (Or.inl rfl)
  refine f7 ?_
  ext p
  ·exact rfl
  ·exact rfl
  ·exact a0 (f8 2) d8
  ·exact j3 (i:=5) S.nd rfl (Or.inl rfl)
  refine f7 ?_;refine O7 3 ?_ M.nk (pv 3) ?_ ?_
  ·exact hu
  ·exact l6 a09 hr (by decide) rfl (c8 (c8 (c8 j0))) (a0 (f8 2) (a0 (f8 1) (a0 (C7 (a0 (f8 4) (a0 (f8 5) d8))) d8)))
  exact l7 (l7 (f8 0) (f8 4)) (f8 5)
 ext t
 refine a9H a2v ?_ M.Zas ?_ ?_
 ·exact rfl
 ·rfl
 exists y1,["_law_r"],[ϡa,ϡf,ϡj,ϡh,"0_law_r","_law_c"],6,a77
 ·exact rfl
 ·exact N5 rfl M.Zae (a0 (f8 2) d8)
 ext n
 refine a1D ?_ ?_
 ·exact t4
 exists y0,["_law_c"],[ϡa,ϡf,ϡj,ϡh,"0_law_r","0_law_c","_law_r"],7,a78
 ·exact rfl
 ·exact N5 rfl M.Zae (a0 (f8 2) d8)
 ext n
 exact b0C 3 hu (pv 3) (a0 (f8 6) (a0 (f8 7) d8))
theorem b2k(D:Df K mg "_law_good" a4l)(M:MoB K mg)(X1:a1X P w K mg base)(M8:a0W P w K mg base)(C6:R9 P w K mg base)(a5s:a9h P w K mg base)(V2:a2m P w K mg base)(a2x:a58 P w K mg base):a7j P w K mg base:=by
 exists z0,7,a6y,el4 λ_ _ _ _=>rfl
 ext a
 ·refine a6R (i:=4) (ys:=["_law_k"]) (N0:=[ϡa,ϡe,ϡd,ϡb,"_law_bad",ϡc]) ?_ (λ_ _ h=>h) ?_ ⟨by kernel_rfl,rfl,δ rfl,δ rfl,δ rfl⟩ ?_ (λC fp pins s H=>j3 (i:=6) a87 rfl (Or.inl rfl)) (λn h=>u6 (i:=6) (Nat.le_of_eq h)) ?_ ?_
  ·exact S.nd
  ·exact rfl
  ·exact N5 rfl M.Zae (a0 (B3 A6 rfl M.Zan (by rfl) (f8 2)) d8)
  ·ext n
   exact b0B (C9 (X8 hu) (l6 a2x hr (by decide) rfl (c8 (c8 j0)) (a0 (f8 1) (a0 (l7 (f8 2) (f8 6)) d8))) (f8 1))
  ext n
  exact f8 6
 ext a
 ·refine B5 ?_ ?_ ?_
  ·exact C9 (X8 hu) (f8 4) (P7 d8)
  ·ext a
   ·exact j5 (i:=5) S.nd (l6 M8 hr (by decide) rfl (c8 (c8 (c8 j0))) (a0 (f8 0) (a0 (f8 1) (a0 (f8 2) d8))))
   exact f7 (m6 (b26 (l6 V2 hr (by decide) rfl (c8 j0) (a0 (f8 5) d8)) (b28 (b7d (a0o hu) (f8 5) (l7 (f8 4) g0)))))
  exact u8
 ext t
 refine l6 X1 hr ?_ ?_ ?_ ?_
 ·decide
 ·exact rfl
 ·exact c8 (c8 (c8 j0))
 refine a0 ?_ ?_
 ·exact b90 C6 hr (by decide) rfl (c8 (c8 (c8 j0))) (a0 (f8 0) (a0 (f8 1) (a0 (a9H (b64 rfl) rfl M.Za0 (by rfl) (f8 2)) d8)))
 exact a0 (f8 0) (a0 (l6 a5s hr (by decide) rfl (c8 (c8 (c8 j0))) (a0 (f8 0) (a0 (f8 1) (a0 (f8 2) d8)))) d8)
theorem b2j(D:Df K mg "_law_goal" a4k)(M:MoB K mg)(M7:a0V P w K mg base)(A4:a0z P w K mg base):a7i P w K mg base:=by
 exists z0,2,a6x,el4 λ_ _ _ _=>rfl
 ext a
 ·exact j5 (i:=4) S.nd a3d rfl (Or.inr rfl)
 ext a
 ·exact j5 (i:=5) S.nd (l6 M7 hr (by decide) rfl (c8 (c8 j0)) (a0 (f8 0) (a0 (f8 1) d8)))
 ext a
 ·refine C8 PassesOwn.never ?_ ?_ M.Zae ?_ ?_ (n6 6) ?_
  ·exact rfl
  ·exact rfl
  ·exact a0 (B3 A6 rfl M.Zan (by rfl) (f8 5)) d8
  ·exact j3 (i:=6) S.nd rfl (Or.inl rfl)
  refine f7 ?_;refine S2 PassesOwn.never ?_ ?_ ?_ (n6 7) ?_
  ·exact rfl
  ·exact l7 (f8 5) (f8 6)
  ·exact j3 (i:=7) S.nd rfl (Or.inl rfl)
  refine f7 ?_;refine O7 4 ?_ M.nk (pv 4) ?_ ?_
  ·exact hu
  ·exact f8 7
  exact l7 (f8 2) (g9 r6 (g9 K6 (l6 A4 hr (by decide) rfl (c8 (c8 j0)) (a0 (f8 3) (a0 (f8 6) d8))) g0) (B3 A6 rfl M.Zan (by rfl) (f8 2)))
 ext a
 ·refine B5 ?_ ?_ ?_
  ·exact C9 (a0o hu) (g9 r6 (f8 3) g0) g0
  ·refine f7 ?_;refine b93 4 ?_ (pv 4) ?_ ?_
   ·exact hu
   ·exact a0 (g9 r6 (g9 K6 (f8 3) g0) (f8 0)) (a0 (g9 r6 (g9 K6 (f8 3) g0) (f8 0)) d8)
   exact l7 (f8 2) (g9 r6 (g9 K6 (f8 3) g0) (B3 A6 rfl M.Zan (by rfl) (f8 2)))
  exact u8
 ext t
 refine a9H a2v ?_ M.Zas ?_ ?_
 ·exact rfl
 ·rfl
 exists y1,["_law_r"],[ϡj,ϡd,ϡb,ϡi,ϡh,"_law_sets","_law_k","_law_spot"],8,a85
 ·exact rfl
 ·exact N5 rfl M.Zae (a0 (f8 0) d8)
 ext n
 refine a1D ?_ ?_
 ·exact t4
 exists y0,["_law_c"],[ϡj,ϡd,ϡb,ϡi,ϡh,"_law_sets","_law_k","_law_spot","_law_r"],9,a86
 ·exact rfl
 ·exact N5 rfl M.Zae (a0 (f8 0) d8)
 ext n
 exact b0C 4 hu (pv 4) (a0 (f8 8) (a0 (f8 9) d8))
theorem c2E{f:AB}{fd:FuncData}(F:Fun K "law" "law" b88 f fd)(M:MoB K mg)(A4:a0z P w K mg base)(a00:a3A P w K mg base)(U4:a3z P w K mg base)(a1A:a4u P w K mg base)(a0f:a2l P w K mg base)(a3Y:a7j P w K mg base)(a1B:a7i P w K mg base)(M8:a0W P w K mg base):R3 P w K mg base CX0 9 f fd ["_law_script"] (spP K 1 b7F):=by
 refine c1q (k:=8) F b9a λcdv A outer s H E hr=> ?_;have S:=b9a;have hu:=hr.units
 ext a
 ·exact j5 (i:=1) S.nd (l6 A4 hr (by decide) rfl (c8 (c8 j0)) (a0 (l6 U4 hr (by decide) rfl (c8 (c8 j0)) (a0 (f8 0) (a0 g0 d8))) (a0 g0 d8)))
 ext a
 ·exact j5 (i:=2) S.nd (l6 A4 hr (by decide) rfl (c8 (c8 j0)) (a0 (l6 U4 hr (by decide) rfl (c8 (c8 j0)) (a0 (f8 0) (a0 g0 d8))) (a0 g0 d8)))
 ext a
 ·exact j5 (i:=3) S.nd (l6 a00 hr (by decide) rfl (c8 (c8 j0)) (a0 (f8 2) (a0 (g9 v7 g0 (g9 r6 (g9 K6 (f8 2) g0) g0)) d8)))
 ext a
 ·exact j5 (i:=4) S.nd (g9 v7 (a4D (f8 0) (a4E g0) (a4E g0)) (P7 (a0 (B3 A6 rfl M.Zan (by rfl) (f8 0)) d8)))
 ext a
 ·ext p
  ·exact rfl
  ·exact rfl
  ·exact a0 (B3 A6 rfl M.Zan (by rfl) (f8 4)) d8
  ·exact j3 (i:=5) S.nd rfl (Or.inl rfl)
  ext a
  ·exact j5 (i:=6) S.nd (l6 A4 hr (by decide) rfl (c8 (c8 j0)) (a0 (l7 (f8 4) (f8 5)) (a0 (g9 v7 (f8 5) g0) d8))) rfl (Or.inr rfl)
  ext a
  ·exact j5 (i:=7) S.nd (g9 v7 g0 (g9 r6 (g9 v7 (f8 1) (f8 5)) g0)) rfl (Or.inr rfl)
  ext a
  ·refine a2D 3 ?_;refine j5 (i:=8) ?_ ?_
   ·exact S.nd
   refine l6 a1A hr ?_ ?_ ?_ ?_
   ·decide
   ·exact rfl
   ·exact c8 (c8 (c8 (c8 j0)))
   exact a0 (g9 v7 (a4D (f8 4) (a4E (f8 5)) b0G) (a4D (f8 4) b0G (a4E (f8 5)))) (a0 (f8 7) (a0 (f8 3) (a0 (g9 K6 (f8 6) g0) d8)))
  ext a
  ·refine a6R (i:=9) (ys:=["_law_j"]) (N0:=["_law_script","_law_seed","_law_other",ϡb,"_law_cells","_law_k",ϡi,ϡj,ϡa,ϡd,"_law_wider"]) ?_ (λ_ _ h=>h) ?_ ⟨by kernel_rfl,rfl,δ rfl,δ rfl,δ rfl⟩ ?_ (λC fp pins s H=>j3 (i:=11) b8s rfl (Or.inl rfl)) (λn h=>u6 (i:=11) (Nat.le_of_eq h)) (λC fp pins s H=>X4) ?_
   ·exact S.nd
   ·exact rfl
   ·exact N5 rfl M.Zae (a0 (g9 r6 (f8 6) g0) d8)
   ext n
   exact l6 a0f hr (by decide) rfl (c8 (c8 j0)) (a0 (f8 7) (a0 (l6 A4 hr (by decide) rfl (c8 (c8 j0)) (a0 (f8 6) (a0 (g9 v7 g0 (f8 11)) d8))) d8))
  ext a
  ·refine a2D 9 ?_;refine a2D 3 ?_;refine B5 ?_ ?_ ?_
   ·refine X5 ?_;refine S3 ?_;refine l6 a3Y hr ?_ ?_ ?_ ?_
    ·decide
    ·exact rfl
    ·exact c8 (c8 (c8 (c8 j0)))
    refine a0 ?_ ?_
    ·exact f8 8
    refine a0 ?_ ?_
    ·exact l6 a1B hr (by decide) rfl (c8 (c8 (c8 (c8 j0)))) (a0 (f8 7) (a0 (f8 9) (a0 (f8 3) (a0 (g9 K6 (f8 6) g0) d8))))
    exact a0 (f8 9) (a0 (f8 3) d8)
   ·exact f7 (m6 a0D)
   exact u8
  refine f7 ?_;refine B5 ?_ ?_ ?_
  ·exact C9 (a0o hu) (g9 r6 (g9 K6 (f8 6) g0) g0) g0
  ·ext a
   ·refine a2D 3 ?_;refine j5 (i:=10) ?_ ?_
    ·exact S.nd
    exact l6 a1B hr (by decide) rfl (c8 (c8 (c8 (c8 j0)))) (a0 (g9 v7 g0 (g9 r6 (f8 7) g0)) (a0 (P7 d8) (a0 (f8 3) (a0 (g9 K6 (f8 6) g0) d8))))
   exact f7 (a2D 9 (B5 (C9 (X8 hu) (l6 M8 hr (by decide) rfl (c8 (c8 (c8 j0))) (a0 (f8 8) (a0 (f8 10) (a0 (f8 9) d8)))) t4) (f7 (m6 a0D)) u8))
  exact u8
 exact f7 (m6 a0D)
end
theorem c1L{l:PySem.W.OpenLaw}{w:AL}{K:AD}{h:Heap}{mg:Str->Υ AA}{fa:AB}(X:K.In h)(G:h.Ns mainGlobals mg)(hfa:mg "law"=ξ (.ref fa))
 {M9:AB} {a8c a7n:Υ AB} {a8D:Array (Υ AA)} {a8b a7S a7A a8m a2s a7w:AA}
 {Zab:AB}
 {Zac:AB}
 {Zad:AB}
 {Za3:AB}
 {Zaz:AB}
 (A4:Df0 K "_law_mixed" a2Y)
 (a00:Df0 K "_law_letters" a05)
 (U4:Df0 K "_law_cell_at" a03)
 (a1A:Df0 K "_law_carpet" a1R)
 (a5r:Df0 K "_law_all" a5Y)
 (a0f:Df0 K "_law_movement" a0s)
 (V2:Df0 K "_law_whole" a21)
 (a2y:Df0 K "_law_paper" a20)
 (X1:Df0 K "_law_told_well" Y0)
 (a3Z:Df0 K "way_back" a4n)
 (a0g:Df0 K "place_by" a4m)
 (a1C:Df0 K "taken_back" a1S)
 (b1S:Df0 K "led" b89)
 (a5q:Df0 K "knot" b3M)
 (a2z:Df0 K "unlike_at" a22)
 (a7x:Df0 K "leaves" a8r)
 (a1y:Df0 K "check_wish" a1P)
 (a3B:PySem.W.nsIn K mainGlobals "circle_from"=ξ (ξ (.ref M9))) (a3H:K.lookup M9=ξ ⟨a8b,a8c,.func (PySem.W.fnOf "circle_from" "circle_from" (P5 G7) (B2 G7) (f6 G7) .none a7S a7A a8m a7n a2s a7w),a8D⟩) (a8T:PySem.W.codeIn K a2s "circle_from"=true) (a8Y:PySem.W.keepIn K (.ref M9)=true) (a7H:b8A K "circle_from" M9=true)
 (a7y:Df0 K "parted" a8s)
 (a5p:Df0 K "circles" a5X)
 (a0d:Df0 K "coloured_row" a0r)
 (a3X:Df0 K "coloured" a4i)
 (P3:Df0 K "carpet_of_paper" R0)
 (a3c:Df0 K "size_of" a52)
 (a7z:Df0 K "unlike" a8t)
 (X3:Df0 K "told_of_paper" Y2)
 (a1z:Df0 K "colours_of" a1Q)
 (P4:Df0 K "knots_by_colour" R1)
 (a0c:Df0 K "best_colours" a0q)
 (X0:Df0 K "chosen_colour" X9)
 (a0e:Df0 K "knots_at" a4j)
 (X2:Df0 K "mended_circle" Y1)
 (C6:Df0 K "mended_towards" T9)
 (M8:Df0 K "_law_refusal" a06)
 (a09:Df0 K "_law_led" a51)
 (M7:Df0 K "_law_circles" a04)
 (a5t:Df0 K "_law_had" a50)
 (a5s:Df0 K "_law_due" a5Z)
 (a2x:Df0 K "_law_moved" a2Z)
 (a3Y:Df0 K "_law_good" a4l)
 (a1B:Df0 K "_law_goal" a4k)
 (c3O:Df0 K "law" b88)
 (nk:a6r K=true)
 (Zax:PySem.W.nsIn K mainGlobals "CarpetError"=ξ (ξ (.ref Zab))) (Za5:(a2U K Zab "CarpetError" && a7F K Zab)=true)
 (Za4:PySem.W.nsIn K mainGlobals "NoWish"=ξ (ξ (.ref Zac))) (Zbg:(a2U K Zac "NoWish" && a7F K Zac)=true)
 (Zbh:PySem.W.nsIn K mainGlobals "Unlike"=ξ (ξ (.ref Zad))) (Zbi:(a2U K Zad "Unlike" && a7F K Zad)=true)
 (Zau:b3X K Zac=true)
 (Zav:b3X K Zad=true)
 (Za2:PySem.W.excIn K Zad a4U "ValueError.__new__"=true)
 (Zbw:PySem.W.findIn K (.ref Zac) "__init__"=ξ (ξ (.ref Za3))) (Zbj:(a2U K Zac "NoWish" && c2s K Zac)=true) (Zbk:a7G K Zac Za3=true) (Zbl:(["place"]:List Str).all (λg=>PySem.W.findIn K (.ref Zac) g==ξ ζ)=true) (Zbd:Dm K "__init__" "NoWish.__init__" b0a Za3)
 (Za6:PySem.W.readsIn K Zab (.type "type")=true) (Za7:PySem.W.findCls K (.ref Zab) (.type "type") "__init__"=ξ (.val (.builtin "ValueError.__init__"))) (Za8:PySem.W.specialIn K (.ref Zab) "__getattribute__"=ξ (ξ (.builtin "type.__getattribute__")))
 (Zaj:PySem.W.kitOne K (.ref Zac) (.ref Zac)=ξ true)
 (Zao:PySem.W.kitOne K (.ref Zac) (.ref Zad)=ξ false)
 (Zah:PySem.W.kitOne K (.ref Zac) (.type "ValueError")=ξ true)
 (Zak:PySem.W.kitOne K (.ref Zad) (.ref Zac)=ξ false)
 (Zap:PySem.W.kitOne K (.ref Zad) (.ref Zad)=ξ true)
 (Zai:PySem.W.kitOne K (.ref Zad) (.type "ValueError")=ξ true)
 (Zaf:a7O K Zac Zab=true)
 (Zag:a7O K Zad Zab=true)
 (Zaw:PySem.W.nsIn K mainGlobals "ValueError"=ξ ζ)
 (Zbe:PySem.W.nsIn K mainGlobals "bool"=ξ ζ)
 (Zay:PySem.W.nsIn K mainGlobals "divmod"=ξ ζ)
 (Zar:PySem.W.nsIn K mainGlobals "enumerate"=ξ ζ)
 (Zbq:PySem.W.nsIn K mainGlobals "int"=ξ ζ)
 (Zaa:PySem.W.nsIn K mainGlobals "isinstance"=ξ ζ)
 (Zan:PySem.W.nsIn K mainGlobals "len"=ξ ζ)
 (Za0:PySem.W.nsIn K mainGlobals "list"=ξ ζ)
 (Zbm:PySem.W.nsIn K mainGlobals "max"=ξ ζ)
 (Zbn:PySem.W.nsIn K mainGlobals "min"=ξ ζ)
 (Zae:PySem.W.nsIn K mainGlobals "range"=ξ ζ)
 (Zbr:PySem.W.nsIn K mainGlobals "set"=ξ ζ)
 (Zat:PySem.W.nsIn K mainGlobals "sorted"=ξ ζ)
 (Zbs:PySem.W.nsIn K mainGlobals "str"=ξ ζ)
 (Zas:PySem.W.nsIn K mainGlobals "tuple"=ξ ζ)
 (Zbu:PySem.W.nsIn K mainGlobals "LEADS"=ξ (ξ (.ref Zaz)))
 (Zbc:c3n K 9 Zaz=ξ J7) (Zbv:b0N K Zaz=J7.map (λkv=>b5O w kv.1))
 :∃fd:FuncData,(∀(s:AE) (v:AA),BindsTo s fd ⟨[v],[]⟩ [("_law_script",v)])/\∀base:Heap,K.In base->base.Ns mainGlobals mg->R3 l.prog w K mg base CX0 9 fa fd ["_law_script"] (b4Z K):=by
 have D3:FnV K mg "circle_from" M9:=c2a (PySem.W.mg_of X G a3B) a3H rfl a7H
 have U3:Df0 K "circle_from" G7:=c1m a3B a3H a8T a8Y
 have Zam:XC K mg "CarpetError" Zab:=b9w X G Zax Za5
 have Zaq:XC K mg "NoWish" Zac:=b9w X G Za4 Zbg
 have Zal:XC K mg "Unlike" Zad:=b9w X G Zbh Zbi
 have M:MoB K mg:=⟨PySem.W.mg_none_of X G Zaw,PySem.W.mg_none_of X G Zbe,PySem.W.mg_none_of X G Zay,PySem.W.mg_none_of X G Zar,PySem.W.mg_none_of X G Zbq,PySem.W.mg_none_of X G Zaa,PySem.W.mg_none_of X G Zan,PySem.W.mg_none_of X G Za0,PySem.W.mg_none_of X G Zbm,PySem.W.mg_none_of X G Zbn,PySem.W.mg_none_of X G Zae,PySem.W.mg_none_of X G Zbr,PySem.W.mg_none_of X G Zat,PySem.W.mg_none_of X G Zbs,PySem.W.mg_none_of X G Zas,nk⟩
 have Zbo:=PySem.W.mg_of X G Zbu
 have Zbp:Tab l.prog w K Zaz J7:=c3p 9 Zbc Zbv (by decide+kernel)
 have Zba:KX K "NoWish" Zac:=c30 Za4 Zbj
 have Zbb:∀g∈(["place"]:List Str),a2f K Zac g:=c1M Zbl
 have Za9:a9e K ["NoWish"] "place":=(b3d Zba (Zbb _ (by decide)) b5D)
 refine c0i (c3O.to X G) hfa (λ_ _ _ _ _ _ _=>rfl) main λbase f fd kb F=> ?_
 have Za1:b9B l.prog w K mg base "NoWish" ["place"] 1:=b7L (k:=0) Zbd b3N rfl Zba (PySem.W.mg_of X G Za4) Zbk Zbb (by decide+kernel) (by decide) (λ_ _ _ _ _ _=>el2 (λ_ _=>rfl)) λcdv A outer s H E hr=>(a45 (b8U rfl (PySem.W.mg_of X G Zax) Za6 Za7 Za8 (y0 (pv 0) (y0 (pv 1) O3))) (a45 (c0K rfl (pv 0) (pv 1)) b4O))
 have a2e:=b06 l.prog w base (A4.to X G)
 have a8R:=a8g l.prog w base (a00.to X G) M
 have a8Q:=a8e l.prog w base (U4.to X G) M
 have b0o:=a9a l.prog w base (a1A.to X G) M a2e
 have b48:=b3E l.prog w base (a5r.to X G) M
 have a7c:=a6L l.prog w base (a0f.to X G) b48
 have a56:=b09 l.prog w base (V2.to X G) M
 have b1w:=b08 l.prog w base (a2y.to X G) M a56
 have a6F:=a5O l.prog w base (X1.to X G) M b1w
 have b2T:=b2m l.prog w base (a3Z.to X G)
 have a7d:=b2l l.prog w base (a0g.to X G) Zbo Zbp
 have b0p:=a9b l.prog w base (a1C.to X G) b2T a7d
 have c1j:=c2F l.prog w base (b1S.to X G) a7d
 have b6z:=c0y l.prog w base (a5q.to X G) M
 have b1x:=b1a l.prog w base (a2z.to X G) M b0p c1j b6z
 have b6A:=b6b l.prog w base (a7x.to X G) b1x
 have b0m:=a88 l.prog w base (a1y.to X G) M Za1 b6A
 have a3w:=a8d l.prog w base (U3.to X G) M c1j
 have b6B:=b6c l.prog w base (a7y.to X G) M D3 a3w
 have b47:=b3D l.prog w base (a5p.to X G) D3 b6B a3w
 have a7a:=a6K l.prog w base (a0d.to X G) M
 have b2Q:=b2g l.prog w base (a3X.to X G) M a7a
 have a4p:=a4c l.prog w base (P3.to X G) M b2Q
 have b5b:=b3I l.prog w base (a3c.to X G) M
 have b6C:=b6d l.prog w base (a7z.to X G) M b5b
 have a6H:=a5Q l.prog w base (X3.to X G) M a4p b6C
 have b0n:=a89 l.prog w base (a1z.to X G) M
 have a4q:=a4d l.prog w base (P4.to X G) b0n
 have a69:=a6J l.prog w base (a0c.to X G) M
 have a6E:=a5N l.prog w base (X0.to X G) a69
 have a7b:=b2h l.prog w base (a0e.to X G) b6z
 have a6G:=a5P l.prog w base (X2.to X G) a4q a6E a7b
 have a08:=a42 l.prog w base (C6.to X G) M kb Zal Za2 b0m b47 a6H a6G a7b
 have a3y:=a8h l.prog w base (M8.to X G) M Zam Zaq Zal Zaj Zao Zah Zak Zap Zai Zau Zav Za9 Zaf Zag a08
 have a9d:=b3H l.prog w base (a09.to X G)
 have a3x:=a8f l.prog w base (M7.to X G) M a9d
 have b5a:=b3G l.prog w base (a5t.to X G)
 have b49:=b3F l.prog w base (a5s.to X G) M a3x b5a
 have b1v:=b07 l.prog w base (a2x.to X G) M a9d
 have b2S:=b2k l.prog w base (a3Y.to X G) M a6F a3y a08 b49 a56 b1v
 have b2R:=b2j l.prog w base (a1B.to X G) M a3x a2e
 exact c2E l.prog w base F M a2e a8R a8Q b0o a7c b2S b2R a3y
end LW
namespace PySem.W.Fast
def tw2602792134587330860:=()
def tw2350974524871661658:=()
def tw14487224030515802799:=()
def tw12232975162864206079:=()
def tw18209680467498705926:=()
def tw194707396057297080:=()
def tw13822219639707554318:=()
def tw8043023650105058070:=()
def tw9233005518546217164:=()
def tw12345597407557091059:=()
def tw11165312339336862834:=()
def tw11836716882393700890:=()
def tw17549480576159967801:=()
def tw1070082906214345833:=()
def tw6246747412323728506:=()
def tw3774824763842009135:=()
def tw2410843347582355579:=()
def tw11712250673370795825:=()
def tw14096482350287276570:=()
def tw12713628283771797073:=()
def tw15838527426318953163:=()
def tw12070624340680797449:=()
def tw15142016419484656251:=()
def tw16051233304871035903:=()
def tw10757268348032547964:=()
def tw379936136447207375:=()
def tw16690733129053384647:=()
def tw18425929605099832910:=()
def tw681819632379850495:=()
def tw7291679600471355320:=()
def tw8660803483859617705:=()
def tw9699685455276191038:=()
def tw15599915219213025582:=()
def tw2610721104669288420:=()
def tw2083797072978169546:=()
def tw6343811045965470996:=()
def tw12675508338179494625:=()
def tw15729446094498085550:=()
def tw11381132481055941053:=()
def tw2024282537925177985:=()
def tw6613631869716031998:=()
def tw11686307983517156553:=()
def tw13682930483922833376:=()
def tw12440275017298572649:=()
def tw12434459088218017903:=()
def tw14001396368047974543:=()
def tw2746008953461852131:=()
def tw9431931530968013937:=()
def tw11030609664445261991:=()
def tw12598340629216026436:=()
def tw8009717757727345777:=()
def tw6963649747294608772:=()
def tw18315879821638242563:=()
def tw16649722780676549595:=()
def tw8824435898112918039:=()
def tw17216023089142151707:=()
def tw8306899553159760036:=()
def tw14662146745945029792:=()
def tw1813992590195731127:=()
end PySem.W.Fast
open PySem PySem.W PyProof.Rows
set_option maxRecDepth 100000 in
set_option maxHeartbeats 0 in
theorem PySem.Challenge.cw_carpetkin_k93_mended_towards_holds : PySem.Challenge.rw_carpetkin_k93_mended_towards.Holds := by
 w_on;o_law;k_head;(case hw=>w_witness2)
 k_fill
 refine PU.c48 (k:=9) (x:="_law_script") (l:=PySem.Challenge.rw_carpetkin_k93_mended_towards) (by decide) rfl rfl (fun w h Y=>PySem.W.kIn_of Y) ?F
 case F=>
  intro w mg fa h KX G hmg;refine' LW.c1L KX G hmg ?_ ?_ ?_ ?_ ?_ ?_ ?_ ?_ ?_ ?_ ?_ ?_ ?_ ?_ ?_ ?_ ?_ ?_ ?_ ?_ ?_ ?_ ?_ ?_ ?_ ?_ ?_ ?_ ?_ ?_ ?_ ?_ ?_ ?_ ?_ ?_ ?_ ?_ ?_ ?_ ?_ ?_ ?_ ?_ ?_ ?_ ?_ ?_ ?_ ?_ ?_ ?_ ?_ ?_ ?_ ?_ ?_ ?_ ?_ ?_ ?_ ?_ ?_ ?_ ?_ ?_ ?_ ?_ ?_ ?_ ?_ ?_ ?_ ?_ ?_ ?_ ?_ ?_ ?_ ?_ ?_ ?_ ?_ ?_ ?_ ?_ ?_ ?_ ?_ ?_
  all_goals first|(apply PU.c1m<;>k_is)|(apply PU.c3P<;>first|k_is|kernel_rfl)|k_is|kernel_rfl|skip
