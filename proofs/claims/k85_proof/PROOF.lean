import PyProof.Rows.All
import Wide.All
import OpenK.AllK
import Wide.FinOn
import Lean
import PyProof.EqAt
import PyProof.EqKinds
import PyProof.TupleCall
import PyProof.Rows.SortPure
import PyProof.Rows.SortWalk
import PyProof.AttrMissHeap
import KE.KDictOf
import KE.KIntText
import PyProof.StrBlockH
import PyProof.CallStr
import PyProof.StrLawsIn
import PyProof.StrLawsOcc
import PyProof.StationsW
import PyProof.ExcClass2
import PyProof.ExcBaseAll.ValueError
import PyProof.ExcInit
import PyProof.InstStore
import OpenK.KOwn
import OpenK.KMake
import PyProof.InstStoreFacts
import PyProof.ExcAttrAll.ValueError
import OpenK.KCls
import PyProof.RulesTry
import PyProof.Rows.CatchBare
import PyProof.Rows.CatchOwn
import PyProof.NsDelKeeps
import PyProof.Rows.RuleDivmod
import PyProof.Rows.SumAny
import PyProof.CollectStr
import PyProof.Rows.TupAdd
import PySem.Challenge.RW_carpetkin_k85_whole_numbers
set_option Elab.async false
set_option linter.all false
set_option maxRecDepth 100000
noncomputable section
open PySem renaming Value -> AA
open PySem renaming Addr -> AB
open PySem renaming Shared -> AC
open PySem renaming wpAny_bind -> AD
open PySem.W renaming Frag -> AE
open PySem renaming wpAny -> AF
open PySem renaming Expr -> AG
open Option renaming bind_some -> AH
open PySem renaming wpAny_pure -> AI
open PySem renaming World -> AJ
open PySem.Str renaming ofString -> AK
open PySem renaming Program -> AL
open PySem renaming Around -> AM
open PySem renaming starEach -> AN
open PySem renaming sizeLine -> AO
open List renaming map_cons -> AQ
open List renaming range -> AR
open Nat renaming le_refl -> AS
open List renaming length_cons -> AT
open List renaming replicate_zero -> AU
open List renaming replicate -> AV
open List renaming map_nil -> AW
open List renaming set_cons_zero -> AX
open List renaming set_cons_succ -> AY
open List renaming replicate_succ -> AZ
open List renaming cons_append -> Aa
open PySem.Heap renaming get?_push_of_some -> Ab
open List renaming length_map -> Ac
open List renaming nil_append -> Ad
open List renaming length_nil -> Ae
open PySem.Heap renaming lt_size -> Af
open List renaming mem_cons -> Ag
open Nat renaming reduceLeDiff -> Ah
open Nat renaming ne_of_lt -> Ai
open List renaming mem_map -> Aj
open List renaming append_nil -> Ak
open List renaming getElem?_map -> Al
open List renaming size_toArray -> Am
open List renaming mem_cons_of_mem -> An
open PySem.Heap renaming get?_push_size -> Ao
open List renaming mem_cons_self -> Aq
open List renaming length_append -> Ar
open List renaming getElem?_eq_some_iff -> As
open List renaming length_range -> At
open Nat renaming lt_of_lt_of_le -> Au
open Option renaming map_some -> Av
open List renaming map_map -> Aw
open Bool renaming false_ne_true -> Ax
open Bool renaming false_eq_true -> Ay
open List renaming getElem?_eq_getElem -> Az
open List renaming mem_append_right -> BA
open List renaming mem_append -> BB
open List renaming mem_of_getElem? -> BC
open List renaming getElem?_append_left -> BD
open Nat renaming le_of_lt -> BE
open List renaming map_append -> BF
open Int renaming toNat_natCast -> BG
open List renaming mem_append_left -> BH
open List renaming getElem?_set_self -> BI
namespace L2
open PySem PySem.Spec PyProof.Rows
theorem t6{α β γ:Type _}{p q r:α->β->γ->Prop}{C:Prop}(h:∃a b c,p a b c/\q a b c/\r a b c)(k:∀a b c,p a b c->q a b c->r a b c->C):C:=
 h.elim fun a h=>h.elim fun b h=>h.elim fun c h=>k a b c h.1 h.2.1 h.2.2
theorem j8{α β:Type _}{p q r:α->β->Prop}{C:Prop}(h:∃a b,p a b/\q a b/\r a b)(k:∀a b,p a b->q a b->r a b->C):C:=
 h.elim fun a h=>h.elim fun b h=>k a b h.1 h.2.1 h.2.2
theorem a5f{α β:Type _}{p q r s:α->β->Prop}{C:Prop}(h:∃a b,p a b/\q a b/\r a b/\s a b)(k:∀a b,p a b->q a b->r a b->s a b->C):C:=
 h.elim fun a h=>h.elim fun b h=>k a b h.1 h.2.1 h.2.2.1 h.2.2.2
abbrev m3:=Sum Int Str
def a5X:m3->AA->Bool
 | .inl k,v=>Value.isInt k v
 | .inr x,v=>Value.isStrOf x v
def b25(w:AJ):m3->Int
 | .inl k=>hashInt k
 | .inr x=>hashStr w x
theorem v9:∀{k:m3} {v:AA},a5X k v=true->(∃i t,k=Sum.inl i/\v=Value.int i t)\/(∃x t,k=Sum.inr x/\v=Value.str x t)
 | .inl i,v,h=>by
   obtain⟨t,e⟩:=Value.isInt_shape (k:=i) (v:=v) h
   exact .inl ⟨i,t,rfl,e⟩
 | .inr x,v,h=>by
   obtain⟨t,e⟩:=Value.isStrOf_shape (x:=x) (v:=v) h
   exact .inr ⟨x,t,rfl,e⟩
theorem b26(i:Int)(t:Tok):a5X (.inl i) (.int i t)=true:=by simp [a5X,Value.isInt]
theorem b27(x:Str)(t:Tok):a5X (.inr x) (.str x t)=true:=by simp [a5X,Value.isStrOf]
theorem b8M(a b:Int):decide ((Sum.inl a:m3)=Sum.inl b)=(a==b):=by
 by_cases e:a=b
 ·subst e;simp
 ·have h:¬(Sum.inl a:m3)=Sum.inl b:=fun q=>e (Sum.inl.inj q)
  rw [decide_eq_false h]
  exact(beq_eq_false_iff_ne.mpr e).symm
theorem b8P(a b:Str):decide ((Sum.inr a:m3)=Sum.inr b)=decide (a=b):=by
 by_cases e:a=b
 ·subst e;simp
 ·have h:¬(Sum.inr a:m3)=Sum.inr b:=fun q=>e (Sum.inr.inj q)
  rw [decide_eq_false h,decide_eq_false e]
theorem b8N(a:Int)(b:Str):decide ((Sum.inl a:m3)=Sum.inr b)=false:=decide_eq_false (fun q=>nomatch q)
theorem b8O(a:Str)(b:Int):decide ((Sum.inr a:m3)=Sum.inl b)=false:=decide_eq_false (fun q=>nomatch q)
def l0(prog:AL)(w:AJ):PySem.KeyKind prog w m3 where
 is:=a5X
 hash:=b25 w
 inj:=fun v a b ha hb=>by
  rcases v9 ha with⟨i,t,rfl,rfl⟩|⟨x,t,rfl,rfl⟩
  ·rcases v9 hb with⟨j,u,rfl,e⟩|⟨y,u,rfl,e⟩
   ·injection e with e1 _;rw [e1]
   ·exact nomatch e
  ·rcases v9 hb with⟨j,u,rfl,e⟩|⟨y,u,rfl,e⟩
   ·exact nomatch e
   ·injection e with e1 _;rw [e1]
 byValue:=fun k v h=>by
   rcases v9 h with⟨i,t,rfl,rfl⟩|⟨x,t,rfl,rfl⟩<;>rfl
 pyHash:=fun hv h=>by
  rcases v9 hv with⟨i,t,rfl,rfl⟩|⟨x,t,rfl,rfl⟩
  ·exact wpAny_pyHash_int h
  ·exact wpAny_pyHash_str h
 eqBool:=fun hu hv h=>by
  rcases v9 hu with⟨i,t,rfl,rfl⟩|⟨x,t,rfl,rfl⟩
  ·rcases v9 hv with⟨j,u,rfl,rfl⟩|⟨y,u,rfl,rfl⟩
   ·rw [b8M] at h;exact wpAny_eqBool_int h
   ·rw [b8N] at h;exact SeqAt.EqAt.int_str i t y u _ _ _ _ h
  ·rcases v9 hv with⟨j,u,rfl,rfl⟩|⟨y,u,rfl,rfl⟩
   ·rw [b8O] at h;exact SeqAt.EqAt.str_int x t j u _ _ _ _ h
   ·rw [b8P] at h;exact wpAny_eqBool_str h
 «strs»:=fun k x t v h=>by
  rcases v9 h with⟨i,u,rfl,e⟩|⟨y,u,rfl,e⟩
  ·exact nomatch e
  ·injection e with e1 _
   subst e1
   cases v<;>rfl
theorem a4M(prog:AL)(w:AJ)(i:Int)(t:Tok):(l0 prog w).is (.inl i) (.int i t)=true:=b26 i t
theorem Q5(prog:AL)(w:AJ)(x:Str)(t:Tok):(l0 prog w).is (.inr x) (.str x t)=true:=b27 x t
inductive V where
 |non|bl (b:Bool)|int (i:Int)|str (x:Str)|byt (b:Array UInt8)|flt (b:UInt64)|ref (a:AB)|ty (n:String)
 deriving DecidableEq
def l8:V->AA->Prop
 | .non,u=>u=Value.none
 | .bl b,u=>u=Value.bool b
 | .int i,u=>∃t,u=Value.int i t
 | .str x,u=>∃t,u=Value.str x t
 | .byt b,u=>∃t,u=Value.bytes b t
 | .flt b,u=>∃t,u=Value.float b t
 | .ref a,u=>u=Value.ref a
 | .ty n,u=>u=Value.type n
abbrev l9:List V->List AA->Prop:=Paired l8
theorem l9.length{xs:List V}{us:List AA}(r:l9 xs us):xs.length=us.length:=Paired.length r
theorem l9.get:∀{xs:List V} {us:List AA} {i:Nat} {x:V},l9 xs us->xs[i]?=some x->∃u,us[i]?=some u/\l8 x u
 |_,_,_,_,.nil,e=>by simp at e
 |_,_,0,_,.cons r _,e=>by simp at e;subst e;exact⟨_,rfl,r⟩
 |_,_,i+1,x,.cons _ t,e=>by
  obtain⟨u,h1,h2⟩:=l9.get (i:=i) (x:=x) t (by simpa using e)
  exact⟨u,by simpa using h1,h2⟩
theorem l9.set{x:V}{u:AA}(r:l8 x u):∀{xs:List V} {us:List AA} (i:Nat),l9 xs us->l9 (xs.set i x) (us.set i u)
 |_,_,_,.nil=> .nil
 |_,_,0,.cons _ t=> .cons r t
 |_,_,i+1,.cons q t=> .cons q (l9.set r i t)
theorem l9.append:∀{xs ys:List V} {us ws:List AA},l9 xs us->l9 ys ws->l9 (xs++ys) (us++ws)
 |_,_,_,_,.nil,s=>s
 |_,_,_,_,.cons r t,s=> .cons r (l9.append t s)
theorem l9.take:∀{xs:List V} {us:List AA} (n:Nat),l9 xs us->l9 (xs.take n) (us.take n)
 |_,_,0,_=> .nil
 |_,_,_+1,.nil=> .nil
 |_,_,n+1,.cons r t=> .cons r (l9.take n t)
theorem l9.drop:∀{xs:List V} {us:List AA} (n:Nat),l9 xs us->l9 (xs.drop n) (us.drop n)
 |_,_,0,r=>r
 |_,_,_+1,.nil=> .nil
 |_,_,n+1,.cons _ t=>l9.drop n t
def a2V:Option V->Option AA->Prop
 |some v,some u=>l8 v u
 |none,none=>True
 |_,_=>False
def KV{κ:Type}:List (κ×V)->List (κ×AA)->Prop:=Paired fun(p:κ×V) (q:κ×AA)=>p.1=q.1/\l8 p.2 q.2
def kV:m3->V
 | .inl i=> .int i
 | .inr x=> .str x
inductive HO where
 |lst (xs:List V)
 |tup (xs:List V)
 |dK (kvs:List (m3×V))|dT (kvs:List (List m3×V))
 |set (S:Int->Bool) (n:Nat)
 |ins (C dx:AB) (fs:List (Str×V))
 |own (x:AB)
 |xd (fs:List (Str×V))
 |met (f x:AB)
 |rng (lo hi:Int)
 |frz (o:Obj) (u:HO)
 |tbl (ps:Array AA)
 |ext (φ:Heap->Prop)
abbrev Hp:=AB->Option HO
def t8(H:Hp)(a:AB)(o:HO):Hp:=fun b=>if b=a then some o else H b
theorem j7{H:Hp}{a:AB}{o:HO}:t8 H a o a=some o:=by unfold t8;rw [if_pos rfl]
theorem g6{H:Hp}{a b:AB}{o:HO}(h:b≠a):t8 H a o b=H b:=by unfold t8;rw [if_neg h]
theorem b2w{H:Hp}{a:AB}{o u:HO}:t8 (t8 H a o) a u=t8 H a u:=by
 funext b;unfold t8;split<;>rfl
theorem c0i{H:Hp}{a b:AB}{o u:HO}(h:H a=some o)(h':H b=some u)(d:o≠u):a≠b:=by
 intro e;subst e;rw [h] at h';exact d (Option.some.inj h')
theorem j9{H:Hp}{a b:AB}{o:HO}(h:H a=some o)(h':H b=none):a≠b:=by
 intro e;subst e;rw [h] at h';cases h'
section
variable (P:AL)(w:AJ)
def A7(H:Hp)(h:Heap)(a:AB):HO->Prop
 | .lst xs=>xs.length<=AO/\∃(its:List AA) (n:Nat),l9 xs its/\h.get? a=some {cls:= .type "list",data:= .seq its.toArray n}
 | .tup xs=>xs.length<=AO/\∃its:List AA,l9 xs its/\IsTup h a its.toArray
 | .dK kvs=>kvs.length<=AO/\(a==sysModules)=false/\∃vs,KV kvs vs/\h.DictOf (l0 P w) a vs
 | .dT kvs=>kvs.length<=AO/\(a==sysModules)=false/\∃xs:List (List m3×AB×AA),
  Paired (fun(p:List m3×V) (q:List m3×AB×AA)=>p.1=q.1/\H q.2.1=some (.tup (p.1.map kV))/\l8 p.2 q.2.2) kvs xs/\
  ∃o es ep,h.get? a=some o/\o.ExactDict/\o.data= .dict es ep/\es.toList=xs.map (entryOfKey (tupleKind (l0 P w)))/\(xs.map (·.1)).Nodup
 | .set S n=>h.SetOf (intKind P w) a S n
 | .ins C dx fs=>H dx=some (.own a)/\fs.length<=1000/\dx≠a/\h.get? a=some (PySem.W.instObj C dx)/\
  ∃mA,h.Ns1 dx mA/\(∀f,a2V (fs.lookup f) (mA f))/\PySem.Within mA (fs.map (·.1))
 | .own _=>∃o,h.get? a=some o
 | .xd fs=>∃mA,h.Ns1 a mA/\∀f,a2V (fs.lookup f) (mA f)
 | .rng lo hi=>∃t u v,h.get? a=some {cls:= .type "range",data:= .fields #[.int lo t,.int hi u,.int 1 v]}
 | .frz o u=>h.get? a=some o/\A7 H h a u
 | .tbl ps=>h.get? a=some {cls:= .none,data:= .fields ps}
 | .met f x=>h.get? a=some (PySem.W.methodObj (.ref f) (.ref x))
 | .ext φ=>φ h/\(∃o,h.get? a=some o)/\∀h1 h2:Heap,φ h1->(∀o,h1.get? a=some o->h2.get? a=some o)->φ h2
def HOk(H:Hp)(h:Heap):Prop:=∀a o,H a=some o->A7 P w H h a o
end
section
variable {P:AL}{w:AJ}{H H':Hp}{h h':Heap}{a:AB}{o:HO}
theorem A7.lt(x:A7 P w H h a o):a<h.objs.size:=by
 cases o with
 |lst xs=>obtain⟨_,_,_,_,e⟩:=x;exact Af e
 |tup xs=>obtain⟨_,_,_,p⟩:=x;exact p.lt
 |dK kvs=>obtain⟨_,_,_,_,o,_,_,e,_⟩:=x;exact Af e
 |dT kvs=>obtain⟨_,_,_,_,o,_,_,e,_⟩:=x;exact Af e
 |set S n=>obtain⟨o,_,_,_,e,_⟩:=x;exact Af e
 |ins C dx fs=>obtain⟨_,_,_,e,_⟩:=x;exact Af e
 |own y=>obtain⟨_,e⟩:=x;exact Af e
 |xd fs=>obtain⟨_,⟨_,_,_,e,_⟩,_⟩:=x;exact Af e
 |rng lo hi=>obtain⟨_,_,_,e⟩:=x;exact Af e
 |frz ob u=>obtain⟨e,_⟩:=x;exact Af e
 |tbl ps=>exact Af (show h.get? a=some _ from x)
 |met f y=>exact Af (show h.get? a=some _ from x)
 |ext φ=>obtain⟨_,⟨_,e⟩,_⟩:=x;exact Af e
theorem Paired.mapP{α β:Type}{F G:α->β->Prop}:∀{l₁:List α} {l₂:List β},Paired F l₁ l₂->(∀a b,F a b->G a b)->Paired G l₁ l₂
 |_,_,.nil,_=> .nil
 |_,_,.cons r t,f=> .cons (f _ _ r) (Paired.mapP t f)
theorem A7.stay(x:A7 P w H h a o)(k:∀b u,(b=a\/H b=some (.own a))->h.get? b=some u->h'.get? b=some u)
 (ho:∀b,H b=some (.own a)->H' b=some (.own a)) (ht:∀b xs,H b=some (.tup xs)->H' b=some (.tup xs)):A7 P w H' h' a o:=by
 induction o with
 |lst xs=>obtain⟨z,its,n,r,e⟩:=x;exact⟨z,its,n,r,k _ _ (.inl rfl) e⟩
 |tup xs=>obtain⟨z,its,r,ob,e,c⟩:=x;exact⟨z,its,r,ob,k _ _ (.inl rfl) e,c⟩
 |dK kvs=>obtain⟨z,y,vs,r,ob,es,ep,e,c⟩:=x;exact⟨z,y,vs,r,ob,es,ep,k _ _ (.inl rfl) e,c⟩
 |dT kvs=>
  obtain⟨z,y,xs,r,ob,es,ep,e,c⟩:=x
  exact⟨z,y,xs,Paired.mapP r fun p q z=>⟨z.1,ht _ _ z.2.1,z.2.2⟩,ob,es,ep,k _ _ (.inl rfl) e,c⟩
 |set S n=>obtain⟨ob,es,ep,t,e,c⟩:=x;exact⟨ob,es,ep,t,k _ _ (.inl rfl) e,c⟩
 |ins C dx fs=>
  obtain⟨d,z,ne,e,mA,⟨od,es,ep,e2,c⟩,r⟩:=x
  exact⟨ho _ d,z,ne,k _ _ (.inl rfl) e,mA,⟨od,es,ep,k _ _ (.inr d) e2,c⟩,r⟩
 |own y=>obtain⟨ob,e⟩:=x;exact⟨ob,k _ _ (.inl rfl) e⟩
 |xd fs=>obtain⟨mA,⟨od,es,ep,e,c⟩,r⟩:=x;exact⟨mA,⟨od,es,ep,k _ _ (.inl rfl) e,c⟩,r⟩
 |rng lo hi=>obtain⟨t,u,v,e⟩:=x;exact⟨t,u,v,k _ _ (.inl rfl) e⟩
 |frz ob u ih=>obtain⟨e,q⟩:=x;exact⟨k _ _ (.inl rfl) e,ih q⟩
 |tbl ps=>
  have e:h.get? a=some {cls:= .none,data:= .fields ps}:=x
  show h'.get? a=some {cls:= .none,data:= .fields ps}
  exact k a _ (.inl rfl) e
 |met f y=>
  have e:h.get? a=some (PySem.W.methodObj (.ref f) (.ref y)):=x
  show h'.get? a=some (PySem.W.methodObj (.ref f) (.ref y))
  exact k a _ (.inl rfl) e
 |ext φ=>obtain⟨p,⟨o,e⟩,st⟩:=x;exact⟨st _ _ p fun o q=>k _ _ (.inl rfl) q,⟨o,k _ _ (.inl rfl) e⟩,st⟩
theorem HOk.lt(x:HOk P w H h)(e:H a=some o):a<h.objs.size:=(x a o e).lt
theorem HOk.fresh(x:HOk P w H h)(e:h.objs.size<=a):H a=none:=by
 cases q:H a with
 |none=>rfl
 |some u=>exact absurd (Au (x.lt q) e) (Nat.lt_irrefl _)
theorem HOk.kept(x:HOk P w H h)(k:∀b u,h.get? b=some u->h'.get? b=some u):HOk P w H h':=fun a o e=>
 (x a o e).stay (fun b u _ q=>k b u q) (fun _ q=>q) fun _ _ q=>q
theorem HOk.laid(x:HOk P w H h)(k:∀b u,h.get? b=some u->h'.get? b=some u)(hp:h.objs.size<=a)(new:A7 P w (t8 H a o) h' a o):HOk P w (t8 H a o) h':=fun b u e=>by
 have hn:=x.fresh hp
 by_cases hb:b=a
 ·subst hb;rw [j7] at e;cases e;exact new
 ·rw [g6 hb] at e
  exact(x b u e).stay (fun c v _ q=>k c v q) (fun c q=>by rw [g6 (j9 q hn)];exact q) fun c xs q=>by rw [g6 (j9 q hn)];exact q
end
def Rd(H:Hp)(a:AB)(u:HO):Prop:=H a=some u\/∃o,H a=some (.frz o u)
theorem Rd.ok{P:AL}{w:AJ}{H:Hp}{h:Heap}{a:AB}{u:HO}(r:Rd H a u)(x:HOk P w H h):A7 P w H h a u:=by
 rcases r with r|⟨o,r⟩
 ·exact x a u r
 ·obtain⟨_,q⟩:=x a _ r
  exact q
def Mut:Option HO->Prop
 |some (.lst _)=>True
 |some (.dK _)=>True
 |some (.dT _)=>True
 |some (.set _ _)=>True
 |some (.ins _ _ _)=>True
 |some (.ext _)=>True
 |_=>False
section
variable {P:AL}{w:AJ}{H:Hp}{h h':Heap}{x e:AB}{o':HO}
theorem HOk.write(ok:HOk P w H h)(mu:Mut (H x))(he:e=x\/H e=some (.own x))(k:∀b u,b≠e->h.get? b=some u->h'.get? b=some u)(heo:∃u,h'.get? e=some u)
 (new:A7 P w (t8 H x o') h' x o'):HOk P w (t8 H x o') h':=fun b u q=>by
 have nown:∀c y,H c=some (.own y)->c≠x:=fun c y r z=>by subst z;rw [r] at mu;exact mu
 have ntup:∀c xs,H c=some (.tup xs)->c≠x:=fun c xs r z=>by subst z;rw [r] at mu;exact mu
 by_cases hb:b=x
 ·subst hb;rw [j7] at q;cases q;exact new
 ·rw [g6 hb] at q
  by_cases hbe:b=e
  ·have q':H b=some (.own x):=by
    rcases he with z|z
    ·exact absurd (hbe.trans z) hb
    ·rw [hbe];exact z
   rw [q] at q';cases q'
   obtain⟨v,hv⟩:=heo
   exact⟨v,by rw [hbe];exact hv⟩
  ·refine(ok b u q).stay (fun c v hc r=>k c v ?_ r) (fun c r=>by rw [g6 (nown c b r)];exact r) fun c xs r=>by rw [g6 (ntup c xs r)];exact r
   rcases hc with rfl|hc
   ·exact hbe
   ·rintro rfl
    rcases he with z|z
    ·exact nown c b hc z
    ·rw [hc] at z;cases z;exact hb rfl
end
structure Un(fs ex:List AB)(H H':Hp)(h h':Heap):Prop where
 keep:∀b o,h.get? b=some o->H b=none->b∉fs->b∉ex->h'.get? b=some o
 slot:∀b o,h.get? b=some o->H b=none->b∈fs->b∉ex->∃sl,h'.get? b=some {o with slots:=sl}
 free:∀b o,h.get? b=some o->H b=none->b∉ex->H' b=none
 there:∀b o,h.get? b=some o->b∉ex->∃o',h'.get? b=some o'
 tups:∀b xs,H b=some (.tup xs)->H' b=some (.tup xs)
 frzs:∀b o u,H b=some (.frz o u)->H' b=some (.frz o u)
 tbls:∀b ps,H b=some (.tbl ps)->∃more,H' b=some (.tbl (ps++more))
section
variable {fs fs' ex ex':List AB}{H H1 H2:Hp}{h h1 h2 h':Heap}{a x e:AB}{o:HO}
theorem Un.any(u:Un fs ex H H1 h h1){b:AB}{ob:Obj}(q:h.get? b=some ob)(n:H b=none)(hx:b∉ex):∃sl,h1.get? b=some {ob with slots:=sl}:=by
 by_cases hb:b∈fs
 ·exact u.slot b ob q n hb hx
 ·exact⟨ob.slots,u.keep b ob q n hb hx⟩
theorem Un.kept(k:∀b u,h.get? b=some u->h'.get? b=some u):Un fs ex H H h h':=
 ⟨fun b ob q _ _ _=>k b ob q,fun b ob q _ _ _=>⟨ob.slots,k b ob q⟩,fun _ _ _ n _=>n,fun b ob q _=>⟨ob,k b ob q⟩,fun _ _ q=>q,fun _ _ _ q=>q,fun _ ps q=>⟨#[],by rw [q];simp⟩⟩
theorem Un.refl:Un fs ex H H h h:=Un.kept fun _ _ q=>q
theorem Un.laid(k:∀b u,h.get? b=some u->h'.get? b=some u)(hp:h.objs.size<=a)(hn:H a=none):Un fs ex H (t8 H a o) h h' where
 keep:=fun b u q _ _ _=>k b u q
 slot:=fun b u q _ _ _=>⟨u.slots,k b u q⟩
 free:=fun b u q n _=>by rw [g6 (Ai (Au (Af q) hp))];exact n
 there:=fun b u q _=>⟨u,k b u q⟩
 tups:=fun b xs q=>by rw [g6 (j9 q hn)];exact q
 frzs:=fun b u xs q=>by rw [g6 (j9 q hn)];exact q
 tbls:=fun b ps q=>⟨#[],by rw [g6 (j9 q hn),q];simp⟩
theorem Un.write(mu:Mut (H x))(he:e=x\/H e=some (.own x))(k:∀b u,b≠e->h.get? b=some u->h'.get? b=some u)(heo:∃u,h'.get? e=some u):Un fs ex H (t8 H x o) h h':=by
 have hx:∀b,H b=none->b≠x:=fun b n z=>by subst z;rw [n] at mu;exact mu
 have hb:∀b,H b=none->b≠e:=fun b n z=>by
  subst z
  rcases he with r|r
  ·exact hx b n r
  ·rw [n] at r;cases r
 have hm:∀b u,H b=some u->¬Mut (some u)->b≠x:=fun b u q nm z=>by subst z;rw [q] at mu;exact nm mu
 refine⟨fun b u q n _ _=>k b u (hb b n) q,fun b u q n _ _=>⟨u.slots,k b u (hb b n) q⟩,fun b u q n _=>by rw [g6 (hx b n)];exact n,fun b u q _=> ?_,
  fun b xs q=>by rw [g6 (hm b _ q fun z=>z)];exact q,fun b u xs q=>by rw [g6 (hm b _ q fun z=>z)];exact q,fun b ps q=>⟨#[],by rw [g6 (hm b _ q fun z=>z),q];simp⟩⟩
 by_cases hbe:b=e
 ·subst hbe;exact heo
 ·exact⟨u,k b u hbe q⟩
end
def trk(h:Heap)(H:Hp):List AB:=(AR h.objs.size).filter fun a=>(H a).isSome
def a8u(h:Heap)(H:Hp):Heap:=PySem.W.hideAll h (trk h H)
theorem b2Y(h:Heap)(H:Hp):(a8u h H).objs.size=h.objs.size:=PySem.W.hideAll_size _ _
theorem b4B{h:Heap}{H:Hp}{b:AB}{o:Obj}(e:h.get? b=some o)(n:H b=none):(a8u h H).get? b=some o:=
 PySem.W.hideAll_get _ e fun hm=>by
  have q:(H b).isSome=true:=(List.mem_filter.mp hm).2
  rw [n] at q;simp at q
theorem b6U{h:Heap}{H:Hp}{b:AB}{o:Obj}(e:(a8u h H).get? b=some o):h.get? b=some o/\H b=none:=by
 have e':h.get? b=some o:=PySem.W.of_hideAll (trk h H) e
 refine⟨e', ?_⟩
 cases q:H b with
 |none=>rfl
 |some x=>
  have hm:b∈trk h H:=List.mem_filter.mpr ⟨List.mem_range.mpr (Af e'),by simp [q]⟩
  have z:(a8u h H).get? b=none:=PySem.W.hideAll_none (trk h H) hm
  rw [z] at e;cases e
structure Mod(K:AE)(mg:Str->Option AA)(base:Heap):Prop where
 kin:K.In base
 glob:base.Ns mainGlobals mg
 blt:∃mb,base.Ns builtinsNs mb/\∀x:Str,x≠"__name__"->mb x=bootBuiltins x
 nolimit:base.NoLimit
structure Cx where
 prog:AL
 w:AJ
 K:AE
 mg:Str->Option AA
 base:Heap
 A:AM
 N:List Str
 s₀:AC
 H₀:Hp
 env:Env
 outer:List Env
 stack:List Env
 ex:List AB
 fn:Str->Bool
 calm:Bool
 pn:List (AB×Obj)
 xe:AA->AC->Prop
def frs(l:List Env):List AB:=l.filterMap (·.frame)
abbrev Cx.fs(X:Cx):List AB:=frs X.outer
def Vis(sc:Scope)(x:Str):Prop:=sc.names.lookup x=some .local\/sc.names.lookup x=some .cell\/sc.names.lookup x=some .free
def Loc(sc:Scope)(x:Str):Prop:=sc.names.lookup x=some .local\/sc.names.lookup x=some .cell
def c0Y(env:Env)(h:Heap)(m:Str->Option AA)(x:Str)(u:AA):Prop:=
 (env.kindOf x=some .local/\m x=some u)\/((env.kindOf x=some .cell\/env.kindOf x=some .free)/\∃c,env.cells.lookup x=some c/\h.IsCell c (some u))
structure Cx.Ok(X:Cx):Prop where
 mod:Mod X.K X.mg X.base
 kind:X.env.scope.kind= .function
 glob:X.env.globals=mainGlobals
 blt:X.env.builtins=builtinsNs
 above:X.s₀.heap.objs.size<=X.env.locals
 inj:∀x y c,X.env.cells.lookup x=some c->X.env.cells.lookup y=some c->x=y
 has:∀x,(X.env.kindOf x=some .cell\/X.env.kindOf x=some .free)->∃c,X.env.cells.lookup x=some c
 cab:∀x c,X.fn x=true->X.env.cells.lookup x=some c->X.s₀.heap.objs.size<=c
 hd:X.calm=true->X.A.handled=none
 frames:X.A.frames=some X.stack
 stk:X.stack=X.outer\/(X.stack=X.env::X.outer/\X.env.frame=some X.env.locals)
 exf:∀b∈X.ex,b≠X.env.locals/\∀x c,X.env.cells.lookup x=some c->c≠b
 bs:∀b o,X.base.get? b=some o->X.s₀.heap.get? b=some o/\X.H₀ b=none
 bsz:X.base.objs.size<=X.s₀.heap.objs.size
 noex:∀b o,X.base.get? b=some o->b∉X.ex
 exfs:∀b∈X.ex,b∉X.fs
 funs:X.s₀.heap.FunFrames X.base X.outer
 frf:∀b∈X.fs,X.H₀ b=none
structure e9(X:Cx)(pins:List (AB×Obj))(σ:List (Option V))(H:Hp)(s:AC):Prop where
 ok:X.Ok
 os:s.os=X.s₀.os
 bare:AllBare s.gens
 base:Un X.fs X.ex X.H₀ H X.s₀.heap s.heap
 loc:∃m,s.heap.Ns X.env.locals m/\∀(i:Nat) (x:Str) (v:V),X.N[i]?=some x->σ[i]?=some (some v)->Vis X.env.scope x->∃u,l8 v u/\c0Y X.env s.heap m x u
 cell:∀x c,X.env.cells.lookup x=some c->∃v,s.heap.IsCell c v
 free:H X.env.locals=none
 freeC:∀x c,X.env.cells.lookup x=some c->H c=none
 pin:∀p∈X.pn++pins,s.heap.get? p.1=some p.2/\H p.1=none/\p.1≠X.env.locals/\p.1∉X.fs/\∀v,p.2.data≠.cell v
 hok:HOk X.prog X.w H s.heap
 len:σ.length=X.N.length
section
variable {X:Cx}{pins:List (AB×Obj)}{σ:List (Option V)}{H H':Hp}{s:AC}{h':Heap}
theorem Cx.Ok.nofr(ok:X.Ok){b:AB}{o:Obj}(e:X.base.get? b=some o):b∉X.fs:=fun hb=>by
 have:=(ok.funs.mem hb).1
 rw [e] at this;cases this
theorem e9.bs(I:e9 X pins σ H s):∀b o,X.base.get? b=some o->s.heap.get? b=some o/\H b=none:=fun b o e=>
 ⟨I.base.keep b o (I.ok.bs b o e).1 (I.ok.bs b o e).2 (I.ok.nofr e) (I.ok.noex b o e),I.base.free b o (I.ok.bs b o e).1 (I.ok.bs b o e).2 (I.ok.noex b o e)⟩
theorem e9.bk(I:e9 X pins σ H s):∀b o,X.base.get? b=some o->s.heap.get? b=some o:=fun b o e=>(I.bs b o e).1
theorem e9.mod(I:e9 X pins σ H s):Mod X.K X.mg X.base:=I.ok.mod
theorem e9.kIn(I:e9 X pins σ H s):X.K.In s.heap:=I.ok.mod.kin.keeps I.bk
theorem e9.lt(I:e9 X pins σ H s):X.env.locals<s.heap.objs.size:=by obtain⟨_,hn,_⟩:=I.loc;exact hn.lt
theorem e9.sz(I:e9 X pins σ H s):X.s₀.heap.objs.size<=s.heap.objs.size:=Nat.le_trans I.ok.above (BE I.lt)
theorem e9.nofs(I:e9 X pins σ H s){a:AB}(h:s.heap.objs.size<=a):a∉X.fs:=fun hb=>by
 obtain⟨_,o,ho,_⟩:=I.ok.funs.mem hb
 exact absurd (Au (Af ho) (Nat.le_trans I.sz h)) (Nat.lt_irrefl _)
theorem e9.cne(I:e9 X pins σ H s):∀x c,X.env.cells.lookup x=some c->c≠X.env.locals:=fun x c e z=>by
 obtain⟨v,o,ho,hd⟩:=I.cell x c e
 obtain⟨m,⟨o',es,ep,ho',hd',_⟩,_⟩:=I.loc
 rw [z,ho'] at ho;cases ho;rw [hd'] at hd;cases hd
theorem e9.funs(I:e9 X pins σ H s):s.heap.FunFrames X.base X.outer:=by
 have all:∀(l:List Env),(∀b∈frs l,b∈X.fs)->X.s₀.heap.FunFrames X.base l->s.heap.FunFrames X.base l:=by
  intro l
  induction l with
  |nil=>intro _ _;trivial
  |cons env r ih=>
   intro hs hl
   obtain⟨hk,⟨L,o,hf,hn,ho,hd⟩,hr⟩:=hl
   have hL:L∈X.fs:=hs L (by unfold frs;rw [List.filterMap_cons,hf];exact Aq)
   obtain⟨sl,e⟩:=I.base.slot L o ho (I.ok.frf L hL) hL fun z=>I.ok.exfs L z hL
   exact⟨hk,⟨L,_,hf,hn,e,hd⟩,ih (fun b hb=>hs b (by unfold frs;rw [List.filterMap_cons,hf];exact An _ hb)) hr⟩
 exact all X.outer (fun _ hb=>hb) I.ok.funs
theorem e9.stack(I:e9 X pins σ H s):s.heap.FunFrames X.base X.stack:=by
 rcases I.ok.stk with e|⟨e,hf⟩
 ·rw [e];exact I.funs
 ·rw [e]
  obtain⟨m,hn,_⟩:=I.loc
  refine .cons (by rw [I.ok.kind];decide) hf hn ?_ I.funs
  exact Heap.get?_none_of_le (Nat.le_trans I.ok.bsz I.ok.above)
theorem e9.stkSub(I:e9 X pins σ H s):∀b∈frs X.stack,b∈X.env.locals::X.fs:=fun b hb=>by
 rcases I.ok.stk with e|⟨e,hf⟩
 ·rw [e] at hb;exact An _ hb
 ·rw [e] at hb
  unfold frs at hb
  rw [List.filterMap_cons,hf] at hb
  exact hb
theorem e9.stkFree(I:e9 X pins σ H s):∀b∈frs X.stack,H b=none:=fun b hb=>by
 rcases Ag.mp (I.stkSub b hb) with e|hb
 ·rw [e];exact I.free
 ·obtain⟨_,o,ho,_⟩:=I.ok.funs.mem hb
  exact I.base.free b o ho (I.ok.frf b hb) fun z=>I.ok.exfs b z hb
theorem e9.step{g':Array GenState}{t':Nat}{d':Drawn}{ch:List AB}(I:e9 X pins σ H s)
 (hch:∀b∈ch,(b∈X.ex\/X.s₀.heap.objs.size<=b)/\b≠X.env.locals/\(∀x c,X.env.cells.lookup x=some c->c≠b)/\∀p∈X.pn++pins,p.1≠b)
 (keep:∀b o,b≠X.env.locals->b∉X.fs->b∉ch->s.heap.get? b=some o->H b=none->h'.get? b=some o)
 (slot:∀b o,b≠X.env.locals->b∈X.fs->b∉ch->s.heap.get? b=some o->H b=none->∃sl,h'.get? b=some {o with slots:=sl}) (free:∀b o,b∉ch->s.heap.get? b=some o->H b=none->H' b=none)
 (there:∀b o,b∉ch->s.heap.get? b=some o->∃o',h'.get? b=some o')
 (tups:∀b xs,H b=some (.tup xs)->H' b=some (.tup xs)) (frzs:∀b o u,H b=some (.frz o u)->H' b=some (.frz o u)) (tbls:∀b ps,H b=some (.tbl ps)->∃more,H' b=some (.tbl (ps++more)))
 (ns:∀m,s.heap.Ns X.env.locals m->h'.Ns X.env.locals m) (hok:HOk X.prog X.w H' h') (hg:AllBare g'):
 e9 X pins σ H' {s with heap:=h',gens:=g',drawn:=d',toks:=t'}:=by
 have neL:∀b o,X.s₀.heap.get? b=some o->b≠X.env.locals:=fun b o e=>Ai (Au (Af e) I.ok.above)
 have neC:∀b o,X.s₀.heap.get? b=some o->b∉X.ex->b∉ch:=fun b o e hx hb=>by
  rcases(hch b hb).1 with z|z
  ·exact hx z
  ·exact absurd (Au (Af e) z) (Nat.lt_irrefl _)
 have cellK:∀x c,X.env.cells.lookup x=some c->∀v,s.heap.IsCell c v->h'.IsCell c v:=fun x c e v ⟨o,ho,hd⟩=>by
  have nch:c∉ch:=fun z=>(hch c z).2.2.1 x c e rfl
  by_cases hc:c∈X.fs
  ·obtain⟨sl,q⟩:=slot c o (I.cne x c e) hc nch ho (I.freeC x c e)
   exact⟨_,q,hd⟩
  ·exact⟨o,keep c o (I.cne x c e) hc nch ho (I.freeC x c e),hd⟩
 refine⟨I.ok,I.os,hg,⟨fun b o e n hb hx=> ?_,fun b o e n hb hx=> ?_,fun b o e n hx=> ?_,fun b o e hx=> ?_,fun b xs e=>tups b xs (I.base.tups b xs e),fun b o xs e=>frzs b o xs (I.base.frzs b o xs e),fun b ps e=> ?_⟩, ?_,fun x c e=> ?_, ?_,fun x c e=> ?_,fun p hp=> ?_,hok,I.len⟩
 ·exact keep b o (neL b o e) hb (neC b o e hx) (I.base.keep b o e n hb hx) (I.base.free b o e n hx)
 ·obtain⟨sl,e1⟩:=I.base.slot b o e n hb hx
  obtain⟨sl',e2⟩:=slot b _ (neL b o e) hb (neC b o e hx) e1 (I.base.free b o e n hx)
  exact⟨sl',e2⟩
 ·obtain⟨o',e1⟩:=I.base.there b o e hx
  exact free b o' (neC b o e hx) e1 (I.base.free b o e n hx)
 ·obtain⟨o',e1⟩:=I.base.there b o e hx
  exact there b o' (neC b o e hx) e1
 ·obtain⟨m1,e1⟩:=I.base.tbls b ps e
  obtain⟨m2,e2⟩:=tbls b _ e1
  exact⟨m1++m2,by rw [e2,Array.append_assoc]⟩
 ·obtain⟨m,hn,hl⟩:=I.loc
  refine⟨m,ns m hn,fun i x v e1 e2 e3=> ?_⟩
  obtain⟨u,r,l⟩:=hl i x v e1 e2 e3
  refine⟨u,r, ?_⟩
  rcases l with l|⟨k,c,e,z⟩
  ·exact .inl l
  ·exact .inr ⟨k,c,e,cellK x c e _ z⟩
 ·obtain⟨v,z⟩:=I.cell x c e
  exact⟨v,cellK x c e v z⟩
 ·obtain⟨m,⟨o,_,_,ho,_⟩,_⟩:=I.loc
  exact free _ o (fun z=>(hch _ z).2.1 rfl) ho I.free
 ·obtain⟨v,o,ho,hd⟩:=I.cell x c e
  exact free c o (fun z=>(hch c z).2.2.1 x c e rfl) ho (I.freeC x c e)
 ·obtain⟨e,n,ne,nf,d⟩:=I.pin p hp
  have nch:p.1∉ch:=fun z=>(hch p.1 z).2.2.2 p hp rfl
  exact⟨keep p.1 p.2 ne nf nch e n,free p.1 p.2 nch e n,ne,nf,d⟩
theorem e9.un{t':Nat}(I:e9 X pins σ H s)(u:Un X.fs [] H H' s.heap h')(hok:HOk X.prog X.w H' h'):e9 X pins σ H' {s with heap:=h',toks:=t'}:=by
 obtain⟨m,⟨o,es,ep,ho,r⟩,_⟩:=id I.loc
 obtain⟨sl,hL⟩:=u.any ho I.free (by simp)
 exact I.step (g':=s.gens) (d':=s.drawn) (ch:=[]) (fun _ z=>nomatch z) (fun b o _ hb _ e n=>u.keep b o e n hb (by simp)) (fun b o _ hb _ e n=>u.slot b o e n hb (by simp)) (fun b o _ e n=>u.free b o e n (by simp)) (fun b o _ e=>u.there b o e (by simp)) u.tups u.frzs u.tbls (fun m' hm=>by
  obtain⟨o',es',ep',ho',r'⟩:=hm
  rw [ho] at ho';cases ho'
  exact⟨_,es',ep',hL,r'⟩) hok I.bare
theorem e9.call{g':Array GenState}{t':Nat}{d':Drawn}{ch:List AB}(I:e9 X pins σ H s)(u:Un (frs X.stack) ch H H' s.heap h')(hok:HOk X.prog X.w H' h')(hg:AllBare g')
 (hch:∀b∈ch,(b∈X.ex\/X.s₀.heap.objs.size<=b)/\b≠X.env.locals/\(∀x c,X.env.cells.lookup x=some c->c≠b)/\∀p∈X.pn++pins,p.1≠b):
 e9 X pins σ H' {s with heap:=h',gens:=g',drawn:=d',toks:=t'}:=by
 obtain⟨m,⟨o,es,ep,ho,r⟩,_⟩:=id I.loc
 obtain⟨sl,hL⟩:=u.any ho I.free fun z=>(hch _ z).2.1 rfl
 exact I.step (ch:=ch) hch (fun b o hL hb hc e n=>u.keep b o e n (fun z=>(Ag.mp (I.stkSub b z)).elim hL hb) hc) (fun b o _ _ hc e n=>u.any e n hc) (fun b o hc e n=>u.free b o e n hc) (fun b o hc e=>u.there b o e hc) u.tups u.frzs u.tbls (fun m' hm=>by
  obtain⟨o',es',ep',ho',r'⟩:=hm
  rw [ho] at ho';cases ho'
  exact⟨_,es',ep',hL,r'⟩) hok hg
theorem e9.turned{t':Nat}{it:AB}(I:e9 X pins σ H s)(k:∀b o,b≠it->s.heap.get? b=some o->h'.get? b=some o)(hn:H it=none)(hL:it≠X.env.locals)
 (h1:it∈X.ex\/X.s₀.heap.objs.size<=it) (h2:∀x c,X.env.cells.lookup x=some c->c≠it) (h3:∀p∈X.pn++pins,p.1≠it):e9 X pins σ H {s with heap:=h',toks:=t'}:=by
 have nit:∀b u,H b=some u->b≠it:=fun b u e z=>by rw [z,hn] at e;cases e
 refine I.step (g':=s.gens) (d':=s.drawn) (ch:=[it]) (fun b hb=> ?_) (fun b o _ _ hc e _=>k b o (fun z=>hc (by simp [z])) e) (fun b o _ _ hc e _=>⟨o.slots,k b o (fun z=>hc (by simp [z])) e⟩) (fun _ _ _ _ n=>n)
  (fun b o hc e=>⟨o,k b o (fun z=>hc (by simp [z])) e⟩) (fun _ _ e=>e) (fun _ _ _ e=>e) (fun b ps e=>⟨#[],by rw [e];simp⟩) (fun m hm=> ?_) (fun b u e=> ?_) I.bare
 ·have e:b=it:=by simpa using hb
  subst e
  exact⟨h1,hL,h2,h3⟩
 ·obtain⟨o,es,ep,ho,r⟩:=hm
  exact⟨o,es,ep,k _ o (Ne.symm hL) ho,r⟩
 ·refine(I.hok b u e).stay (fun c v hc q=>k c v ?_ q) (fun _ q=>q) fun _ _ q=>q
  rcases hc with z|z
  ·rw [z];exact nit b u e
  ·exact nit c _ z
theorem e9.tok(I:e9 X pins σ H s)(t:Nat):e9 X pins σ H {s with toks:=t}:=I.un (h':=s.heap) (t':=t) Un.refl I.hok
theorem e9.kept{t':Nat}(I:e9 X pins σ H s)(k:∀b u,s.heap.get? b=some u->h'.get? b=some u):e9 X pins σ H {s with heap:=h',toks:=t'}:=I.un (Un.kept k) (I.hok.kept k)
theorem e9.laid{a:AB}{o:HO}{t':Nat}(I:e9 X pins σ H s)(k:∀b u,s.heap.get? b=some u->h'.get? b=some u)(hp:s.heap.objs.size<=a)(new:A7 X.prog X.w (t8 H a o) h' a o):
 e9 X pins σ (t8 H a o) {s with heap:=h',toks:=t'}:=I.un (Un.laid k hp (I.hok.fresh hp)) (I.hok.laid k hp new)
theorem e9.write{x e:AB}{o:HO}{t':Nat}(I:e9 X pins σ H s)(mu:Mut (H x))(he:e=x\/H e=some (.own x))(k:∀b u,b≠e->s.heap.get? b=some u->h'.get? b=some u)(heo:∃u,h'.get? e=some u)
 (new:A7 X.prog X.w (t8 H x o) h' x o):e9 X pins σ (t8 H x o) {s with heap:=h',toks:=t'}:=I.un (Un.write mu he k heo) (I.hok.write mu he k heo new)
theorem e9.weak{σ':List (Option V)}(I:e9 X pins σ H s)(hl:σ'.length=σ.length)(w:∀(i:Nat) v,σ'[i]?=some (some v)->σ[i]?=some (some v)):e9 X pins σ' H s:=
 ⟨I.ok,I.os,I.bare,I.base,let ⟨m,hn,hl'⟩:=I.loc;⟨m,hn,fun i x v e1 e2 e3=>hl' i x v e1 (w i v e2) e3⟩,I.cell,I.free,I.freeC,I.pin,I.hok,hl.trans I.len⟩
theorem e9.pins_of{pins':List (AB×Obj)}(I:e9 X pins σ H s)(h:∀p∈pins',s.heap.get? p.1=some p.2/\H p.1=none/\p.1≠X.env.locals/\p.1∉X.fs/\∀v,p.2.data≠.cell v):e9 X pins' σ H s:=
 ⟨I.ok,I.os,I.bare,I.base,I.loc,I.cell,I.free,I.freeC,fun p hp=>(BB.mp hp).elim (fun z=>I.pin p (BH _ z)) (h p),I.hok,I.len⟩
theorem a6f{N:List Str}(hN:N.Nodup){i j:Nat}{x:Str}(a:N[i]?=some x)(b:N[j]?=some x):i=j:=by
 obtain⟨h1,e1⟩:=As.mp a
 obtain⟨h2,e2⟩:=As.mp b
 exact(List.getElem_inj hN).mp (e1.trans e2.symm)
theorem a7U{M:Model}{A:AM}{E:AA->AC->Prop}{i:Nat}{x:Str}{v:V}{u:AA}{Q:Unit->AC->Prop}(I:e9 X pins σ H s)(hN:X.N.Nodup)(hi:X.N[i]?=some x)(hx:Loc X.env.scope x)(r:l8 v u)
 (h:∀s',e9 X pins (σ.set i (some v)) H s'->(∃a,Heap.SameBut a s.heap s'.heap/\(a=X.env.locals\/X.env.cells.lookup x=some a))->Q () s') (hf:X.fn x=true\/X.env.scope.names.lookup x=some .local:=by first|exact .inl rfl|exact .inr rfl|assumption):AF M A (storeName X.env x u) Q E s:=by
 obtain⟨m,hn,hl⟩:=id I.loc
 have hcls:(X.env.scope.kind== .class||(X.env.scope.kind== .module && X.env.locals !=X.env.globals))=false:=by rw [I.ok.kind];rfl
 have hiσ:i<σ.length:=by rw [I.len];exact(As.mp hi).1
 have cne:=I.cne
 have tracked:∀{a:AB} {h':Heap},(∃o,s.heap.get? a=some o/\H a=none)->Heap.SameBut a s.heap h'->HOk X.prog X.w H h':=fun {a h'} ha hs b ob e=>by
  obtain⟨_,_,hfree⟩:=ha
  refine(I.hok b ob e).stay (fun c w' hc q=>(hs.2 c ?_).trans q) (fun _ q=>q) fun _ _ q=>q
  rintro rfl
  rcases hc with rfl|hc
  ·rw [hfree] at e;cases e
  ·rw [hfree] at hc;cases hc
 rcases hx with hk|hk
 ·refine wpAny_storeName_local hk hn (fun h' hn' hs=> ?_) hcls
  obtain⟨oL,_,_,hoL,_⟩:=id hn
  refine h _ ⟨I.ok,I.os,I.bare,⟨fun b o e n hb hx=> ?_,fun b o e n hb hx=> ?_,I.base.free,fun b o e hx=> ?_,I.base.tups,I.base.frzs,I.base.tbls⟩,⟨_,hn',fun j y v' e1 e2 e3=> ?_⟩,fun y c e=> ?_,I.free,I.freeC,fun p hp=> ?_,tracked ⟨oL,hoL,I.free⟩ hs,by simpa using I.len⟩ ⟨_,hs,.inl rfl⟩
  ·exact(hs.2 b (Ai (Au (Af e) I.ok.above))).trans (I.base.keep b o e n hb hx)
  ·obtain⟨sl,e1⟩:=I.base.slot b o e n hb hx
   exact⟨sl,(hs.2 b (Ai (Au (Af e) I.ok.above))).trans e1⟩
  ·obtain⟨o',e1⟩:=I.base.there b o e hx
   exact⟨o',(hs.2 b (Ai (Au (Af e) I.ok.above))).trans e1⟩
  ·by_cases hj:j=i
   ·subst hj
    rw [hi] at e1;cases e1
    rw [BI hiσ] at e2
    cases e2
    exact⟨u,r,.inl ⟨hk,by simp⟩⟩
   ·rw [List.getElem?_set_ne (Ne.symm hj)] at e2
    obtain⟨u',r',q⟩:=hl j y v' e1 e2 e3
    refine⟨u',r', ?_⟩
    rcases q with⟨k,e⟩|⟨k,c,e,z⟩
    ·refine .inl ⟨k, ?_⟩
     have:y≠x:=fun e=>hj (a6f hN e1 (e▸hi))
     simp [this,e]
    ·exact .inr ⟨k,c,e,z.sameBut hs (cne y c e)⟩
  ·obtain⟨w',z⟩:=I.cell y c e
   exact⟨w',z.sameBut hs (cne y c e)⟩
  ·obtain⟨e,n,ne,nf,d⟩:=I.pin p hp
   exact⟨(hs.2 p.1 ne).trans e,n,ne,nf,d⟩
 ·have hfn:X.fn x=true:=by
   rcases hf with z|z
   ·exact z
   ·rw [z] at hk;cases hk
  obtain⟨c,hc⟩:=I.ok.has x (.inl hk)
  obtain⟨w',z⟩:=I.cell x c hc
  refine wpAny_storeName_cell I.ok.kind hk hc z (fun h' hc' hs=> ?_)
  obtain⟨oc,hoc,hocd⟩:=id z
  refine h {s with heap:=h'} ⟨I.ok,I.os,I.bare,⟨fun b o e n hb hx=> ?_,fun b o e n hb hx=> ?_,I.base.free,fun b o e hx=> ?_,I.base.tups,I.base.frzs,I.base.tbls⟩,⟨m,hn.sameBut hs (Ne.symm (cne x c hc)),fun j y v' e1 e2 e3=> ?_⟩,fun y c' e=> ?_,I.free,I.freeC,fun p hp=> ?_,tracked ⟨oc,hoc,I.freeC x c hc⟩ hs,by simpa using I.len⟩ ⟨c,hs,.inr hc⟩
  ·exact(hs.2 b (Ai (Au (Af e) (I.ok.cab x c hfn hc)))).trans (I.base.keep b o e n hb hx)
  ·obtain⟨sl,e1⟩:=I.base.slot b o e n hb hx
   exact⟨sl,(hs.2 b (Ai (Au (Af e) (I.ok.cab x c hfn hc)))).trans e1⟩
  ·obtain⟨o',e1⟩:=I.base.there b o e hx
   exact⟨o',(hs.2 b (Ai (Au (Af e) (I.ok.cab x c hfn hc)))).trans e1⟩
  ·by_cases hj:j=i
   ·subst hj
    rw [hi] at e1;cases e1
    rw [BI hiσ] at e2
    cases e2
    exact⟨u,r,.inr ⟨.inl hk,c,hc,hc'⟩⟩
   ·rw [List.getElem?_set_ne (Ne.symm hj)] at e2
    obtain⟨u',r',q⟩:=hl j y v' e1 e2 e3
    refine⟨u',r', ?_⟩
    rcases q with q|⟨k,c',e,z'⟩
    ·exact .inl q
    ·refine .inr ⟨k,c',e,z'.sameBut hs ?_⟩
     rintro rfl
     exact hj (a6f hN e1 (I.ok.inj _ _ _ e hc▸hi))
  ·by_cases hcc:c'=c
   ·subst hcc;exact⟨_,hc'⟩
   ·obtain⟨w2,z2⟩:=I.cell y c' e
    exact⟨w2,z2.sameBut hs hcc⟩
  ·obtain⟨e,n,ne,nf,d⟩:=I.pin p hp
   refine⟨(hs.2 p.1 ?_).trans e,n,ne,nf,d⟩
   intro q
   rw [q,hoc] at e
   have q':oc=p.2:=Option.some.inj e
   exact d w' (by rw [<-q'];exact hocd)
theorem a0s{M:Model}{A:AM}{E:AA->AC->Prop}{i:Nat}{x:Str}{v:V}{u:AA}{Q:Unit->AC->Prop}(I:e9 X pins σ H s)(hN:X.N.Nodup)(hi:X.N[i]?=some x)(hx:Loc X.env.scope x)(r:l8 v u)
 (h:∀s',e9 X pins (σ.set i (some v)) H s'->Q () s') (hf:X.fn x=true\/X.env.scope.names.lookup x=some .local:=by first|exact .inl rfl|exact .inr rfl|assumption):AF M A (storeName X.env x u) Q E s:=
 a7U I hN hi hx r (fun s' I' _=>h s' I') hf
theorem e9.call'{s':AC}{ch:List AB}(I:e9 X pins σ H s)(ho:s'.os=s.os)(u:Un (frs X.stack) ch H H' s.heap s'.heap)(hok:HOk X.prog X.w H' s'.heap)(hg:AllBare s'.gens)
 (hch:∀b∈ch,(b∈X.ex\/X.s₀.heap.objs.size<=b)/\b≠X.env.locals/\(∀x c,X.env.cells.lookup x=some c->c≠b)/\∀p∈X.pn++pins,p.1≠b):e9 X pins σ H' s':=by
 obtain⟨h',g',d',t',o'⟩:=s'
 have e:o'=s.os:=ho
 subst e
 exact I.call (g':=g') (t':=t') (d':=d') u hok hg hch
end
abbrev XK:=AA->Option AB->Hp->Prop
abbrev St:=List (Option V)
abbrev VK:=V->Hp->Prop
abbrev TE:=St->Hp->VK->Prop
abbrev TT:=St->Hp->(Bool->Hp->Prop)->Prop
abbrev TA:=St->Hp->(List V->Hp->Prop)->Prop
structure M3 where
 nx:St->Hp->Prop
 rt:VK
 bk:St->Hp->Prop:=fun _ _=>False
 ct:St->Hp->Prop:=fun _ _=>False
abbrev TS:=M3->St->Hp->Prop
def EP(X:Cx)(pins:List (AB×Obj))(σ:St)(Q:VK)(u:AA)(s':AC):Prop:=∃v H',e9 X pins σ H' s'/\l8 v u/\Q v H'
def TP(X:Cx)(pins:List (AB×Obj))(σ:St)(Q:Bool->Hp->Prop)(b:Bool)(s':AC):Prop:=∃H',e9 X pins σ H' s'/\Q b H'
def AP(X:Cx)(pins:List (AB×Obj))(σ:St)(Q:List V->Hp->Prop)(us:List AA)(s':AC):Prop:=∃vs H',e9 X pins σ H' s'/\l9 vs us/\Q vs H'
def SP(X:Cx)(pins:List (AB×Obj))(D:M3)(f:Flow)(s':AC):Prop:=
 match f with
 | .next=>∃σ' H',e9 X pins σ' H' s'/\D.nx σ' H'
 | .brk=>∃σ' H',e9 X pins σ' H' s'/\D.bk σ' H'
 | .cont=>∃σ' H',e9 X pins σ' H' s'/\D.ct σ' H'
 | .ret u=>∃v σ' H',e9 X pins σ' H' s'/\l8 v u/\D.rt v H'
def PE(X:Cx)(e:AG)(t:TE):Prop:=
 ∀(pins:List (AB×Obj)) (s:AC) (σ:St) (H:Hp) (Q:VK),e9 X pins σ H s->t σ H Q->AF (model X.prog X.w) X.A (eval e X.env) (EP X pins σ Q) X.xe s
def PT(X:Cx)(e:AG)(t:TT):Prop:=
 ∀(pins:List (AB×Obj)) (s:AC) (σ:St) (H:Hp) (Q:Bool->Hp->Prop),e9 X pins σ H s->t σ H Q->AF (model X.prog X.w) X.A (isTrue e X.env (eval e X.env)) (TP X pins σ Q) X.xe s
def PW(X:Cx)(e:AG)(t:TT):Prop:=
 ∀(whole:Sem AA) (pins:List (AB×Obj)) (s:AC) (σ:St) (H:Hp) (Q:Bool->Hp->Prop),e9 X pins σ H s->t σ H Q->AF (model X.prog X.w) X.A (isTrue e X.env whole) (TP X pins σ Q) X.xe s
theorem PW.pt{X:Cx}{e:AG}{t:TT}(h:PW X e t):PT X e t:=h _
def PA(X:Cx)(es:List AG)(t:TA):Prop:=
 ∀(pos:Pos) (pins:List (AB×Obj)) (s:AC) (σ:St) (H:Hp) (Q:List V->Hp->Prop),e9 X pins σ H s->t σ H Q->AF (model X.prog X.w) X.A (spliced (backTo pos (AN es X.env))) (AP X pins σ Q) X.xe s
def PS(X:Cx)(st:Stmt)(t:TS):Prop:=
 ∀(pins:List (AB×Obj)) (s:AC) (σ:St) (H:Hp) (D:M3),e9 X pins σ H s->t D σ H->AF (model X.prog X.w) X.A (exec st X.env) (SP X pins D) X.xe s
def PSs(X:Cx)(st:List Stmt)(t:TS):Prop:=
 ∀(pins:List (AB×Obj)) (s:AC) (σ:St) (H:Hp) (D:M3),e9 X pins σ H s->t D σ H->AF (model X.prog X.w) X.A (execs st X.env) (SP X pins D) X.xe s
theorem B8{α:Type}{t:Sem α}{Q Q':α->AC->Prop}{M:Model}{A:AM}{E:AA->AC->Prop}{s:AC}(h:AF M A t Q E s)(hQ:∀a s,Q a s->Q' a s):AF M A t Q' E s:=wpAny_mono h hQ fun _ _ x=>x
section
variable {X:Cx}
def a4n(i:Nat):TE:=fun σ H Q=>∃v,σ[i]?=some (some v)/\Q v H
def tC(v:V):TE:=fun _ H Q=>Q v H
theorem b9o{i:Nat}{x:Str}{pos:Pos}(hN:X.N[i]?=some x)(hv:Vis X.env.scope x)(hd:(x==("__debug__":Str))=false:=by decide)(hcd:(x==("__classdict__":Str))=false:=by decide):PE X (.Name x pos) (a4n i):=by
 intro pins s σ H Q I h
 obtain⟨v,e,h⟩:=h
 obtain⟨m,hn,hl⟩:=I.loc
 obtain⟨u,r,l⟩:=hl i x v hN e hv
 have fin:EP X pins σ Q u s:=⟨v,H,I,r,h⟩
 rcases l with⟨hk,hm⟩|⟨hk,c,hc,hcell⟩
 ·exact wpAny_Name (wpAny_loadName_local I.ok.kind hk hn hm fin) hd
 ·rcases hk with hk|hk
  ·exact wpAny_Name (wpAny_loadName_cell I.ok.kind hk hc hcell fin) hd
  ·exact wpAny_Name (wpAny_loadName_free I.ok.kind hk hc hcell fin hcd) hd
theorem b9i{i j pos}:PE X (.Constant (.int i) j pos) (tC (.int i)):=fun _ _ _ H _ I h=>wpAny_Constant_int ⟨.int i,H,I.tok _,⟨_,rfl⟩,h⟩
theorem c0s{b j pos}:PE X (.Constant (.bool b) j pos) (tC (.bl b)):=fun _ _ _ H _ I h=>Constant_bool ⟨.bl b,H,I,rfl,h⟩
theorem b9k{j pos}:PE X (.Constant .none j pos) (tC .non):=fun _ _ _ H _ I h=>Constant_none ⟨.non,H,I,rfl,h⟩
theorem b9n{x j pos}:PE X (.Constant (.str x) j pos) (tC (.str x)):=fun _ _ _ H _ I h=>Calls.Constant_str ⟨.str x,H,I.tok _,⟨_,rfl⟩,h⟩
def Gl(X:Cx)(x:Str):Prop:=X.env.kindOf x=some .globalImplicit
theorem X6{E:AA->AC->Prop}{pins:List (AB×Obj)}{s:AC}{σ:St}{H:Hp}{x:Str}{u:AA}{pos:Pos}{Q:AA->AC->Prop}(I:e9 X pins σ H s)(hg:Gl X x)(hm:X.mg x=some u)(h:Q u s)
 (hd:(x==("__debug__":Str))=false:=by decide):AF (model X.prog X.w) X.A (eval (.Name x pos) X.env) Q E s:=
 Calls.Name_function_global I.ok.kind hg (Calls.loadGlobal_global (by rw [I.ok.glob];exact I.mod.glob.keeps I.bk) hm h) hd
theorem a51{E:AA->AC->Prop}{pins:List (AB×Obj)}{s:AC}{σ:St}{H:Hp}{x:Str}{u:AA}{pos:Pos}{Q:AA->AC->Prop}(I:e9 X pins σ H s)(hg:Gl X x)(hm:X.mg x=none)(hv:bootBuiltins x=some u)(h:Q u s)
 (hn:x≠"__name__":=by decide) (hd:(x==("__debug__":Str))=false:=by decide):AF (model X.prog X.w) X.A (eval (.Name x pos) X.env) Q E s:=by
 obtain⟨mb,h1,h2⟩:=I.mod.blt
 exact Calls.Name_function_global I.ok.kind hg (Calls.loadGlobal_builtin (by rw [I.ok.glob];exact I.mod.glob.keeps I.bk) hm (by rw [I.ok.blt];exact h1.keeps I.bk) ((h2 x hn).trans hv) h) hd
theorem a5m{x:Str}{v:V}{u:AA}{pos:Pos}(hg:Gl X x)(hm:X.mg x=some u)(r:l8 v u)(hd:(x==("__debug__":Str))=false:=by decide):PE X (.Name x pos) (tC v):=
 fun _ _ _ H _ I h=>X6 I hg hm ⟨v,H,I,r,h⟩ hd
theorem a3v{x:Str}{v:V}{u:AA}{pos:Pos}(hg:Gl X x)(hm:X.mg x=none)(hv:bootBuiltins x=some u)(r:l8 v u)(hn:x≠"__name__":=by decide)(hd:(x==("__debug__":Str))=false:=by decide):PE X (.Name x pos) (tC v):=
 fun _ _ _ H _ I h=>a51 I hg hm hv ⟨v,H,I,r,h⟩ hn hd
variable {a b:AG}{ta tb:TE}{pos:Pos}
def PC(X:Cx)(op:CmpOp)(a b:AG)(t:TE):Prop:=
 ∀(pins:List (AB×Obj)) (s:AC) (σ:St) (H:Hp) (Q:VK),e9 X pins σ H s->t σ H Q->
  AF (model X.prog X.w) X.A (eval a X.env) (fun v s₁=>AF (model X.prog X.w) X.A (eval b X.env) (fun u s₂=>AF (model X.prog X.w) X.A (compareOp op v u) (EP X pins σ Q) X.xe s₂) X.xe s₁) X.xe s
def tB(t:TE):TT:=fun σ H Q=>t σ H fun x H1=>∃c,x= .bl c/\Q c H1
theorem b9u{op:CmpOp}{t:TE}(h:PC X op a b t)(h1:behindInMarks op b=false:=by first|exact nobehind _ (by decide) (by decide)|rfl):PT X (.Compare a [op] [b] pos) (tB t):=by
 intro pins s σ H Q I hw
 refine wpAny_isTrue_Compare1 (B8 (h pins s σ H _ I hw) fun v s1 h1=>B8 h1 fun u s2 h2=>B8 h2 fun c s3 h0=>j8 h0 fun x H1 I1 r1 q1=> ?_) h1
 obtain⟨d,rfl,q⟩:=q1
 cases r1
 exact wpAny_truthy_bool ⟨H1,I1,q⟩
variable {tA tB':TT}{rest:List AG}
def c1j(t u:TT):TT:=fun σ H Q=>t σ H fun c H1=>if c=true then u σ H1 Q else Q false H1
def tOr(t u:TT):TT:=fun σ H Q=>t σ H fun c H1=>if c=true then Q true H1 else u σ H1 Q
def c1o(t:TT):TT:=fun σ H Q=>t σ H fun c H1=>Q (!c) H1
theorem b7c(ha:PT X a tA):PW X (.BoolOp .And [a] pos) tA:=by
 intro wh pins s σ H Q I h
 refine isTrue_and (B8 (ha pins s σ H Q I h) fun c s1 e=> ?_)
 cases c with
 |true=>exact isTrue_and_nil e
 |false=>exact e
theorem b9x(ha:PT X a tA):PW X (.BoolOp .Or [a] pos) tA:=by
 intro wh pins s σ H Q I h
 refine isTrue_or (B8 (ha pins s σ H Q I h) fun c s1 e=> ?_)
 cases c with
 |false=>exact isTrue_or_nil e
 |true=>exact e
theorem b9w(ha:PT X a tA)(hb:PW X (.BoolOp .And (b::rest) pos) tB'):PW X (.BoolOp .And (a::b::rest) pos) (c1j tA tB'):=by
 intro wh pins s σ H Q I h
 refine isTrue_and (B8 (ha pins s σ H _ I h) fun c s1 ⟨H1,I1,q1⟩=> ?_)
 cases c with
 |true=>exact hb wh pins s1 σ H1 Q I1 q1
 |false=>exact⟨H1,I1,q1⟩
theorem c0y(ha:PT X a tA)(hb:PW X (.BoolOp .Or (b::rest) pos) tB'):PW X (.BoolOp .Or (a::b::rest) pos) (tOr tA tB'):=by
 intro wh pins s σ H Q I h
 refine isTrue_or (B8 (ha pins s σ H _ I h) fun c s1 ⟨H1,I1,q1⟩=> ?_)
 cases c with
 |true=>exact⟨H1,I1,q1⟩
 |false=>exact hb wh pins s1 σ H1 Q I1 q1
theorem b9v(ha:PT X a tA):PT X (.UnaryOp .Not a pos) (c1o tA):=by
 intro pins s σ H Q I h
 exact isTrue_not (ha pins s σ H (fun c H1=>Q (!c) H1) I h)
def c0G(ta tb:TE):TE:=fun σ H Q=>ta σ H fun x H1=>∃c,x= .bl c/\if c=true then tb σ H1 Q else Q (.bl false) H1
def c1p(ta tb:TE):TE:=fun σ H Q=>ta σ H fun x H1=>∃c,x= .bl c/\if c=true then Q (.bl true) H1 else tb σ H1 Q
def c0M(ta:TE):TE:=fun σ H Q=>ta σ H fun x H1=>∃c,x= .bl c/\Q (.bl (!c)) H1
theorem b9m{op}{t:TE}(h:PE X a t):PE X (.BoolOp op [a] pos) t:=fun pins s σ H Q I hw=>BoolOp_one (h pins s σ H Q I hw)
theorem b9h(ha:PE X a ta)(hb:PE X (.BoolOp .And (b::rest) pos) tb):PE X (.BoolOp .And (a::b::rest) pos) (c0G ta tb):=by
 intro pins s σ H Q I h
 refine BoolOp_and (B8 (ha pins s σ H _ I h) fun v s1 h0=>j8 h0 fun x H1 I1 r1 q1=> ?_)
 obtain⟨c,rfl,q1⟩:=q1
 cases r1
 refine wpAny_truthy_bool ?_
 cases c with
 |true=>exact hb pins s1 σ H1 Q I1 q1
 |false=>exact⟨.bl false,H1,I1,rfl,q1⟩
theorem c0v(ha:PE X a ta)(hb:PE X (.BoolOp .Or (b::rest) pos) tb):PE X (.BoolOp .Or (a::b::rest) pos) (c1p ta tb):=by
 intro pins s σ H Q I h
 refine BoolOp_or (B8 (ha pins s σ H _ I h) fun v s1 h0=>j8 h0 fun x H1 I1 r1 q1=> ?_)
 obtain⟨c,rfl,q1⟩:=q1
 cases r1
 refine wpAny_truthy_bool ?_
 cases c with
 |false=>exact hb pins s1 σ H1 Q I1 q1
 |true=>exact⟨.bl true,H1,I1,rfl,q1⟩
theorem b9l(ha:PE X a ta):PE X (.UnaryOp .Not a pos) (c0M ta):=by
 intro pins s σ H Q I h
 refine UnaryOp_ (B8 (ha pins s σ H _ I h) fun v s1 h0=>j8 h0 fun x H1 I1 r1 q1=> ?_)
 obtain⟨c,rfl,q1⟩:=q1
 cases r1
 exact not_of (wpAny_truthy_bool ⟨.bl (!c),H1,I1,rfl,q1⟩)
end
def Z3(K:AE)(H:Hp)(a:AB)(xs:List V):Prop:=
 Rd H a (.lst xs)\/
  ∃(o:Obj) (its:Array AA) (n:Nat),K.lookup a=some o/\o.cls= .type "list"/\o.dict=none/\o.data= .seq its n/\its.size<=AO/\l9 xs its.toList
def SqT(K:AE)(H:Hp)(a:AB)(xs:List V):Prop:=
 Rd H a (.tup xs)\/
  ∃(o:Obj) (its:Array AA) (n:Nat),K.lookup a=some o/\o.cls= .type "tuple"/\o.data= .seq its n/\its.size<=AO/\l9 xs its.toList
def c00:AA->Option V
 | .none=>some .non
 | .bool b=>some (.bl b)
 | .int i _=>some (.int i)
 | .str x _=>some (.str x)
 | .bytes b _=>some (.byt b)
 | .float b _=>some (.flt b)
 | .ref a=>some (.ref a)
 | .type n=>some (.ty n)
 |_=>none
theorem l8.abs{x:V}{u:AA}(r:l8 x u):c00 u=some x:=by
 cases x with
 |non=>cases r;rfl
 |bl _=>cases r;rfl
 |int _=>obtain⟨t,rfl⟩:=r;rfl
 |str _=>obtain⟨t,rfl⟩:=r;rfl
 |byt _=>obtain⟨t,rfl⟩:=r;rfl
 |flt _=>obtain⟨t,rfl⟩:=r;rfl
 |ref _=>cases r;rfl
 |ty _=>cases r;rfl
theorem l8.inj{x y:V}{u:AA}(r:l8 x u)(q:l8 y u):x=y:=Option.some.inj (r.abs.symm.trans q.abs)
theorem l9.inj:∀{xs ys:List V} {us:List AA},l9 xs us->l9 ys us->xs=ys
 |_,_,_,.nil,.nil=>rfl
 |_,_,_,.cons r t,.cons r' t'=>by rw [r.inj r',l9.inj t t']
section
variable {X:Cx}{pins:List (AB×Obj)}{σ:St}{H:Hp}{s:AC}{a:AB}{xs ys:List V}
theorem Z3.of{K:AE}(h:H a=some (.lst xs)):Z3 K H a xs:= .inl (.inl h)
theorem e9.list(I:e9 X pins σ H s)(h:Z3 X.K H a xs):∃its:List AA,l9 xs its/\PlainL s.heap a its.toArray/\xs.length<=AO:=by
 rcases h with h|⟨o,its,n,hk,hc,hd,hs,hz,r⟩
 ·obtain⟨z,its,n,r,e⟩:=h.ok I.hok
  exact⟨its,r,⟨_,n,e,rfl,rfl,rfl⟩,z⟩
 ·refine⟨its.toList,r,⟨o,n,I.kIn a o hk,hc,hd,by simpa using hs⟩, ?_⟩
  have e:=r.length
  simp only [Array.length_toList] at e
  lia
theorem e9.tuple(I:e9 X pins σ H s)(h:SqT X.K H a xs):∃its:List AA,l9 xs its/\IsTup s.heap a its.toArray/\xs.length<=AO:=by
 rcases h with h|⟨o,its,n,hk,hc,hs,hz,r⟩
 ·obtain⟨z,its,r,p⟩:=h.ok I.hok
  exact⟨its,r,p,z⟩
 ·refine⟨its.toList,r,⟨o,I.kIn a o hk,hc,n,by simpa using hs⟩, ?_⟩
  have e:=r.length
  simp only [Array.length_toList] at e
  lia
theorem e9.list_inj(I:e9 X pins σ H s)(h:Z3 X.K H a xs)(h':Z3 X.K H a ys):xs=ys:=by
 obtain⟨its,r,⟨o,n,e,_,_,d⟩,_⟩:=I.list h
 obtain⟨its',r',⟨o',n',e',_,_,d'⟩,_⟩:=I.list h'
 rw [e] at e';cases e'
 rw [d] at d'
 injection d' with d1 _
 have:its=its':=by simpa using congrArg Array.toList d1
 subst this
 exact r.inj r'
theorem e9.tuple_inj(I:e9 X pins σ H s)(h:SqT X.K H a xs)(h':SqT X.K H a ys):xs=ys:=by
 obtain⟨its,r,⟨o,e,_,n,d⟩,_⟩:=I.tuple h
 obtain⟨its',r',⟨o',e',_,n',d'⟩,_⟩:=I.tuple h'
 rw [e] at e';cases e'
 rw [d] at d'
 injection d' with d1 _
 have:its=its':=by simpa using congrArg Array.toList d1
 subst this
 exact r.inj r'
end
abbrev Cx.wish(X:Cx)(E:AA->AC->Prop):Cx:={X with xe:=E}
abbrev Cx.nox(X:Cx):Cx:=X.wish fun _ _=>False
theorem Cx.Ok.wish{X:Cx}(ok:X.Ok)(E:AA->AC->Prop):(X.wish E).Ok:=
 ⟨ok.mod,ok.kind,ok.glob,ok.blt,ok.above,ok.inj,ok.has,ok.cab,ok.hd,ok.frames,ok.stk,ok.exf,ok.bs,ok.bsz,ok.noex,ok.exfs,ok.funs,ok.frf⟩
theorem Cx.Ok.unwish{X:Cx}{E:AA->AC->Prop}(ok:(X.wish E).Ok):X.Ok:=
 ⟨ok.mod,ok.kind,ok.glob,ok.blt,ok.above,ok.inj,ok.has,ok.cab,ok.hd,ok.frames,ok.stk,ok.exf,ok.bs,ok.bsz,ok.noex,ok.exfs,ok.funs,ok.frf⟩
section
variable {X:Cx}{pins:List (AB×Obj)}{σ:St}{H:Hp}{s:AC}{E:AA->AC->Prop}
theorem e9.wish(I:e9 X pins σ H s)(E:AA->AC->Prop):e9 (X.wish E) pins σ H s:=⟨I.ok.wish E,I.os,I.bare,I.base,I.loc,I.cell,I.free,I.freeC,I.pin,I.hok,I.len⟩
theorem e9.unwish(I:e9 (X.wish E) pins σ H s):e9 X pins σ H s:=⟨I.ok.unwish,I.os,I.bare,I.base,I.loc,I.cell,I.free,I.freeC,I.pin,I.hok,I.len⟩
theorem SP.unwish{D:M3}{f:Flow}{s':AC}(h:SP (X.wish E) pins D f s'):SP X pins D f s':=by
 cases f with
 |next=>obtain⟨σ',H',I,q⟩:=h;exact⟨σ',H',I.unwish,q⟩
 |brk=>obtain⟨σ',H',I,q⟩:=h;exact⟨σ',H',I.unwish,q⟩
 |cont=>obtain⟨σ',H',I,q⟩:=h;exact⟨σ',H',I.unwish,q⟩
 |ret u=>obtain⟨v,σ',H',I,r,q⟩:=h;exact⟨v,σ',H',I.unwish,r,q⟩
theorem PSs.nox{st:List Stmt}{t:TS}(h:PSs X.nox st t):PSs X st t:=fun pins s σ H D I hw=>
 wpAny_mono (h pins s σ H D (I.wish _) hw) (fun _ _ q=>q.unwish) fun _ _ z=>False.elim z
end
section
variable {X:Cx}{st:Stmt}{rest:List Stmt}{t u:TS}{e:AG}{te:TE}{pos:Pos}
def b70:TS:=fun D σ H=>D.nx σ H
def b5I(t u:TS):TS:=fun D σ H=>t {D with nx:=u D} σ H
theorem a80:PSs X [] b70:=fun _ _ σ H _ I h=>wpAny_execs_nil ⟨σ,H,I,h⟩
theorem a0m(h1:PS X st t)(h2:PSs X rest u):PSs X (st::rest) (b5I t u):=by
 intro pins s σ H D I h
 refine wpAny_execs_cons (B8 (h1 pins s σ H {D with nx:=u D} I h) fun f s1 q=> ?_)
 cases f with
 |next=>
  obtain⟨σ',H',I',q⟩:=q
  exact h2 pins s1 σ' H' D I' q
 |ret v=>exact q
 |brk=>exact q
 |cont=>exact q
theorem b2m(h1:PS X st t):PSs X [st] t:=by
 intro pins s σ H D I h
 refine wpAny_execs_cons (B8 (h1 pins s σ H D I h) fun f s1 q=> ?_)
 cases f with
 |next=>exact wpAny_execs_nil q
 |ret v=>exact q
 |brk=>exact q
 |cont=>exact q
theorem e9.quiet{pins:List (AB×Obj)}{σ:St}{H:Hp}{s:AC}(I:e9 X pins σ H s):interactive X.env=false:=by simp [interactive,I.ok.kind]
def c0L(te:TE):TS:=fun D σ H=>te σ H fun _ H1=>D.nx σ H1
theorem a8Z(he:PE X e te)(hs:swapsWith e none pos.line X.env=pure false:=by rfl):PS X (.Expr e pos) (c0L te):=by
 intro pins s σ H D I h
 exact wpAny_Expr_any (B8 (he pins s σ H _ I h) fun v s1 h0=>j8 h0 fun x H1 I1 r1 q1=>⟨σ,H1,I1,q1⟩) I.quiet hs
def c1r(te:TE):TS:=fun D σ H=>te σ H D.rt
theorem b5k(he:PE X e te):PS X (.Return (some e) pos) (c1r te):=by
 intro pins s σ H D I h
 exact wpAny_Return_some (B8 (he pins s σ H _ I h) fun v s1 h0=>j8 h0 fun x H1 I1 r1 q1=>⟨x,σ,H1,I1,r1,q1⟩)
def c1m(c:TT)(t u:TS):TS:=fun D σ H=>c σ H fun b H1=>if b=true then t D σ H1 else u D σ H1
theorem b7W{c:AG}{a b:List Stmt}{tc:TT}(hc:PT X c tc)(ha:PSs X a t)(hb:PSs X b u):PS X (.If c a b pos) (c1m tc t u):=by
 intro pins s σ H D I h
 refine wpAny_If (B8 (hc pins s σ H _ I h) fun d s1 ⟨H1,I1,q1⟩=> ?_)
 cases d with
 |true=>exact ha pins s1 σ H1 D I1 q1
 |false=>exact hb pins s1 σ H1 D I1 q1
end
abbrev TG:=V->St->Hp->(St->Hp->Prop)->Prop
abbrev TGs:=List V->St->Hp->(St->Hp->Prop)->Prop
def PG(X:Cx)(target:AG)(t:TG):Prop:=
 ∀(pins:List (AB×Obj)) (s:AC) (σ:St) (H:Hp) (v:V) (u:AA) (Q:St->Hp->Prop),e9 X pins σ H s->l8 v u->t v σ H Q->
  AF (model X.prog X.w) X.A (assign target X.env u) (fun _ s'=>∃σ' H',e9 X pins σ' H' s'/\Q σ' H') X.xe s
def PGs(X:Cx)(ts:List AG)(t:TGs):Prop:=
 ∀(pins:List (AB×Obj)) (s:AC) (σ:St) (H:Hp) (vs:List V) (us:List AA) (Q:St->Hp->Prop),e9 X pins σ H s->l9 vs us->t vs σ H Q->
  AF (model X.prog X.w) X.A (assignInOrder ((assignEach ts X.env).map (·.2)) us) (fun _ s'=>∃σ' H',e9 X pins σ' H' s'/\Q σ' H') X.xe s
abbrev b73:=V->V->V->Hp->(Hp->Prop)->Prop
def b9Y(X:Cx)(t:b73):Prop:=
 ∀(pins:List (AB×Obj)) (s:AC) (σ:St) (H:Hp) (o i v:V) (ov iv u:AA) (Q:Hp->Prop),e9 X pins σ H s->l8 o ov->l8 i iv->l8 v u->t o i v H Q->
  AF (model X.prog X.w) X.A (setItem ov iv u) (fun _ s'=>∃H',e9 X pins σ H' s'/\Q H') X.xe s
abbrev TIp:=V->V->Hp->VK->Prop
def PIp(X:Cx)(op:Operator)(t:TIp):Prop:=
 ∀(pins:List (AB×Obj)) (s:AC) (σ:St) (H:Hp) (x y:V) (v u:AA) (Q:VK),e9 X pins σ H s->l8 x v->l8 y u->t x y H Q->
  AF (model X.prog X.w) X.A (inplaceOp op v u) (EP X pins σ Q) X.xe s
section
variable {X:Cx}{pos:Pos}
def a9L(i:Nat):TG:=fun v σ H Q=>Q (σ.set i (some v)) H
theorem i8{i:Nat}{x:Str}(hN:X.N.Nodup)(hi:X.N[i]?=some x)(hx:Loc X.env.scope x)(hf:X.fn x=true\/X.env.scope.names.lookup x=some .local:=by first|exact .inl rfl|exact .inr rfl|assumption):PG X (.Name x pos) (a9L i):=by
 intro pins s σ H v u Q I r h
 exact wpAny_assign_Name (a0s I hN hi hx r (fun s' I'=>⟨_,H,I',h⟩) hf)
def c0d:TGs:=fun vs σ H Q=>vs=[]/\Q σ H
def b7O(t:TG)(u:TGs):TGs:=fun vs σ H Q=>∃v r,vs=v::r/\t v σ H fun σ' H'=>u r σ' H' Q
theorem a8Y:PGs X [] c0d:=by
 intro pins s σ H vs us Q I r h
 obtain⟨e,h⟩:=h
 subst e
 cases r
 exact assignInOrder_nil ⟨σ,H,I,h⟩
theorem V9{e:AG}{es:List AG}{t:TG}{u:TGs}(h1:PG X e t)(h2:PGs X es u)
 (hs:(assignEach (e::es) X.env).map (·.2)=assign e X.env::(assignEach es X.env).map (·.2):=by rfl):PGs X (e::es) (b7O t u):=by
 intro pins s σ H vs us Q I r h
 obtain⟨v,vr,e1,h⟩:=h
 subst e1
 cases r with
 |cons r rr=>
  rw [hs]
  refine assignInOrder_cons (B8 (h1 pins s σ H _ _ _ I r h) fun _ s1 ⟨σ1,H1,I1,q1⟩=> ?_)
  exact h2 pins s1 σ1 H1 _ _ Q I1 rr q1
def c02(K:AE)(n:Nat)(t:TGs):TG:=fun v σ H Q=>∃a xs,v= .ref a/\SqT K H a xs/\xs.length=n/\t xs σ H Q
theorem b9q{es:List AG}{k:Nat}{t:TGs}{n:Nat}(hc:X.calm=true)(h:PGs X es t)
 (hn:(assignEach es X.env).length=n:=by rfl) (hst:(assignEach es X.env).findIdx? (·.1)=none:=by rfl):PG X (.Tuple es k pos) (c02 X.K n t):=by
 intro pins s σ H v u Q I r hw
 obtain⟨a,xs,e1,hq,hl,hw⟩:=hw
 subst e1
 cases r
 obtain⟨its,rv,ht,hz⟩:=I.tuple hq
 refine assign_Tuple_tuple (I.ok.hd hc) ht (by simp [hn,<-hl,rv.length]) hst fun h' hx=> ?_
 have I1:e9 X pins σ H {s with heap:=h'}:=I.kept (t':=s.toks) fun b o e=>hx b o (Ai (Af e)) e
 exact h pins _ σ H xs _ Q I1 (by simpa using rv) hw
def c01(to ti:TE)(t:b73):TG:=fun v σ H Q=>to σ H fun o H1=>ti σ H1 fun i H2=>t o i v H2 fun H3=>Q σ H3
theorem b9p{o i:AG}{to ti:TE}{t:b73}(ho:PE X o to)(hi:PE X i ti)(hs:b9Y X t)
 (ha:∀v,assign (.Subscript o i pos) X.env v=(do
  let ov<-holding [v] (eval o X.env)
  let iv<-holding [v,ov] (eval i X.env)
  standAt pos
  holding [v,ov,iv] (setItem ov iv v)
  release [v,ov,iv] []):=by intro _;rfl):PG X (.Subscript o i pos) (c01 to ti t):=by
 intro pins s σ H v u Q I r h
 rw [ha]
 refine AD (wpAny_holding (B8 (ho pins s σ H _ I h) fun ov s1 h0=>j8 h0 fun x H1 I1 r1 q1=> ?_))
 refine AD (wpAny_holding (B8 (hi pins s1 σ H1 _ I1 q1) fun iv s2 h0=>j8 h0 fun y H2 I2 r2 q2=> ?_))
 refine AD (wpAny_standAt (AD (wpAny_holding (B8 (hs pins s2 σ H2 x y v ov iv u _ I2 r1 r2 r q2) fun _ s3 ⟨H3,I3,q3⟩=> ?_))))
 exact wpAny_release ⟨σ,H3,I3,q3⟩
def c0H(te:TE)(g:TG):TS:=fun D σ H=>te σ H fun x H1=>g x σ H1 D.nx
theorem b5i{tg e:AG}{te:TE}{g:TG}(he:PE X e te)(hg:PG X tg g)(hs:swapsWithSole [tg] e pos.line X.env=pure false:=by rfl)(hw:swappedStores [tg] e X.env=pure none:=by rfl)
 (h1:(assignEach [tg] X.env).map (·.2)=[assign tg X.env]:=by rfl):PS X (.Assign [tg] e pos) (c0H te g):=by
 intro pins s σ H D I h
 refine wpAny_Assign_stores (B8 (he pins s σ H _ I h) fun v s1 h0=>j8 h0 fun x H1 I1 r1 q1=> ?_) hs hw
 rw [h1]
 exact B8 (hg pins s1 σ H1 x v _ I1 r1 q1) fun _ s2 q=>q
theorem b5l{i:Nat}{x:Str}{e:AG}{te:TE}{pos':Pos}(hN:X.N.Nodup)(hi:X.N[i]?=some x)(hx:Loc X.env.scope x)(he:PE X e te)(hs:swapsWith e (some (.Name x pos')) pos.line X.env=pure false:=by rfl)(hf:X.fn x=true\/X.env.scope.names.lookup x=some .local:=by first|exact .inl rfl|exact .inr rfl|assumption):
 PS X (.Assign [.Name x pos'] e pos) (c0H te (a9L i)):=by
 intro pins s σ H D I h
 refine wpAny_Assign_Name (B8 (he pins s σ H _ I h) fun v s1 h0=>j8 h0 fun y H1 I1 r1 q1=> ?_) hs
 exact a0s I1 hN hi hx r1 (fun s2 I2=>⟨_,H1,I2,q1⟩) hf
def c1q(i j:Nat)(ta:TA):TS:=fun D σ H=>ta σ H fun vs H1=>∃v w,vs=[v,w]/\D.nx ((σ.set i (some v)).set j (some w)) H1
theorem b9s{i j:Nat}{x y:Str}{a b:AG}{ta:TA}{px py pt:Pos}{kt k2 pt2}(hc:X.calm=true)(hN:X.N.Nodup)(hi:X.N[i]?=some x)(hj:X.N[j]?=some y)(hij:i≠j)
 (hx:X.env.scope.names.lookup x=some .local) (hy:X.env.scope.names.lookup y=some .local) (ha:PA X [a,b] ta)
 (hw:swappedStores [.Tuple [.Name x px,.Name y py] kt pt] (.Tuple [a,b] k2 pt2) X.env=pure (some [x,y]))
 (hs:swapsWithSole [.Tuple [.Name x px,.Name y py] kt pt] (.Tuple [a,b] k2 pt2) pos.line X.env=pure false:=by rfl):
 PS X (.Assign [.Tuple [.Name x px,.Name y py] kt pt] (.Tuple [a,b] k2 pt2) pos) (c1q i j ta):=by
 intro pins s σ H D I h
 rw [exec_Assign_arm]
 refine AD (wpAny_standAt ?_)
 rw [hs]
 refine AD (AI ?_)
 rw [if_neg (by decide)]
 refine AD (Tuple_ (B8 (ha _ pins s σ H _ I h) fun us s1 h0=>j8 h0 fun vs H1 I1 r1 q1=> ?_))
 obtain⟨v,w,e1,q1⟩:=q1
 subst e1
 obtain⟨u1,u2,rfl,rv,rw'⟩:∃u1 u2,us=[u1,u2]/\l8 v u1/\l8 w u2:=by
  cases r1 with
  |cons p q=>
   cases q with
   |cons p' q'=>
    cases q'
    exact⟨_,_,rfl,p,p'⟩
 refine wpAny_newObj_type ?_ (by show 2<=AO;decide)
 have I2:e9 X pins σ H1 {s1 with heap:=s1.heap.push {cls:= .type "tuple",data:= .seq [u1,u2].toArray}}:=I1.kept (t':=s1.toks) fun b o e=>Ab _ e
 rw [hw]
 refine AD (AI ?_)
 show AF (model X.prog X.w) X.A (do rule "assign.swapped-stores";let items<-unpackItems (.ref s1.heap.objs.size) 2 none;assignInOrder [fun v=>bindName X.env y v,fun v=>bindName X.env x v] items.reverse;pure Flow.next) _ _ _
 refine AD (wpAny_rule (AD (unpackItems_tuple (items:= #[u1,u2]) (I.ok.hd hc) (IsTup.new s1.heap _) fun h' hx'=> ?_)))
 have I3:=I2.kept (h':=h') (t':=s1.toks) fun b o e=>hx' b o (Ai (Af e)) e
 show AF _ _ (assignInOrder [fun v=>bindName X.env y v,fun v=>bindName X.env x v] [u2,u1]>>=fun _=>pure Flow.next) _ _ _
 refine AD (assignInOrder_cons (wpAny_bindName (a0s I3 hN hj (.inl hy) rw' (fun s2 I4=> ?_) (.inr hy))))
 refine assignInOrder_cons (wpAny_bindName (a0s I4 hN hi (.inl hx) rv (fun s3 I5=>assignInOrder_nil (AI ?_)) (.inr hx)))
 rw [List.set_comm _ _ (Ne.symm hij)] at I5
 exact⟨_,H1,I5,q1⟩
def c1k(i:Nat)(te:TE)(ti:TIp):TS:=fun D σ H=>∃x,σ[i]?=some (some x)/\te σ H fun y H1=>ti x y H1 fun z H2=>D.nx (σ.set i (some z)) H2
theorem b9r{i:Nat}{x:Str}{e:AG}{te:TE}{op:Operator}{ti:TIp}{pos':Pos}(hN:X.N.Nodup)(hi:X.N[i]?=some x)(hx:Loc X.env.scope x)(he:PE X e te)(ho:PIp X op ti)(hf:X.fn x=true\/X.env.scope.names.lookup x=some .local:=by first|exact .inl rfl|exact .inr rfl|assumption):
 PS X (.AugAssign (.Name x pos') op e pos) (c1k i te ti):=by
 intro pins s σ H D I h
 obtain⟨v,e1,h⟩:=h
 obtain⟨m,hn,hl⟩:=I.loc
 have vis:Vis X.env.scope x:=by rcases hx with k|k;exact .inl k;exact .inr (.inl k)
 obtain⟨u,r,l⟩:=hl i x v hi e1 vis
 refine wpAny_AugAssign_Name ?_
 have go:AF (model X.prog X.w) X.A (eval e X.env) (fun w s₂=>AF (model X.prog X.w) X.A (inplaceOp op u w) (fun r s₃=>AF (model X.prog X.w) X.A (storeName X.env x r) (fun _=>SP X pins D .next) X.xe s₃) X.xe s₂) X.xe s:=by
  refine B8 (he pins s σ H _ I h) fun w s1 h0=>j8 h0 fun y H1 I1 r1 q1=> ?_
  refine B8 (ho pins s1 σ H1 v y u w _ I1 r r1 q1) fun z s2 h0=>j8 h0 fun zv H2 I2 r2 q2=> ?_
  exact a0s I2 hN hi hx r2 (fun s3 I3=>⟨_,H2,I3,q2⟩) hf
 rcases l with⟨hk,hm⟩|⟨hk,c,hc,hcell⟩
 ·exact wpAny_loadName_local I.ok.kind hk hn hm go
 ·rcases hk with hk|hk
  ·exact wpAny_loadName_cell I.ok.kind hk hc hcell go
  ·rcases hx with k|k
   ·have:X.env.scope.names.lookup x=some .free:=hk
    rw [k] at this;cases this
   ·have:X.env.scope.names.lookup x=some .free:=hk
    rw [k] at this;cases this
end
section
variable {X:Cx}{pos:Pos}
end
structure It where
 go:Nat->Hp->Prop
 yld:Nat->Hp->V->Hp->Prop
 stop:Nat->Hp->Prop
def a73(X:Cx)(pins:List (AB×Obj))(H:Hp)(b:AB):Prop:=
 H b=none/\b≠X.env.locals/\b∉X.fs/\(b∈X.ex\/X.s₀.heap.objs.size<=b)/\(∀x c,X.env.cells.lookup x=some c->c≠b)/\∀p∈X.pn++pins,p.1≠b
theorem e9.fpOk{X:Cx}{pins:List (AB×Obj)}{σ:St}{H H':Hp}{s:AC}{b:AB}(I:e9 X pins σ H s)(hb:s.heap.objs.size<=b)(hn:H' b=none):a73 X pins H' b:=by
 refine⟨hn,Nat.ne_of_gt (Au I.lt hb),I.nofs hb,.inr (Nat.le_trans I.sz hb),fun x c e z=> ?_,fun p hp z=> ?_⟩
 ·obtain⟨v,q⟩:=I.cell x c e
  exact absurd (Au q.lt (by rw [z];exact hb)) (Nat.lt_irrefl _)
 ·exact absurd (Au (Af (I.pin p hp).1) (by rw [z];exact hb)) (Nat.lt_irrefl _)
structure b0y(P:AL)(w:AJ)(K:AE)(tg:AG)(J:It)(fp:List AB)(it:AB)(tn:Nat->Heap->Prop):Prop where
 mem:it∈fp
 obj:∀i h,tn i h->∀b∈fp,∃o,h.get? b=some o/\∀v,o.data≠.cell v
 keep:∀i h h',tn i h->(∀b∈fp,∀o,h.get? b=some o->h'.get? b=some o)->tn i h'
 item:∀(X:Cx),X.prog=P->X.w=w->X.K=K->X.calm=true->∀(i:Nat) (pins:List (AB×Obj)) (s:AC) (σ:St) (H:Hp) (E:AA->AC->Prop),e9 X pins σ H s->(∀b∈fp,a73 X pins H b)->tn i s.heap->J.go i H->
  AF (model P w) X.A (pyNext (.ref it)) (fun r s1=>∃u,r=some u/\
   AF (model P w) X.A (letOwnedTupleGo tg (.ref it) u) (fun _ s2=>∃x H',e9 X pins σ H' s2/\l8 x u/\J.yld i H x H'/\tn (i+1) s2.heap/\∀b∈fp,H' b=none) E s1) E s
 done:∀(X:Cx),X.prog=P->X.w=w->X.K=K->X.calm=true->∀(i:Nat) (pins:List (AB×Obj)) (s:AC) (σ:St) (H:Hp) (E:AA->AC->Prop),e9 X pins σ H s->(∀b∈fp,a73 X pins H b)->tn i s.heap->J.stop i H->
   AF (model P w) X.A (pyNext (.ref it)) (fun r s1=>r=none/\e9 X pins σ H s1) E s
 self:∀(A:AM) (i:Nat) (s:AC) (Q:AA->AC->Prop) (E:AA->AC->Prop),tn i s.heap->Q (.ref it) s->AF (model P w) A (pyIter (.ref it)) Q E s
abbrev TI:=St->Hp->(It->Hp->Prop)->Prop
def PIE(X:Cx)(pins:List (AB×Obj))(σ:St)(tg:AG)(R:It->Hp->Prop)(itv:AA)(s2:AC):Prop:=
 ∃(it:AB) (fp:List AB) (tn:Nat->Heap->Prop) (J:It) (H':Hp),itv= .ref it/\e9 X pins σ H' s2/\b0y X.prog X.w X.K tg J fp it tn/\tn 0 s2.heap/\(∀b∈fp,a73 X pins H' b)/\R J H'
def PI(X:Cx)(tg iter:AG)(wi:TI):Prop:=
 ∀(pins:List (AB×Obj)) (s:AC) (σ:St) (H:Hp) (R:It->Hp->Prop),e9 X pins σ H s->wi σ H R->
  AF (model X.prog X.w) X.A (eval iter X.env) (fun v s1=>AF (model X.prog X.w) X.A (pyIter v) (PIE X pins σ tg R) X.xe s1) X.xe s
theorem b1Y{M:Model}{A:AM}{E:AA->AC->Prop}{s:AC}{tg:AG}{it:AB}{u:AA}{o:Obj}{n:String}{vs:Array AA}{Q:Unit->AC->Prop}(ho:s.heap.get? it=some o)(hc:o.cls= .type n)(hd:o.data= .fields vs)
 (hn:["enumerate","zip","dict_itemiterator","dict_reverseitemiterator","odict_iterator","itertools.zip_longest","itertools.pairwise"].contains n=false) (hQ:Q () s):AF M A (letOwnedTupleGo tg (.ref it) u) Q E s:=by
 unfold letOwnedTupleGo
 cases tg<;>first
  |exact AI hQ
  |(cases u<;>first
   |exact AI hQ
   |(refine AD (wpAny_load ho ?_)
     rw [hc,hd]
     show AF M A (if(["enumerate","zip","dict_itemiterator","dict_reverseitemiterator","odict_iterator","itertools.zip_longest","itertools.pairwise"].contains n && vs[0]?==some (rawInt _))=true then _ else _) Q E s
     rw [if_neg (by intro h;rw [hn,Bool.false_and] at h;cases h)]
     exact AI hQ))
def Itl(K:AE)(a:AB):It:=
 ⟨fun i H=>∃xs x,Z3 K H a xs/\xs[i]?=some x,fun i H x H'=>H'=H/\∀xs,Z3 K H a xs->xs[i]?=some x,fun i H=>∃xs,Z3 K H a xs/\xs.length<=i⟩
def Itt(K:AE)(a:AB):It:=
 ⟨fun i H=>∃xs x,SqT K H a xs/\xs[i]?=some x,fun i H x H'=>H'=H/\∀xs,SqT K H a xs->xs[i]?=some x,fun i H=>∃xs,SqT K H a xs/\xs.length<=i⟩
def Itr(lo:Int)(n:Nat):It:=⟨fun i _=>i<n,fun i H x H'=>H'=H/\x= .int (lo+i),fun i _=>n<=i⟩
theorem a7W{P:AL}{w:AJ}{K:AE}{tg:AG}(a it:AB):b0y P w K tg (Itl K a) [it] it (fun i h=>h.IsListIter it a i) where
 mem:=by simp
 obj:=fun i h st b hb=>by
  have e:b=it:=by simpa using hb
  subst e
  obtain⟨o,e,c,d⟩:=st
  exact⟨o,e,fun v z=>by rw [d] at z;cases z⟩
 keep:=fun i h h' st k=>st.at fun o e=>k it (by simp) o e
 item:=by
  intro X hP hw hK hc i pins s σ H E I hf st hg
  subst hP hw hK
  obtain⟨xs,x,hq,hx⟩:=hg
  obtain⟨its,rv,p,hz⟩:=I.list hq
  obtain⟨u,hu,ru⟩:=rv.get hx
  obtain⟨f0,f1,f2,f3,f4,f5⟩:=hf it (by simp)
  refine wpAny_pyNext_list_item st p.isList (x:=u) (by simpa using hu) fun h' st' sb=> ?_
  have I1:e9 X pins σ H {s with heap:=h'}:=I.turned (t':=s.toks) (fun b o hb e=>(sb.2 b hb).trans e) f0 f1 f3 f4 f5
  obtain⟨o,e,c,d⟩:=id st'
  exact⟨u,rfl,b1Y (s:={s with heap:=h'}) e c d (by decide) ⟨x,H,I1,ru,⟨rfl,fun ys hy=>by rw [I.list_inj hy hq];exact hx⟩,st',fun b hb=>(hf b hb).1⟩⟩
 done:=by
   intro X hP hw hK hc i pins s σ H E I hf st hg
   subst hP hw hK
   obtain⟨xs,hq,hx⟩:=hg
   obtain⟨its,rv,p,hz⟩:=I.list hq
   obtain⟨f0,f1,f2,f3,f4,f5⟩:=hf it (by simp)
   have hl:=rv.length
   exact wpAny_pyNext_list_end (I.ok.hd hc) st p.isList (by simp;lia) fun h' eb=>⟨rfl,I.turned (t':=s.toks) (fun b o hb e=>eb b o hb e) f0 f1 f3 f4 f5⟩
 self:=fun _ _ _ _ _ st h=>wpAny_pyIter_listiter st h
theorem b1p{P:AL}{w:AJ}{K:AE}{tg:AG}(a it:AB):b0y P w K tg (Itt K a) [it] it (fun i h=>h.IsTupleIter it a i) where
 mem:=by simp
 obj:=fun i h st b hb=>by
  have e:b=it:=by simpa using hb
  subst e
  obtain⟨o,e,c,d⟩:=st
  exact⟨o,e,fun v z=>by rw [d] at z;cases z⟩
 keep:=fun i h h' st k=>st.at fun o e=>k it (by simp) o e
 item:=by
  intro X hP hw hK hc i pins s σ H E I hf st hg
  subst hP hw hK
  obtain⟨xs,x,hq,hx⟩:=hg
  obtain⟨its,rv,p,hz⟩:=I.tuple hq
  obtain⟨u,hu,ru⟩:=rv.get hx
  obtain⟨f0,f1,f2,f3,f4,f5⟩:=hf it (by simp)
  refine wpAny_pyNext_tuple_item st (show s.heap.IsTuple a its.toArray from p) (x:=u) (by simpa using hu) fun h' st' sb=> ?_
  have I1:e9 X pins σ H {s with heap:=h'}:=I.turned (t':=s.toks) (fun b o hb e=>(sb.2 b hb).trans e) f0 f1 f3 f4 f5
  obtain⟨o,e,c,d⟩:=id st'
  exact⟨u,rfl,b1Y (s:={s with heap:=h'}) e c d (by decide) ⟨x,H,I1,ru,⟨rfl,fun ys hy=>by rw [I.tuple_inj hy hq];exact hx⟩,st',fun b hb=>(hf b hb).1⟩⟩
 done:=by
   intro X hP hw hK hc i pins s σ H E I hf st hg
   subst hP hw hK
   obtain⟨xs,hq,hx⟩:=hg
   obtain⟨its,rv,p,hz⟩:=I.tuple hq
   obtain⟨f0,f1,f2,f3,f4,f5⟩:=hf it (by simp)
   have hl:=rv.length
   exact wpAny_pyNext_tuple_end (I.ok.hd hc) st (show s.heap.IsTuple a its.toArray from p) (by simp;lia) fun h' eb=>⟨rfl,I.turned (t':=s.toks) (fun b o hb e=>eb b o hb e) f0 f1 f3 f4 f5⟩
 self:=fun _ _ _ _ _ st h=>wpAny_pyIter_tupleiter st h
theorem b1o{P:AL}{w:AJ}{K:AE}{tg:AG}(it:AB)(lo:Int)(n:Nat):b0y P w K tg (Itr lo n) [it] it (fun i h=>IsRangeIter h it (lo+(i:Nat)*1) ((n:Int) - (i:Nat)) 1) where
 mem:=by simp
 obj:=fun i h st b hb=>by
  have e:b=it:=by simpa using hb
  subst e
  exact⟨_,st,fun v z=>by
   have z':Data.fields _=Data.cell v:=z
   cases z'⟩
 keep:=fun i h h' st k=>k it (by simp) _ st
 item:=by
  intro X hP hw hK hc i pins s σ H E I hf st hg
  subst hP hw hK
  obtain⟨f0,f1,f2,f3,f4,f5⟩:=hf it (by simp)
  have W:=Walks.range (prog:=X.prog) (w:=X.w) (I.ok.hd hc) it lo 1 n
  refine W.item i s _ _ hg st fun v h' tk hv st' kk=> ?_
  obtain⟨t,rfl⟩:=hv
  have I1:e9 X pins σ H {s with heap:=h',toks:=tk}:=I.turned (fun b o hb e=>kk b o (by simpa using hb) e) f0 f1 f3 f4 f5
  refine⟨_,rfl,b1Y (s:={s with heap:=h',toks:=tk}) (n:="range_iterator") st' rfl rfl (by decide) ⟨.int (lo+i),H,I1,⟨t, ?_⟩,⟨rfl,rfl⟩,st',fun b hb=>(hf b hb).1⟩⟩
  rw [Int.mul_one]
 done:=by
   intro X hP hw hK hc i pins s σ H E I hf st hg
   subst hP hw hK
   obtain⟨f0,f1,f2,f3,f4,f5⟩:=hf it (by simp)
   exact wpAny_pyNext_range_end (I.ok.hd hc) st (by have:n<=i:=hg;lia) fun h' eb=>⟨rfl,I.turned (t':=s.toks) (fun b o hb e=>eb b o hb e) f0 f1 f3 f4 f5⟩
 self:=fun _ _ _ _ _ st h=>wpAny_pyIter_rangeiter st h
section
variable {X:Cx}{tg:AG}
theorem b0f{pins:List (AB×Obj)}{σ:St}{H:Hp}{s:AC}{R:It->Hp->Prop}{E:AA->AC->Prop}{lo hi:Int}{t u v:Tok}{tk:Nat}(I:e9 X pins σ H s)(h1: -(2 ^ 62)<=lo)(h2:lo<2 ^ 62)(h3: -(2 ^ 62)<=hi)(h4:hi<2 ^ 62)
 (q:R (Itr lo (hi - lo).toNat) H):AF (model X.prog X.w) X.A (pyIter (.ref s.heap.objs.size)) (PIE X pins σ tg R) E {s with heap:=s.heap.push {cls:= .type "range",data:= .fields #[.int lo t,.int hi u,.int 1 v]},toks:=tk}:=by
 refine wpAny_pyIter_range (IsRange.new ..) (small_one h1 h2 h3 h4) ?_
 have I1:e9 X pins σ H {s with heap:=s.heap.push {cls:= .type "range",data:= .fields #[.int lo t,.int hi u,.int 1 v]},toks:=tk}:=I.kept fun b o e=>Ab _ e
 refine⟨(s.heap.push {cls:= .type "range",data:= .fields #[.int lo t,.int hi u,.int 1 v]}).objs.size,[(s.heap.push {cls:= .type "range",data:= .fields #[.int lo t,.int hi u,.int 1 v]}).objs.size],_,_,H,rfl,
  I1.kept (t':=tk) fun b o e=>Ab _ e,b1o _ lo (hi - lo).toNat, ?_,fun b hb=> ?_,q⟩
 ·have e1:lo+((0:Nat):Int)*1=lo:=by simp
  have e2:(((hi - lo).toNat:Nat):Int) - ((0:Nat):Int)=Builtin.Range.rangeSize lo hi 1:=by rw [rangeSize_one];split<;>lia
  show IsRangeIter _ _ (lo+((0:Nat):Int)*1) ((((hi - lo).toNat:Nat):Int) - ((0:Nat):Int)) 1
  rw [e1,e2]
  exact Ao _ rfl
 ·have e:b=(s.heap.push {cls:= .type "range",data:= .fields #[.int lo t,.int hi u,.int 1 v]}).objs.size:=by simpa using hb
  subst e
  exact I1.fpOk (AS _) (I1.hok.fresh (AS _))
def c0e(ta:TA):TI:=fun σ H R=>ta σ H fun vs H1=>∃j:Int,vs=[.int j]/\ -(2 ^ 62)<=j/\j<2 ^ 62/\R (Itr 0 j.toNat) H1
def c0f(ta:TA):TI:=fun σ H R=>ta σ H fun vs H1=>∃i j:Int,vs=[.int i,.int j]/\(-(2 ^ 62)<=i/\i<2 ^ 62/\ -(2 ^ 62)<=j/\j<2 ^ 62)/\R (Itr i (j - i).toNat) H1
theorem a7O{a:AG}{ta:TA}{p pos:Pos}(hg:Gl X "range")(hm:X.mg "range"=none)(ha:PA X [a] ta)(hs:AN [a] X.env=[(false,eval a X.env)]:=by rfl):PI X tg (.Call (.Name "range" p) [a] [] pos) (c0e ta):=by
 intro pins s σ H R I h
 refine Call_ (a51 I hg hm boot_range (PyProof.Rows.callWith_type1 (B8 (ha pos pins s σ H _ I h) fun us s1 h0=>j8 h0 fun vs H1 I1 r1 q1=> ?_) hs rfl))
 obtain⟨j,e,q1,q2,q⟩:=q1
 subst e
 cases r1 with
 |cons r rr=>
  cases rr
  obtain⟨t,rfl⟩:=r
  exact call_range_1 (b0f I1 (by lia) (by lia) q1 q2 (by simpa using q))
theorem b3t{a b:AG}{ta:TA}{p pos:Pos}(hg:Gl X "range")(hm:X.mg "range"=none)(ha:PA X [a,b] ta)(hs:AN [a,b] X.env=[(false,eval a X.env),(false,eval b X.env)]:=by rfl)(hs2:AN [b] X.env=[(false,eval b X.env)]:=by rfl):
 PI X tg (.Call (.Name "range" p) [a,b] [] pos) (c0f ta):=by
 intro pins s σ H R I h
 refine Call_ (a51 I hg hm boot_range (PyProof.Rows.callWith_type1 (B8 (ha pos pins s σ H _ I h) fun us s1 h0=>j8 h0 fun vs H1 I1 r1 q1=> ?_) (by rw [hs,hs2]) (by rw [hs2];rfl)))
 obtain⟨i,j,e,⟨q1,q2,q3,q4⟩,q⟩:=q1
 subst e
 cases r1 with
 |cons r rr=>
  cases rr with
  |cons r' rr=>
   cases rr
   obtain⟨t,rfl⟩:=r
   obtain⟨t',rfl⟩:=r'
   exact call_range_2 (b0f I1 q1 q2 q3 q4 q)
def c1l(wi:TI)(g:TG)(tb:TS):TS:=fun D σ H=>wi σ H fun J H1=>∃W:Nat->Nat->St->Hp->Prop,(∃m,W 0 m σ H1)/\∀i m σ H,W i m σ H->
 (J.stop i H/\D.nx σ H)\/(J.go i H/\∃N:St->Hp->Prop,(∀σ' H',N σ' H'->∃m',m'<m/\W (i+1) m' σ' H')/\∀x H',J.yld i H x H'->g x σ H' fun σ2 H2=>tb {D with nx:=N,ct:=N,bk:=D.nx} σ2 H2)
def a6m(fp:List AB)(h:Heap):List (AB×Obj):=fp.filterMap fun b=>(h.get? b).map fun o=>(b,o)
theorem a0J{fp:List AB}{h:Heap}{b:AB}{o:Obj}(hb:b∈fp)(e:h.get? b=some o):(b,o)∈a6m fp h:=List.mem_filterMap.mpr ⟨b,hb,by rw [e];rfl⟩
theorem b3m{fp:List AB}{h:Heap}{p:AB×Obj}(hp:p∈a6m fp h):p.1∈fp/\h.get? p.1=some p.2:=by
 obtain⟨b,hb,e⟩:=List.mem_filterMap.mp hp
 cases q:h.get? b with
 |none=>rw [q] at e;cases e
 |some o=>
  rw [q] at e
  have e':(b,o)=p:=Option.some.inj e
  subst e'
  exact⟨hb,q⟩
theorem e9.pinned{pins:List (AB×Obj)}{σ:St}{H:Hp}{s:AC}{fp:List AB}(I:e9 X pins σ H s)(hf:∀b∈fp,a73 X pins H b)(ho:∀b∈fp,∃o,s.heap.get? b=some o/\∀v,o.data≠.cell v):e9 X (pins++a6m fp s.heap) σ H s:=
 I.pins_of fun p hp=>(BB.mp hp).elim (fun z=>I.pin p (BA _ z)) fun z=>by
  obtain⟨hb,e⟩:=b3m z
  obtain⟨f0,f1,f2,_⟩:=hf p.1 hb
  obtain⟨o,e',d⟩:=ho p.1 hb
  rw [e] at e';cases e'
  exact⟨e,f0,f1,f2,d⟩
theorem e9.unpinned{pins pl:List (AB×Obj)}{σ:St}{H:Hp}{s:AC}(I:e9 X (pins++pl) σ H s):e9 X pins σ H s:=I.pins_of fun p hp=>I.pin p (BA _ (BH _ hp))
theorem a6n{iter:AG}{body:List Stmt}{wi:TI}{g:TG}{tb:TS}{pos:Pos}(hp:PassesOwn (model X.prog X.w) X.A X.env X.xe)(hc:X.calm=true)(hi:PI X tg iter wi)(hg:PG X tg g)(hb:PSs X body tb)
 (hs:∀x,foldedSetIterable iter X.env x=pure x:=by intro _;rfl):PS X (.For tg iter body [] pos) (c1l wi g tb):=by
 intro pins s σ H D I h
 refine wpAny_For (B8 (hi pins s σ H _ I h) fun v s1 h1=>B8 h1 fun itv s2 h2=> ?_) hs
 obtain⟨it,fp,tn,J,H2,e,I2,T,st2,f2,W,⟨m0,w0⟩,turn⟩:=h2
 subst e
 have stat:∀{H':Hp},(∀b∈fp,H' b=none)->∀b∈fp,a73 X pins H' b:=fun hn b hb=>⟨hn b hb,(f2 b hb).2⟩
 refine codeAny_forLoop_any (fun n s'=>∃i σ' H',e9 X pins σ' H' s'/\tn i s'.heap/\(∀b∈fp,H' b=none)/\W i n σ' H') ?_ m0 ⟨0,σ,H2,I2,st2,fun b hb=>(f2 b hb).1,w0⟩
 rintro n s3 ⟨i,σ3,H3,I3,st3,fr3,w3⟩
 rcases turn i n σ3 H3 w3 with⟨stop,qn⟩|⟨go,N,hN,step⟩
 ·refine wpAny_passesOwn hp (B8 (T.done X rfl rfl rfl hc i pins s3 σ3 H3 X.xe I3 (stat fr3) st3 stop) fun r s4 ⟨hr,I4⟩=> ?_)
  subst hr
  exact wpAny_execs_nil ⟨σ3,H3,I4,qn⟩
 ·refine wpAny_passesOwn hp (B8 (T.item X rfl rfl rfl hc i pins s3 σ3 H3 X.xe I3 (stat fr3) st3 go) fun r s4 ⟨u,hr,h4⟩=> ?_)
  subst hr
  refine wpAny_passesOwn hp (B8 h4 fun _ s5 ⟨x,H5,I5,r5,y5,st5,fr5⟩=> ?_)
  have I5':=I5.pinned (stat fr5) (T.obj _ _ st5)
  refine wpAny_passesOwn hp (B8 (hg _ s5 σ3 H5 x u _ I5' r5 (step x H5 y5)) fun _ s6 ⟨σ6,H6,I6,q6⟩=> ?_)
  refine wpAny_passesOwn hp (B8 (hb _ s6 σ6 H6 _ I6 q6) fun f s7 q7=> ?_)
  have again:∀{σ7:St} {H7:Hp},e9 X (pins++a6m fp s5.heap) σ7 H7 s7->N σ7 H7->∃m,m<n/\∃i σ' H',e9 X pins σ' H' s7/\tn i s7.heap/\(∀b∈fp,H' b=none)/\W i m σ' H':=fun {σ7 H7} I7 n7=>by
   obtain⟨m',hm,w7⟩:=hN σ7 H7 n7
   refine⟨m',hm,i+1,σ7,H7,I7.unpinned,T.keep _ _ _ st5 fun b hb o e=>(I7.pin (b,o) (BA _ (BA _ (a0J hb e)))).1,fun b hb=> ?_,w7⟩
   obtain⟨o,e,d⟩:=T.obj _ _ st5 b hb
   exact(I7.pin (b,o) (BA _ (BA _ (a0J hb e)))).2.1
  cases f with
  |next=>obtain⟨σ7,H7,I7,n7⟩:=q7;exact again I7 n7
  |cont=>obtain⟨σ7,H7,I7,n7⟩:=q7;exact again I7 n7
  |brk=>obtain⟨σ7,H7,I7,q7⟩:=q7;exact⟨σ7,H7,I7.unpinned,q7⟩
  |ret v=>obtain⟨x7,σ7,H7,I7,r7,q7⟩:=q7;exact⟨x7,σ7,H7,I7.unpinned,r7,q7⟩
end
theorem a9G{K:AE}{a:AB}{xs:List V}{g:TG}{tb:TS}{D:M3}{σ:St}{H:Hp}(Pv:Nat->St->Hp->Prop)(h0:Pv 0 σ H)(hl:∀i σ H,i<=xs.length->Pv i σ H->Z3 K H a xs)
 (hs:∀i x σ H,xs[i]?=some x->Pv i σ H->g x σ H fun σ2 H2=>tb {D with nx:=Pv (i+1),ct:=Pv (i+1),bk:=D.nx} σ2 H2) (hd:∀σ H,Pv xs.length σ H->D.nx σ H):
 ∃W:Nat->Nat->St->Hp->Prop,(∃m,W 0 m σ H)/\∀i m σ H,W i m σ H->
  ((Itl K a).stop i H/\D.nx σ H)\/((Itl K a).go i H/\∃N:St->Hp->Prop,(∀σ' H',N σ' H'->∃m',m'<m/\W (i+1) m' σ' H')/\∀x H',(Itl K a).yld i H x H'->g x σ H' fun σ2 H2=>tb {D with nx:=N,ct:=N,bk:=D.nx} σ2 H2):=by
 refine⟨fun i m σ H=>m=xs.length - i/\i<=xs.length/\Pv i σ H,⟨xs.length,by simp,Nat.zero_le _,h0⟩, ?_⟩
 rintro i m σ H ⟨rfl,hi,p⟩
 have q:=hl i σ H hi p
 by_cases hlt:i<xs.length
 ·refine .inr ⟨⟨xs,xs[i],q,by simp [hlt]⟩,Pv (i+1),fun σ' H' p'=>⟨xs.length - (i+1),by lia,rfl,hlt,p'⟩,fun x H' y=> ?_⟩
  obtain⟨e,y⟩:=y
  subst e
  exact hs i x σ _ (y xs q) p
 ·have e:i=xs.length:=by lia
  subst e
  exact .inl ⟨⟨xs,q,AS _⟩,hd σ H p⟩
theorem b1T{K:AE}{a:AB}{xs:List V}{g:TG}{tb:TS}{D:M3}{σ:St}{H:Hp}(Pv:Nat->St->Hp->Prop)(h0:Pv 0 σ H)(hl:∀i σ H,i<=xs.length->Pv i σ H->SqT K H a xs)
 (hs:∀i x σ H,xs[i]?=some x->Pv i σ H->g x σ H fun σ2 H2=>tb {D with nx:=Pv (i+1),ct:=Pv (i+1),bk:=D.nx} σ2 H2) (hd:∀σ H,Pv xs.length σ H->D.nx σ H):
 ∃W:Nat->Nat->St->Hp->Prop,(∃m,W 0 m σ H)/\∀i m σ H,W i m σ H->
  ((Itt K a).stop i H/\D.nx σ H)\/((Itt K a).go i H/\∃N:St->Hp->Prop,(∀σ' H',N σ' H'->∃m',m'<m/\W (i+1) m' σ' H')/\∀x H',(Itt K a).yld i H x H'->g x σ H' fun σ2 H2=>tb {D with nx:=N,ct:=N,bk:=D.nx} σ2 H2):=by
 refine⟨fun i m σ H=>m=xs.length - i/\i<=xs.length/\Pv i σ H,⟨xs.length,by simp,Nat.zero_le _,h0⟩, ?_⟩
 rintro i m σ H ⟨rfl,hi,p⟩
 have q:=hl i σ H hi p
 by_cases hlt:i<xs.length
 ·refine .inr ⟨⟨xs,xs[i],q,by simp [hlt]⟩,Pv (i+1),fun σ' H' p'=>⟨xs.length - (i+1),by lia,rfl,hlt,p'⟩,fun x H' y=> ?_⟩
  obtain⟨e,y⟩:=y
  subst e
  exact hs i x σ _ (y xs q) p
 ·have e:i=xs.length:=by lia
  subst e
  exact .inl ⟨⟨xs,q,AS _⟩,hd σ H p⟩
theorem a7k{lo:Int}{n:Nat}{g:TG}{tb:TS}{D:M3}{σ:St}{H:Hp}(Pv:Nat->St->Hp->Prop)(h0:Pv 0 σ H)
 (hs:∀i σ H,i<n->Pv i σ H->g (.int (lo+i)) σ H fun σ2 H2=>tb {D with nx:=Pv (i+1),ct:=Pv (i+1),bk:=D.nx} σ2 H2) (hd:∀σ H,Pv n σ H->D.nx σ H):
 ∃W:Nat->Nat->St->Hp->Prop,(∃m,W 0 m σ H)/\∀i m σ H,W i m σ H->
  ((Itr lo n).stop i H/\D.nx σ H)\/((Itr lo n).go i H/\∃N:St->Hp->Prop,(∀σ' H',N σ' H'->∃m',m'<m/\W (i+1) m' σ' H')/\∀x H',(Itr lo n).yld i H x H'->g x σ H' fun σ2 H2=>tb {D with nx:=N,ct:=N,bk:=D.nx} σ2 H2):=by
 refine⟨fun i m σ H=>m=n - i/\i<=n/\Pv i σ H,⟨n,by simp,Nat.zero_le _,h0⟩, ?_⟩
 rintro i m σ H ⟨rfl,hi,p⟩
 by_cases hlt:i<n
 ·refine .inr ⟨hlt,Pv (i+1),fun σ' H' p'=>⟨n - (i+1),by lia,rfl,hlt,p'⟩,fun x H' y=> ?_⟩
  obtain⟨e,y⟩:=y
  subst e y
  exact hs i σ _ hlt p
 ·have e:i=n:=by lia
  subst e
  exact .inl ⟨AS _,hd σ H p⟩
abbrev R2:=V->V->Hp->VK->Prop
def OpR(X:Cx)(f:AA->AA->Sem AA)(r:R2):Prop:=
 ∀(pins:List (AB×Obj)) (s:AC) (σ:St) (H:Hp) (x y:V) (v u:AA) (Q:VK),e9 X pins σ H s->l8 x v->l8 y u->r x y H Q->
  AF (model X.prog X.w) X.A (f v u) (EP X pins σ Q) X.xe s
def UnR(X:Cx)(f:AA->Sem AA)(r:V->Hp->VK->Prop):Prop:=
 ∀(pins:List (AB×Obj)) (s:AC) (σ:St) (H:Hp) (x:V) (v:AA) (Q:VK),e9 X pins σ H s->l8 x v->r x H Q->
  AF (model X.prog X.w) X.A (f v) (EP X pins σ Q) X.xe s
def E9(X:Cx)(f:AA)(r:List V->Hp->VK->Prop):Prop:=
 ∀(pins:List (AB×Obj)) (s:AC) (σ:St) (H:Hp) (xs:List V) (us:List AA) (Q:VK),e9 X pins σ H s->l9 xs us->r xs H Q->
  AF (model X.prog X.w) X.A (call f us) (EP X pins σ Q) X.xe s
def c0Z(X:Cx)(r:V->Hp->(Bool->Hp->Prop)->Prop):Prop:=
 ∀(pins:List (AB×Obj)) (s:AC) (σ:St) (H:Hp) (x:V) (v:AA) (Q:Bool->Hp->Prop),e9 X pins σ H s->l8 x v->r x H Q->
  AF (model X.prog X.w) X.A (truthy v) (TP X pins σ Q) X.xe s
def tOp(r:R2)(ta tb:TE):TE:=fun σ H Q=>ta σ H fun x H1=>tb σ H1 fun y H2=>r x y H2 Q
def tUn(r:V->Hp->VK->Prop)(ta:TE):TE:=fun σ H Q=>ta σ H fun x H1=>r x H1 Q
def rI(C:Int->Int->Prop)(g:Int->Int->V):R2:=fun x y H Q=>∃i j,x= .int i/\y= .int j/\C i j/\Q (g i j) H
def rI0(g:Int->Int->V):R2:=fun x y H Q=>∃i j,x= .int i/\y= .int j/\Q (g i j) H
def rU(g:Int->V):V->Hp->VK->Prop:=fun x H Q=>∃i,x= .int i/\Q (g i) H
section
variable {X:Cx}{a b c:AG}{ta tb tc:TE}{pos:Pos}
theorem b8e(ha:PE X a ta)(hb:PE X b tb){pins:List (AB×Obj)}{s:AC}{σ:St}{H:Hp}{R:V->V->Hp->Prop}(I:e9 X pins σ H s)
 (h:ta σ H fun x H1=>tb σ H1 fun y H2=>R x y H2) {Q:AA->AC->Prop} {f:AA->AA->Sem AA}
 (hf:∀v u s2 x y H2,e9 X pins σ H2 s2->l8 x v->l8 y u->R x y H2->AF (model X.prog X.w) X.A (f v u) Q X.xe s2):
 AF (model X.prog X.w) X.A (eval a X.env) (fun v s₁=>AF (model X.prog X.w) X.A (eval b X.env) (fun u s₂=>AF (model X.prog X.w) X.A (f v u) Q X.xe s₂) X.xe s₁) X.xe s:=by
 refine B8 (ha pins s σ H _ I h) fun v s1 h0=>j8 h0 fun x H1 I1 r1 q1=> ?_
 refine B8 (hb pins s1 σ H1 _ I1 q1) fun u s2 h0=>j8 h0 fun y H2 I2 r2 q2=> ?_
 exact hf v u s2 x y H2 I2 r1 r2 q2
theorem c0u{op:Operator}{r:R2}(ho:OpR X (binaryOp op) r)(ha:PE X a ta)(hb:PE X b tb):PE X (.BinOp a op b pos) (tOp r ta tb):=by
 intro pins s σ H Q I h
 exact wpAny_BinOp (b8e ha hb I h fun v u s2 x y H2 I2 rx ry q=>ho pins s2 σ H2 x y v u Q I2 rx ry q)
theorem c0w{op:UnaryOp}{r:V->Hp->VK->Prop}(ho:UnR X (unaryOp op) r)(ha:PE X a ta):PE X (.UnaryOp op a pos) (tUn r ta):=by
 intro pins s σ H Q I h
 exact UnaryOp_ (B8 (ha pins s σ H _ I h) fun v s1 h0=>j8 h0 fun x H1 I1 r1 q1=>ho pins s1 σ H1 x v Q I1 r1 q1)
theorem opI{f:AA->AA->Sem AA}{C:Int->Int->Prop}{g:Int->Int->Int}
 (rule:∀(i j:Int) (t u:Tok) (s:AC) (Q:AA->AC->Prop) (E:AA->AC->Prop),C i j->Q (.int (g i j) s.toks) {s with toks:=s.toks+1}->AF (model X.prog X.w) X.A (f (.int i t) (.int j u)) Q E s):
 OpR X f (rI C fun i j=> .int (g i j)):=by
 intro pins s σ H x y v u Q I rx ry h
 obtain⟨i,j,rfl,rfl,hc,q⟩:=h
 obtain⟨t,rfl⟩:=rx
 obtain⟨t',rfl⟩:=ry
 exact rule i j t t' s _ _ hc ⟨.int (g i j),H,I.tok _,⟨_,rfl⟩,q⟩
theorem c0m{f:AA->AA->Sem AA}{g:Int->Int->Int}
 (rule:∀(i j:Int) (t u:Tok) (s:AC) (Q:AA->AC->Prop) (E:AA->AC->Prop),Q (.int (g i j) s.toks) {s with toks:=s.toks+1}->AF (model X.prog X.w) X.A (f (.int i t) (.int j u)) Q E s):
 OpR X f (rI0 fun i j=> .int (g i j)):=by
 intro pins s σ H x y v u Q I rx ry h
 obtain⟨i,j,rfl,rfl,q⟩:=h
 obtain⟨t,rfl⟩:=rx
 obtain⟨t',rfl⟩:=ry
 exact rule i j t t' s _ _ ⟨.int (g i j),H,I.tok _,⟨_,rfl⟩,q⟩
theorem b85{f:AA->AA->Sem AA}{g:Int->Int->Bool}
 (rule:∀(i j:Int) (t u:Tok) (s:AC) (Q:AA->AC->Prop) (E:AA->AC->Prop),Q (.bool (g i j)) s->AF (model X.prog X.w) X.A (f (.int i t) (.int j u)) Q E s):
 OpR X f (rI0 fun i j=> .bl (g i j)):=by
 intro pins s σ H x y v u Q I rx ry h
 obtain⟨i,j,rfl,rfl,q⟩:=h
 obtain⟨t,rfl⟩:=rx
 obtain⟨t',rfl⟩:=ry
 exact rule i j t t' s _ _ ⟨.bl (g i j),H,I,rfl,q⟩
def a02(i j:Int):Prop:=0<j/\j<1073741824
def b2y(i j:Int):Prop:=0<=j/\j<=1000000/\i.natAbs<2 ^ 64
def a4X(i j:Int):Prop:=(-(2 ^ 64)<i/\i<2 ^ 64)\/(-(2 ^ 64)<j/\j<2 ^ 64)
theorem a4X.ok{i j:Int}(h:a4X i j):IntMulOk i j:=by
 rcases h with⟨h1,h2⟩|⟨h1,h2⟩
 ·exact .of_left (intBits_le_64 h1 h2)
 ·exact .of_right (intBits_le_64 h1 h2)
theorem b86:OpR X (binaryOp .Add) (rI0 fun i j=> .int (i+j)):=c0m fun _ _ _ _ _ _ _ q=>add_int q
theorem b9c:OpR X (binaryOp .Sub) (rI0 fun i j=> .int (i - j)):=c0m fun _ _ _ _ _ _ _ q=>sub_int q
theorem b89:OpR X (binaryOp .Mult) (rI a4X fun i j=> .int (i*j)):=opI fun _ _ _ _ _ _ _ hc q=>mul_int q hc.ok
theorem b6W:OpR X (binaryOp .FloorDiv) (rI a02 fun i j=> .int (i / j)):=opI fun i j _ _ _ _ _ hc q=>by
 have h1:(0:Int)<j:=hc.1
 have h2:j<1073741824:=hc.2
 exact floordiv_int (by lia) (by rw [Int.fdiv_eq_ediv_of_nonneg i (by lia)];exact q) (.inl (PyProof.noPylong_small (by lia)))
theorem b88:OpR X (binaryOp .Mod) (rI (fun _ j=>0<j) fun i j=> .int (i % j)):=opI fun i j _ _ _ _ _ hc q=>by
 have h1:(0:Int)<j:=hc
 exact mod_int' (by lia) (by rw [Int.fmod_eq_emod_of_nonneg i (by lia)];exact q)
theorem b9a:OpR X (binaryOp .Pow) (rI b2y fun i j=> .int (i ^ j.toNat)):=opI fun _ _ _ _ _ _ _ hc q=>pow_int_small hc.1 hc.2.1 hc.2.2 q
theorem b6w:OpR X (inplaceOp .Mult) (rI a4X fun i j=> .int (i*j)):=opI fun _ _ _ _ _ _ _ hc q=>imul_int q hc.ok
theorem unI{f:AA->Sem AA}{g:Int->Int}
 (rule:∀(i:Int) (t:Tok) (s:AC) (Q:AA->AC->Prop) (E:AA->AC->Prop),Q (.int (g i) s.toks) {s with toks:=s.toks+1}->AF (model X.prog X.w) X.A (f (.int i t)) Q E s):
 UnR X f (rU fun i=> .int (g i)):=by
 intro pins s σ H x v Q I rx h
 obtain⟨i,rfl,q⟩:=h
 obtain⟨t,rfl⟩:=rx
 exact rule i t s _ _ ⟨.int (g i),H,I.tok _,⟨_,rfl⟩,q⟩
theorem b9N:UnR X (unaryOp .USub) (rU fun i=> .int (-i)):=unI fun _ _ _ _ _ q=>neg_int q
end
section
variable {X:Cx}{a b c:AG}{ta tb tc:TE}{pos:Pos}
theorem a8l{pins:List (AB×Obj)}{σ:St}{H:Hp}{s:AC}{Q:VK}{k k':Bool}(I:e9 X pins σ H s)(q:Q (.bl k) H)(e:k=k'):EP X pins σ Q (.bool k') s:=by
 subst e
 exact⟨.bl k,H,I,rfl,q⟩
theorem c0p:OpR X (compareOp .Lt) (rI0 fun i j=> .bl (decide (i<j))):=b85 fun _ _ _ _ _ _ _ q=>lt_int q
theorem c0o:OpR X (compareOp .LtE) (rI0 fun i j=> .bl (decide (i<=j))):=b85 fun _ _ _ _ _ _ _ q=>le_int q
theorem c0n:OpR X (compareOp .Gt) (rI0 fun i j=> .bl (decide (j<i))):=b85 fun _ _ _ _ _ _ _ q=>gt_int q
theorem b3q:OpR X (compareOp .Lt) (fun x y H Q=>∃i j,x= .str i/\y= .str j/\Q (.bl (decide (i.cps.toList<j.cps.toList))) H):=by
 intro pins s σ H x y v u Q I rx ry h
 obtain⟨i,j,rfl,rfl,q⟩:=h
 obtain⟨t,rfl⟩:=rx
 obtain⟨t',rfl⟩:=ry
 exact lt_str (a8l I q rfl)
theorem b3p:OpR X (compareOp .In) (fun x y H Q=>∃i j,x= .str i/\y= .str j/\Q (.bl (!(Builtin.Str.occurrences j i 0 j.length 1).isEmpty)) H):=by
 intro pins s σ H x y v u Q I rx ry h
 obtain⟨i,j,rfl,rfl,q⟩:=h
 obtain⟨t,rfl⟩:=rx
 obtain⟨t',rfl⟩:=ry
 exact in_str (a8l I q rfl)
theorem b6X:OpR X (compareOp .IsNot) (fun x y H Q=>y= .non/\Q (.bl (!decide (x= .non))) H):=by
 intro pins s σ H x y v u Q I rx ry h
 obtain⟨rfl,q⟩:=h
 cases ry
 refine isnot_none_gen (a8l I q ?_)
 cases x<;>first
  |(cases rx;rfl)
  |(obtain⟨t,rfl⟩:=rx;rfl)
theorem a8U:OpR X (compareOp .NotIn) (fun x y H Q=>∃i j,x= .str i/\y= .str j/\Q (.bl (!(!(Builtin.Str.occurrences j i 0 j.length 1).isEmpty))) H):=by
 intro pins s σ H x y v u Q I rx ry h
 obtain⟨i,j,rfl,rfl,q⟩:=h
 obtain⟨t,rfl⟩:=rx
 obtain⟨t',rfl⟩:=ry
 exact notIn_str (a8l I q rfl)
theorem b64{op:CmpOp}{r:R2}(ho:OpR X (compareOp op) r)(ha:PE X a ta)(hb:PE X b tb)(hm:behindInMarks op b=false):PE X (.Compare a [op] [b] pos) (tOp r ta tb):=by
 intro pins s σ H Q I h
 exact wpAny_Compare1 (b8e ha hb I h fun v u s2 x y H2 I2 rx ry q=>ho pins s2 σ H2 x y v u Q I2 rx ry q) hm
def c0O(t:TE):TT:=fun σ H Q=>t σ H fun x H'=>∃k,x= .bl k/\Q k H'
theorem b7b{op:CmpOp}{r:R2}(ho:OpR X (compareOp op) r)(ha:PE X a ta)(hb:PE X b tb)(hm:behindInMarks op b=false):PT X (.Compare a [op] [b] pos) (c0O (tOp r ta tb)):=by
 intro pins s σ H Q I h
 refine wpAny_isTrue_Compare1 (B8 (ha pins s σ H _ I h) fun v s1 h0=>j8 h0 fun x H1 I1 r1 q1=>B8 (hb pins s1 σ H1 _ I1 q1) fun u s2 h0=>j8 h0 fun y H2 I2 r2 q2=>
  B8 (ho pins s2 σ H2 x y v u _ I2 r1 r2 q2) fun c s3 ⟨z,H3,I3,r3,k,e,q3⟩=> ?_) hm
 subst e
 cases r3
 exact wpAny_truthy_bool ⟨H3,I3,q3⟩
def b5H(r r':R2)(ta tb tc:TE):TE:=fun σ H Q=>ta σ H fun x H1=>tb σ H1 fun y H2=>r x y H2 fun z H3=>∃k,z= .bl k/\
 (if k=true then tc σ H3 fun w' H4=>r' y w' H4 Q else Q (.bl false) H3)
theorem b5c{op op':CmpOp}{r r':R2}(ho:OpR X (compareOp op) r)(ho':OpR X (compareOp op') r')(ha:PE X a ta)(hb:PE X b tb)(hc:PE X c tc)
 (hm:lastMarks [op,op'] [b,c]=false:=by with_unfolding_all rfl):PE X (.Compare a [op,op'] [b,c] pos) (b5H r r' ta tb tc):=by
 intro pins s σ H Q I h
 refine Compare_chain (B8 (ha pins s σ H _ I h) fun v s1 h0=>j8 h0 fun x H1 I1 r1 q1=>chain_link (B8 (hb pins s1 σ H1 _ I1 q1) fun u s2 h0=>j8 h0 fun y H2 I2 r2 q2=>
  B8 (ho pins s2 σ H2 x y v u _ I2 r1 r2 q2) fun d s3 ⟨z,H3,I3,r3,k,e,q3⟩=> ?_)) hm
 subst e
 cases r3
 refine wpAny_truthy_bool ?_
 cases k with
 |false=>exact ite_ff ⟨.bl false,H3,I3,rfl,q3⟩
 |true=>exact ite_tt (chain_last (B8 (hc pins s3 σ H3 _ I3 q3) fun w' s4 ⟨z',H4,I4,r4,q4⟩=>ho' pins s4 σ H4 y z' u w' Q I4 r2 r4 q4))
def b74(K:AE)(x:V)(H:Hp)(k:Bool):Prop:=
 match x with
 | .non=>k=false
 | .bl b=>k=b
 | .int i=>k=(i !=0)
 | .str y=>y.length<=AO/\k=((y.length:Int) !=0)
 | .byt y=>y.size<=AO/\k=((y.size:Int) !=0)
 | .ref p=>(∃xs,Z3 K H p xs/\k= !xs.isEmpty)\/(∃xs,SqT K H p xs/\k= !xs.isEmpty)\/∃kvs,H p=some (.dK kvs)/\k= !kvs.isEmpty
 |_=>False
theorem b0S{κ:Type}{kvs:List (κ×V)}{vs:List (κ×AA)}(r:KV kvs vs):(!vs.isEmpty)= !kvs.isEmpty:=by
 cases r<;>rfl
theorem a5V{xs:List V}{its:List AA}(r:l9 xs its):(!its.toArray.isEmpty)= !xs.isEmpty:=by
 cases r<;>simp
theorem a2K:(AO:Nat)<2 ^ 63:=by rw [sizeLine_eq];decide
theorem b9L:c0Z X (fun x H Q=>∃k,b74 X.K x H k/\Q k H):=by
 intro pins s σ H x v Q I rx h
 obtain⟨k,e,q⟩:=h
 have hl:=a2K
 have hs:AO=16777216:=sizeLine_eq
 cases x with
 |non=>
  cases rx
  have e':k=false:=e
  subst e'
  exact truthy_none ⟨H,I,q⟩
 |bl b=>
  cases rx
  have e':k=b:=e
  subst e'
  exact wpAny_truthy_bool ⟨H,I,q⟩
 |int i=>
  obtain⟨t,rfl⟩:=rx
  have e':k=(i !=0):=e
  subst e'
  exact PySem.P.truthy_int ⟨H,I,q⟩
 |str y=>
  obtain⟨t,rfl⟩:=rx
  obtain⟨hy,e'⟩:y.length<=AO/\k=((y.length:Int) !=0):=e
  subst e'
  exact PySem.P.truthy_str (by lia) ⟨H,I.tok _,q⟩
 |byt y=>
  obtain⟨t,rfl⟩:=rx
  obtain⟨hy,e'⟩:y.size<=AO/\k=((y.size:Int) !=0):=e
  subst e'
  exact PySem.W.truthy_bytes (by lia) ⟨H,I.tok _,q⟩
 |ref p=>
  cases rx
  have e':(∃xs,Z3 X.K H p xs/\k= !xs.isEmpty)\/(∃xs,SqT X.K H p xs/\k= !xs.isEmpty)\/∃kvs,H p=some (.dK kvs)/\k= !kvs.isEmpty:=e
  rcases e' with⟨xs,hx,e'⟩|⟨xs,hx,e'⟩|⟨kvs,hx,e'⟩
  ·subst e'
   obtain⟨its,r,pl,hz⟩:=I.list hx
   have hlen:=r.length
   exact wpAny_truthy_list pl.isList (by simp only [Am];lia) ⟨H,I.tok _,by rw [a5V r];exact q⟩
  ·subst e'
   obtain⟨its,r,pl,hz⟩:=I.tuple hx
   have hlen:=r.length
   exact truthy_tuple pl (by simp only [Am];lia) ⟨H,I.tok _,by rw [a5V r];exact q⟩
  ·subst e'
   obtain⟨hz,hS,vs,r,m⟩:kvs.length<=AO/\(p==sysModules)=false/\∃vs,KV kvs vs/\s.heap.DictOf (l0 X.prog X.w) p vs:=I.hok p _ hx
   have hlen:kvs.length=vs.length:=Paired.length r
   exact wpAny_truthy_dict hS m (by lia) ⟨H,I.tok _,by rw [b0S r];exact q⟩
 |_=>exact(show False from e).elim
theorem b5m(ha:PE X a ta)(he:∀whole,isTrue a X.env whole=(do let v<-whole;standAt a.pos;holding [v] (truthy v))):
 PT X a (fun σ H Q=>ta σ H fun x H'=>∃k,b74 X.K x H' k/\Q k H'):=by
 intro pins s σ H Q I h
 exact isTrue_plain (B8 (ha pins s σ H _ I h) fun v s1 h0=>j8 h0 fun x H1 I1 r1 q1=>b9L pins s1 σ H1 x v Q I1 r1 q1) (he _)
theorem b1g:OpR X (binaryOp .Add) (fun x y H Q=>∃i j,x= .str i/\y= .str j/\i.length+j.length<=AO/\Q (.str (i++j)) H):=by
 intro pins s σ H x y v u Q I rx ry h
 obtain⟨i,j,rfl,rfl,hz,q⟩:=h
 obtain⟨t,rfl⟩:=rx
 obtain⟨t',rfl⟩:=ry
 exact add_str (fun t' tk=>⟨.str (i++j),H,I.tok _,⟨_,rfl⟩,q⟩) hz
theorem a01{x:V}{us:List AA}(r:l9 [x] us):∃u,us=[u]/\l8 x u:=by
 cases r with
 |cons r1 r2=>cases r2;exact⟨_,rfl,r1⟩
theorem c0V{x y:V}{us:List AA}(r:l9 [x,y] us):∃u w',us=[u,w']/\l8 x u/\l8 y w':=by
 cases r with
 |cons r1 r2=>
  cases r2 with
  |cons r3 r4=>cases r4;exact⟨_,_,rfl,r1,r3⟩
theorem b2G(hc:X.calm=true):E9 X (.builtin "min") (fun xs H Q=>∃i j,xs=[.int i,.int j]/\Q (.int (if j<i then j else i)) H):=by
 intro pins s σ H xs us Q I r h
 obtain⟨i,j,rfl,q⟩:=h
 obtain⟨u,w',rfl,⟨t,rfl⟩,⟨t',rfl⟩⟩:=c0V r
 refine min_two_ints (I.ok.hd hc) fun h' tk k=>⟨_,H,I.kept k, ?_,q⟩
 by_cases hj:j<i
 ·rw [if_pos hj,if_pos hj];exact⟨_,rfl⟩
 ·rw [if_neg hj,if_neg hj];exact⟨_,rfl⟩
end
theorem a7w{h:Heap}{dx:AB}{mA:Str->Option AA}(n:h.Ns1 dx mA):∃od,h.get? dx=some od/\∀name,PySem.W.lookIn name od=some (mA name):=by
 obtain⟨o,es,ep,ho,hd,hk,_,hm⟩:=n
 refine⟨o,ho,fun name=> ?_⟩
 have e:=hm name
 unfold nsFind findBy at e
 rw [<-Array.find?_toList] at e
 unfold PySem.W.lookIn
 rw [hd]
 dsimp only
 split
 ·rename_i y q
  rw [q] at e
  exact congrArg some e
 ·rename_i q
  rw [q] at e
  have a:es.toList.any (·.refKey)=false:=by
   rw [List.any_eq_false]
   intro y hy
   obtain⟨z,t,hkey⟩:=hk y (Array.mem_toList_iff.mp hy)
   simp [DictEntry.refKey,hkey]
  have a':¬es.toList.any (·.refKey)=true:=by rw [a];exact Ax
  rw [if_neg a']
  exact congrArg some e
section
variable {prog:AL}{w:AJ}{A:AM}{E:AA->AC->Prop}{s:AC}{K:AE}{x dx C f:AB}{mA:Str->Option AA}{name:Str}{v:AA}
end
def a4e(f:Str)(v:V):List (Str×V)->List (Str×V)
 |[]=>[(f,v)]
 |(g,x)::r=>if g=f then(g,v)::r else(g,x)::a4e f v r
theorem a4K(f g:Str)(v:V):∀fs:List (Str×V),(a4e f v fs).lookup g=if g=f then some v else fs.lookup g
 |[]=>by
  show List.lookup g [(f,v)]=_
  by_cases h:g=f
  ·have hb:(g==f)=true:=beq_iff_eq.mpr h
   simp only [List.lookup,hb,if_pos h]
  ·have hb:(g==f)=false:=beq_eq_false_iff_ne.mpr h
   simp only [List.lookup,hb,if_neg h]
 |(k,x)::r=>by
  have ih:=a4K f g v r
  rw [show a4e f v ((k,x)::r)=(if k=f then(k,v)::r else(k,x)::a4e f v r) from rfl]
  by_cases hk:k=f
  ·rw [if_pos hk]
   by_cases h:g=k
   ·have hb:(g==k)=true:=beq_iff_eq.mpr h
    simp only [List.lookup,hb,if_pos (h.trans hk)]
   ·have hb:(g==k)=false:=beq_eq_false_iff_ne.mpr h
    simp only [List.lookup,hb,if_neg (fun e:g=f=>h (e.trans hk.symm))]
  ·rw [if_neg hk]
   by_cases h:g=k
   ·have hb:(g==k)=true:=beq_iff_eq.mpr h
    simp only [List.lookup,hb,if_neg (fun e:g=f=>hk (h.symm.trans e))]
   ·have hb:(g==k)=false:=beq_eq_false_iff_ne.mpr h
    simp only [List.lookup,hb]
    exact ih
theorem a33(f:Str)(v:V):∀fs:List (Str×V),f∈(a4e f v fs).map (·.1)/\∀g,g∈fs.map (·.1)->g∈(a4e f v fs).map (·.1)
 |[]=>⟨by simp [a4e],fun g h=>by simp at h⟩
 |(k,x)::r=>by
  obtain⟨i1,i2⟩:=a33 f v r
  rw [show a4e f v ((k,x)::r)=(if k=f then(k,v)::r else(k,x)::a4e f v r) from rfl]
  by_cases hk:k=f
  ·rw [if_pos hk]
   subst hk
   exact⟨by simp,fun g h=>by simpa using h⟩
  ·rw [if_neg hk]
   refine⟨?_,fun g h=> ?_⟩
   ·rw [AQ]
    exact An _ i1
   ·rw [AQ] at h ⊢
    rcases Ag.mp h with e|e
    ·exact Ag.mpr (.inl e)
    ·exact An _ (i2 g e)
theorem a2V.some_of{v:V}{o:Option AA}(r:a2V (some v) o):∃u,o=some u/\l8 v u:=by
 cases o with
 |none=>exact(show False from r).elim
 |some u=>exact⟨u,rfl,r⟩
theorem b2X{v:V}{u:AA}(r:l8 v u):PySem.W.handedIn u=true:=by
 cases v with
 |non=>cases(show u=Value.none from r);rfl
 |bl b=>cases(show u=Value.bool b from r);rfl
 |int i=>obtain⟨t,e⟩:=(show ∃t,u=Value.int i t from r);cases e;rfl
 |str x=>obtain⟨t,e⟩:=(show ∃t,u=Value.str x t from r);cases e;rfl
 |byt b=>obtain⟨t,e⟩:=(show ∃t,u=Value.bytes b t from r);cases e;rfl
 |flt b=>obtain⟨t,e⟩:=(show ∃t,u=Value.float b t from r);cases e;rfl
 |ref a=>cases(show u=Value.ref a from r);rfl
 |ty n=>cases(show u=Value.type n from r);rfl
section
variable {P:AL}{w:AJ}{H H':Hp}{h h':Heap}{a C dx:AB}{fs fs':List (Str×V)}
end
def T7(K:AE)(C:AB)(f:Str):Prop:=PySem.W.findIn K (.ref C) f=some none
section
variable {X:Cx}{pins:List (AB×Obj)}{σ:St}{H:Hp}{s:AC}{a C dx:AB}{fs:List (Str×V)}{f:Str}{v:V}{A:AM}{E:AA->AC->Prop}
theorem b52{prog:AL}{w:AJ}{env:Env}{e:AG}{f:Str}{pos:Pos}{s:AC}{Q:AA->AC->Prop}(hb:attributeBase e f env (eval e env)=eval e env)
 (h:AF (model prog w) A (eval e env) (fun o s₁=>AF (model prog w) A (getAttr o f true) Q E s₁) E s):AF (model prog w) A (eval (.Attribute e f pos) env) Q E s:=
 Attribute_any_ h (by rw [arm_eval_Attribute,hb])
end
section
variable {X:Cx}{o e value:AG}{f:Str}{pos pos' tpos:Pos}{ta tv:TE}
end
section
variable {X:Cx}{pins:List (AB×Obj)}{σ:St}{H:Hp}{s:AC}{A:AM}{E:AA->AC->Prop}{Q:AA->AC->Prop}{c:AA}{b:Bool}
end
structure D3(k:Nat)(A:AM):Prop where
 hd:A.handled=none
 dp:A.depth+3*k+5<recursionLimit
 un:A.units+16*k+200<cLine
theorem D3.mono{j k:Nat}{A:AM}(r:D3 k A)(h:j<=k):D3 j A:=⟨r.hd,by have:=r.dp;lia,by have:=r.un;lia⟩
theorem D3.deeper{k:Nat}{A:AM}(r:D3 (k+1) A)(env:Env):D3 k (A.deeper env):=
 ⟨r.hd,by have:=r.dp;show A.depth+1+3*k+5<_;lia,by have:=r.un;show A.units+3+16*k+200<_;lia⟩
theorem b00{A:AM}{C:AB}{us:List AA}{kw:List (Str×AA)}:(A.under (.builtin "type.__call__" ⟨.ref C::us,kw⟩)).depth=A.depth+1:=by
 first|rfl|simp [Around.under,Code.weight,Code.isCreation,Code.isGuard,Code.isCaller,Code.frames,Code.isFrame,guardIds]
theorem b01{A:AM}{C:AB}{us:List AA}{kw:List (Str×AA)}:(A.under (.builtin "type.__call__" ⟨.ref C::us,kw⟩)).units=A.units+1:=by
 first|rfl|simp [Around.under,Code.cUnits,Code.frames,Code.isFrame]
theorem D3.make{k:Nat}{A:AM}(r:D3 (k+1) A)(C:AB)(us:List AA)(kw:List (Str×AA)):D3 k (A.under (.builtin "type.__call__" ⟨.ref C::us,kw⟩)):=
 ⟨r.hd,by have:=r.dp;rw [b00];lia,by have:=r.un;rw [b01];lia⟩
theorem D3.depth{k:Nat}{A:AM}(r:D3 k A):A.depth<recursionLimit:=by have:=r.dp;lia
theorem D3.units{k:Nat}{A:AM}(r:D3 k A):A.units+64<cLine:=by have:=r.un;lia
def b7q:TA:=fun _ H Q=>Q [] H
def b0p(ta:TE)(tr:TA):TA:=fun σ H Q=>ta σ H fun x H1=>tr σ H1 fun xs H2=>Q (x::xs) H2
section
variable {X:Cx}{e:AG}{es:List AG}{te:TE}{t:TA}{pos:Pos}
theorem O3:PA X [] b7q:=fun _ _ _ _ H Q I h=>Calls.spliced_nil ⟨[],H,I,.nil,h⟩
theorem y3(ha:PE X e te)(hr:PA X es t)(hs:AN (e::es) X.env=(false,eval e X.env)::AN es X.env:=by rfl):PA X (e::es) (b0p te t):=by
 intro pos pins s σ H Q I h
 rw [hs]
 show AF _ _ (spliced ((false,eval e X.env)::backTo pos (AN es X.env))) _ _ s
 refine Calls.spliced_cons (B8 (ha pins s σ H _ I h) fun u s1 h0=>j8 h0 fun x H1 I1 r1 q1=> ?_)
 exact B8 (hr pos pins s1 σ H1 _ I1 q1) fun us s2 h0=>j8 h0 fun xs H2 I2 r2 q2=>⟨x::xs,H2,I2,.cons r1 r2,q2⟩
def c1s(t:TA):TE:=fun σ H Q=>t σ H fun xs H1=>xs.length<=AO/\∀p,H1 p=none->Q (.ref p) (t8 H1 p (.tup xs))
def c1n(t:TA):TE:=fun σ H Q=>t σ H fun xs H1=>xs.length<=AO/\∀p,H1 p=none->Q (.ref p) (t8 H1 p (.lst xs))
theorem b5f{x1}(h:PA X es t):PE X (.Tuple es x1 pos) (c1s t):=by
 intro pins s σ H Q I hq
 refine wpAny_Tuple_spliced (B8 (h pos pins s σ H _ I hq) fun us s1 h0=>a5f h0 fun xs H1 I1 r z q=>⟨by rw [<-r.length];exact z, ?_⟩)
 have hf:H1 s1.heap.objs.size=none:=I1.hok.fresh (AS _)
 refine⟨.ref s1.heap.objs.size,t8 H1 s1.heap.objs.size (.tup xs),I1.laid (t':=s1.toks) (fun b u e=>Ab _ e) (AS _) ?_,rfl,q _ hf⟩
 exact⟨z,us,r,⟨_,Ao _ rfl,rfl,_,rfl⟩⟩
theorem b9j(h:PA X es t):PE X (.List es pos) (c1n t):=by
 intro pins s σ H Q I hq
 refine wpAny_List_spliced (B8 (h pos pins s σ H _ I hq) fun us s1 h0=>a5f h0 fun xs H1 I1 r z q=>⟨by rw [<-r.length];exact z, ?_⟩)
 have hf:H1 s1.heap.objs.size=none:=I1.hok.fresh (AS _)
 refine⟨.ref s1.heap.objs.size,t8 H1 s1.heap.objs.size (.lst xs),I1.laid (t':=s1.toks) (fun b u e=>Ab _ e) (AS _) ?_,rfl,q _ hf⟩
 exact⟨z,us,0,r,Ao _ rfl⟩
end
abbrev Sp:=List V->Hp->VK->XK->Prop
abbrev CXT:=List Env->Hp->AC->XK->AA->AC->Prop
structure b0x(P:AL)(w:AJ)(K:AE)(mg:Str->Option AA)(base:Heap)(A:AM)(outer:List Env)(s:AC)(H:Hp):Prop where
 frames:A.frames=some outer
 mod:Mod K mg base
 bs:∀b o,base.get? b=some o->s.heap.get? b=some o/\H b=none
 bsz:base.objs.size<=s.heap.objs.size
 funs:s.heap.FunFrames base outer
 frf:∀b∈frs outer,H b=none
 hok:HOk P w H s.heap
 bare:AllBare s.gens
def CE(outer:List Env)(P:AL)(w:AJ)(H:Hp)(s:AC)(Q:VK)(u:AA)(s':AC):Prop:=
 ∃v H',s'.os=s.os/\AllBare s'.gens/\Un (frs outer) [] H H' s.heap s'.heap/\HOk P w H' s'.heap/\l8 v u/\Q v H'
def CR(CX:CXT)(outer:List Env)(P:AL)(w:AJ)(H:Hp)(s:AC)(Q:VK)(E:XK)(r:Result)(s':AC):Prop:=
 match r with
 | .ok (.ret u)=>CE outer P w H s Q u s'
 | .ok _=>False
 | .error e=>CX outer H s E e s'
structure M4(P:AL)(w:AJ)(K:AE)(mg:Str->Option AA)(base:Heap)(CX:CXT)(k:Nat)(f:AB)(fd:FuncData)(ps:List Str)(sp:Sp):Prop where
 len:∀vs H Q E,sp vs H Q E->vs.length=ps.length
 run:∀(A:AM) (outer:List Env) (s:AC) (H:Hp) (args:Args) (us:List AA) (vs:List V) (Q:VK) (E:XK),D3 k A->b0x P w K mg base A outer s H->BindsTo s fd args (ps.zip us)->l9 vs us->sp vs H Q E->
  codeAny (model P w) A (.call (.ref f) args) (CR CX outer P w H s Q E) s
theorem M4.mono{P:AL}{w:AJ}{K:AE}{mg:Str->Option AA}{base:Heap}{CX:CXT}{j k:Nat}{f:AB}{fd:FuncData}{ps:List Str}{sp:Sp}(F:M4 P w K mg base CX j f fd ps sp)(h:j<=k):
 M4 P w K mg base CX k f fd ps sp:=⟨F.len,fun A outer s H args us vs Q E hr=>F.run A outer s H args us vs Q E (hr.mono h)⟩
theorem M4.imp{P:AL}{w:AJ}{K:AE}{mg:Str->Option AA}{base:Heap}{CX:CXT}{k:Nat}{f:AB}{fd:FuncData}{ps:List Str}{sp sp':Sp}(F:M4 P w K mg base CX k f fd ps sp)
 (h:∀vs H Q E,sp' vs H Q E->sp vs H Q E):M4 P w K mg base CX k f fd ps sp':=
 ⟨fun vs H Q E q=>F.len vs H Q E (h _ _ _ _ q),fun A outer s H args us vs Q E hr he hb hv hs=>F.run A outer s H args us vs Q E hr he hb hv (h _ _ _ _ hs)⟩
theorem b0x.make{P:AL}{w:AJ}{K:AE}{mg:Str->Option AA}{base:Heap}{A:AM}{outer:List Env}{s:AC}{H:Hp}(e:b0x P w K mg base A outer s H)(C:AB)(us:List AA)(kw:List (Str×AA)):
 b0x P w K mg base (A.under (.builtin "type.__call__" ⟨.ref C::us,kw⟩)) outer s H:=⟨by first|exact e.frames|(simpa [Around.under,Code.envs,Code.isFrame,pushEnvs] using e.frames),e.mod,e.bs,e.bsz,e.funs,e.frf,e.hok,e.bare⟩
section
variable {X:Cx}{pins:List (AB×Obj)}{σ:St}{H:Hp}{s s':AC}
theorem e9.env0(I:e9 X pins σ H s):b0x X.prog X.w X.K X.mg X.base X.A X.stack s H:=
 ⟨I.ok.frames,I.ok.mod,I.bs,Nat.le_trans I.ok.bsz I.sz,I.stack,I.stkFree,I.hok,I.bare⟩
theorem e9.after{Q:VK}{u:AA}(I:e9 X pins σ H s)(h:CE X.stack X.prog X.w H s Q u s'):EP X pins σ Q u s':=by
 obtain⟨v,H',os,bare,un,hok,r,q⟩:=h
 obtain⟨hh,g,d,t,os'⟩:=s'
 obtain rfl:os'=s.os:=os
 exact⟨v,H',I.call (h':=hh) (g':=g) (d':=d) (t':=t) (ch:=[]) un hok bare (fun b z=>absurd z (by simp)),r,q⟩
end
def c0J(sp:Sp)(dvs:List V)(E:XK)(t:TA):TE:=fun σ H Q=>t σ H fun vs H1=>sp (vs++dvs) H1 Q E
def Z2(K:AE)(fd:FuncData)(ps:List Str)(ds:List AA):Prop:=
 ∀(s:AC) (us:List AA),K.In s.heap->(us++ds).length=ps.length->BindsTo s fd ⟨us,[]⟩ (ps.zip (us++ds))
theorem Z2.all{K:AE}{fd:FuncData}{ps:List Str}(h:∀us:List AA,us.length=ps.length->bindArgs fd ⟨us,[]⟩=pure (ps.zip us)):Z2 K fd ps []:=fun s us _ hl=>by
 rw [Ak] at hl ⊢
 exact .of_eq (h us hl)
def a5v(CX:CXT)(X:Cx)(E:XK):Prop:=∀(pins:List (AB×Obj)) (σ:St) (H:Hp) (s:AC) (e:AA) (s':AC),e9 X pins σ H s->CX X.stack H s E e s'->X.xe e s'
section
variable {X:Cx}{CX:CXT}{k:Nat}{f C:AB}{fd:FuncData}{ps:List Str}{sp:Sp}{dvs:List V}{ds:List AA}{E:XK}{x m:Str}{p pos apos:Pos}{e o:AG}{es:List AG}{ta:TE}{t:TA}
theorem b9z{pins:List (AB×Obj)}{σ:St}{H:Hp}{s:AC}{Q:VK}{us:List AA}{vs:List V}(F:M4 X.prog X.w X.K X.mg X.base CX k f fd ps sp)(hr:D3 k X.A)(hb:Z2 X.K fd ps ds)(hd:l9 dvs ds)(hx:a5v CX X E)
 (I:e9 X pins σ H s) (r:l9 vs us) (h:sp (vs++dvs) H Q E):AF (model X.prog X.w) X.A (call (.ref f) us) (EP X pins σ Q) X.xe s:=by
 have r2:l9 (vs++dvs) (us++ds):=r.append hd
 have hl:(us++ds).length=ps.length:=by rw [<-r2.length];exact F.len _ _ _ _ h
 refine wpAny_call (codeAny_mono (F.run X.A X.stack s H ⟨us,[]⟩ (us++ds) (vs++dvs) Q E hr I.env0 (hb s us I.kIn hl) r2 h) fun r s' hq=> ?_)
 cases r with
 |error e=>exact hx pins σ H s e s' I hq
 |ok fl=>
  cases fl with
  |ret u=>exact I.after hq
  |next=>exact False.elim hq
  |brk=>exact False.elim hq
  |cont=>exact False.elim hq
theorem b2k(F:M4 X.prog X.w X.K X.mg X.base CX k f fd ps sp)(hr:D3 k X.A)(hg:Gl X x)(hm:X.mg x=some (.ref f))(hk:PySem.W.keepIn X.K (.ref f)=true)(hb:Z2 X.K fd ps ds)(hd:l9 dvs ds)(hx:a5v CX X E)
 (ha:PA X (e::es) t) (hdb:(x==("__debug__":Str))=false:=by decide) (he:AN (e::es) X.env=(false,eval e X.env)::AN es X.env:=by rfl) (hpl:(backTo pos (AN es X.env)).any (·.1)=false:=by rfl):
 PE X (.Call (.Name x p) (e::es) [] pos) (c0J sp dvs E t):=by
 intro pins s σ H Q I h
 refine wpAny_Call_Name_kw (X6 I hg hm ?_ hdb)
 refine PySem.W.callWith_K (h₀:=X.base) I.ok.mod.kin hk (B8 (ha pos pins s σ H _ I h) fun us s1 h0=>j8 h0 fun vs H1 I1 r q=>⟨I1.kIn, ?_⟩) he hpl
 exact b9z F hr hb hd hx I1 r q
end
section
variable {X:Cx}{CX:CXT}{k:Nat}{f C:AB}{fd:FuncData}{ps ks:List Str}{sp:Sp}{E:XK}{x m:Str}{p pos apos kpos:Pos}{e o:AG}{es:List AG}{kws:List Keyword}{te ta:TE}{t tk:TA}{nm:Option Str}
variable {g:List AA->List AA->List AA}{gV:List V->List V->List V}
end
structure g5(N P:List Str)(sc:Scope):Prop where
 kind:sc.kind= .function
 co:sc.isCoroutine=false
 gen:sc.isGenerator=false
 nd:N.Nodup
 pre:N.take P.length=P
 par:∀x∈P,sc.names.lookup x=some .local\/sc.names.lookup x=some .cell
 nofree:∀y∈sc.names,y.2≠.free
theorem a67{kindOf:Str->Option NameKind}{x:Str}:∀{binds:List (Str×AA)} {m:Str->Option AA},(∀v,(x,v)∉binds)->bindL kindOf binds m x=m x
 |[],_,_=>rfl
 |(n,v)::r,m,h=>by
  unfold bindL
  rw [a67 fun w hw=>h w (An _ hw)]
  split
  ·have:x≠n:=by rintro rfl;exact h v Aq
   simp [this]
  ·rfl
theorem a65{kindOf:Str->Option NameKind}{x:Str}:∀{binds:List (Str×AA)} {m:Str->Option AA},(∀v,(x,v)∉binds)->bindC kindOf binds m x=m x
 |[],_,_=>rfl
 |(n,v)::r,m,h=>by
  unfold bindC
  rw [a65 fun w hw=>h w (An _ hw)]
  split
  ·rfl
  ·have:x≠n:=by rintro rfl;exact h v Aq
   simp [this]
theorem a66{kindOf:Str->Option NameKind}{x:Str}{v:AA}:∀{P:List Str} {vs:List AA} {i:Nat} {m:Str->Option AA},P.Nodup->P[i]?=some x->vs[i]?=some v->kindOf x=some .local->
 bindL kindOf (P.zip vs) m x=some v
 |[],_,_,_,_,h,_,_=>by simp at h
 |_::_,[],_,_,_,_,h,_=>by simp at h
 |p::P,w::vs,0,m,nd,h1,h2,hk=>by
  simp at h1 h2;subst h1;subst h2
  show bindL kindOf ((p,w)::P.zip vs) m p=_
  unfold bindL
  rw [a67 fun v hv=>(List.nodup_cons.mp nd).1 (List.of_mem_zip hv).1,if_pos hk]
  simp
 |p::P,w::vs,i+1,m,nd,h1,h2,hk=>by
  show bindL kindOf ((p,w)::P.zip vs) m x=_
  unfold bindL
  exact a66 (i:=i) (List.nodup_cons.mp nd).2 (by simpa using h1) (by simpa using h2) hk
theorem a64{kindOf:Str->Option NameKind}{x:Str}{v:AA}:∀{P:List Str} {vs:List AA} {i:Nat} {m:Str->Option AA},P.Nodup->P[i]?=some x->vs[i]?=some v->kindOf x≠some .local->
 bindC kindOf (P.zip vs) m x=some v
 |[],_,_,_,_,h,_,_=>by simp at h
 |_::_,[],_,_,_,_,h,_=>by simp at h
 |p::P,w::vs,0,m,nd,h1,h2,hk=>by
  simp at h1 h2;subst h1;subst h2
  show bindC kindOf ((p,w)::P.zip vs) m p=_
  unfold bindC
  rw [a65 fun v hv=>(List.nodup_cons.mp nd).1 (List.of_mem_zip hv).1,if_neg hk]
  simp
 |p::P,w::vs,i+1,m,nd,h1,h2,hk=>by
  show bindC kindOf ((p,w)::P.zip vs) m x=_
  unfold bindC
  exact a64 (i:=i) (List.nodup_cons.mp nd).2 (by simpa using h1) (by simpa using h2) hk
def a0r(N:List Str)(vs:List V):St:=vs.map some++AV (N.length - vs.length) none
def a1k(CX:CXT)(P:AL)(w:AJ)(K:AE)(mg:Str->Option AA)(base:Heap)(N:List Str)(qual:Str)(scope:Scope)(f:AB)(cd:AA)(A:AM)(outer:List Env)(s:AC)(H:Hp)(E:XK):Cx where
 prog:=P
 w:=w
 K:=K
 mg:=mg
 base:=base
 A:=A.deeper (envOfC qual scope s.heap.objs.size f cd)
 N:=N
 s₀:=s
 H₀:=H
 env:=envOfC qual scope s.heap.objs.size f cd
 outer:=outer
 stack:=envOfC qual scope s.heap.objs.size f cd::outer
 ex:=[]
 calm:=true
 fn:=fun _=>true
 pn:=[]
 xe:=fun e s'=>AF (model P w) (A.deeper (envOfC qual scope s.heap.objs.size f cd)) (leaving (envOfC qual scope s.heap.objs.size f cd) e) (fun _ s''=>CX outer H s E e s'') (fun e' s''=>CX outer H s E e' s'') s'
theorem a9v{sc:Scope}{n:Nat}{x:Str}(h:sc.names.lookup x=some .cell):∃c,(cellsFrom n sc.names []).lookup x=some c:=by
 have q:=PySem.W.cellsFrom_some sc.names n [] (.inl h)
 exact Option.isSome_iff_exists.mp q
theorem b20{CX:CXT}{P:AL}{w:AJ}{K:AE}{mg:Str->Option AA}{base:Heap}{N ps:List Str}{qual:Str}{scope:Scope}{f:AB}{cd:AA}{A:AM}{outer:List Env}{s s1:AC}{H:Hp}{E:XK}{us:List AA}{vs:List V}
 (S:g5 N ps scope) (hd:A.handled=none) (e0:b0x P w K mg base A outer s H) (hl:vs.length=ps.length) (r:l9 vs us)
 (x:InCallC s s.heap.objs.size (bindL (envOfC qual scope s.heap.objs.size f cd).kindOf (ps.zip us) fun _=>none) (cellsFrom (s.heap.objs.size+1) scope.names []) (bindC (envOfC qual scope s.heap.objs.size f cd).kindOf (ps.zip us) fun _=>none) s1):
 e9 (a1k CX P w K mg base N qual scope f cd A outer s H E) [] (a0r N vs) H s1:=by
 have hpl:ps.length<=N.length:=by have:=congrArg List.length S.pre;rw [List.length_take] at this;lia
 obtain⟨h1,tk,rfl,hk⟩:=x.done
 have noA:∀b:AB,b∉(a1k CX P w K mg base N qual scope f cd A outer s H E).ex:=fun b z=>absurd (show b∈([]:List AB) from z) (by simp)
 refine⟨⟨e0.mod,S.kind,rfl,rfl,AS _,fun y z c h1 h2=> ?_,fun y hy=> ?_,fun y c _ h=> ?_,fun _=>hd,Around.frames_deeper e0.frames,.inr ⟨rfl,rfl⟩,fun b z=>absurd z (noA b),e0.bs,e0.bsz,fun b _ _=>noA b,fun b z=>absurd z (noA b),e0.funs,e0.frf⟩,
  rfl,e0.bare,Un.kept hk,⟨_,x.toInCall.ns,fun i y v h1 h2 h3=> ?_⟩,fun y c h=>⟨_,x.cell y c h⟩,e0.hok.fresh (AS _),fun y c h=> ?_,fun p hp=>absurd (show p∈([]:List (AB×Obj)) from hp) (by simp),e0.hok.kept hk, ?_⟩
 ·exact name_of_addr x.apart (PySem.mem_of_lookup h1) (PySem.mem_of_lookup h2)
 ·have hy:scope.names.lookup y=some .cell\/scope.names.lookup y=some .free:=hy
  rcases hy with hy|hy
  ·exact a9v hy
  ·exact absurd rfl (S.nofree _ (PySem.mem_of_lookup hy))
 ·exact BE (x.above y c (PySem.mem_of_lookup h))
 ·have hi:i<vs.length:=by
   unfold a0r at h2
   by_cases hi:i<vs.length
   ·exact hi
   ·rw [List.getElem?_append_right (by simpa using hi)] at h2
    rw [List.getElem?_replicate] at h2
    split at h2<;>cases h2
  have ha:vs[i]?=some v:=by
   unfold a0r at h2
   rw [BD (by simpa using hi),Al] at h2
   cases e:vs[i]? with
   |none=>rw [e] at h2;cases h2
   |some a=>rw [e] at h2;cases h2;rfl
  obtain⟨u,hu,rv⟩:=r.get ha
  have hp:ps[i]?=some y:=by
   rw [<-S.pre,List.getElem?_take_of_lt (by lia)];exact h1
  have ndP:ps.Nodup:=by rw [<-S.pre];exact S.nd.sublist (List.take_sublist _ _)
  refine⟨u,rv, ?_⟩
  rcases S.par y (BC hp) with k|k
  ·exact .inl ⟨k,a66 ndP hp hu k⟩
  ·obtain⟨c,e⟩:=a9v (n:=s.heap.objs.size+1) k
   refine .inr ⟨.inl k,c,e, ?_⟩
   have q:=x.cell y c e
   rw [a64 ndP hp hu (by show scope.names.lookup y≠_;rw [k];decide)] at q
   exact q
 ·exact e0.hok.fresh (BE (x.above y c (PySem.mem_of_lookup h)))
 ·unfold a0r
  show _=N.length
  rw [Ar,Ac,List.length_replicate]
  lia
theorem b7M{CX:CXT}{P:AL}{w:AJ}{K:AE}{mg:Str->Option AA}{base:Heap}{k:Nat}{f:AB}{name qual:Str}{params:Arguments}{body:List Stmt}{scope:Scope}{dV kV doc pm cdv ct oc:AA}{an od:Option AB}
 {osl:Array (Option AA)} {N ps:List Str} {sp:Sp} (lk:K.lookup f=some ⟨oc,od,.func (PySem.W.fnOf name qual params body scope dV kV doc pm an cdv ct),osl⟩) (hcd:PySem.W.codeIn K cdv qual=true) (S:g5 N ps scope)
 (len:∀vs H Q E,sp vs H Q E->vs.length=ps.length)
 (hbody:∀(A:AM) (outer:List Env) (s:AC) (H:Hp) (vs:List V) (Q:VK) (E:XK),D3 k (A.deeper (envOfC qual scope s.heap.objs.size f cdv))->sp vs H Q E->
  ∃t,PSs (a1k CX P w K mg base N qual scope f cdv A outer s H E) body t/\t {nx:=fun _ H'=>Q .non H',rt:=Q} (a0r N vs) H):
 M4 P w K mg base CX (k+1) f (PySem.W.fnOf name qual params body scope dV kV doc pm an cdv ct) ps sp:=by
 refine⟨len,fun A outer s H args us vs Q E hr e0 hb r hsp=> ?_⟩
 have hl:=len _ _ _ _ hsp
 have KX:K.In s.heap:=e0.mod.kin.keeps fun b o e=>(e0.bs b o e).1
 have lim:s.heap.NoLimit:=e0.mod.nolimit.keeps fun b o e=>(e0.bs b o e).1
 have hkind:∀y∈ps.zip us,scope.names.lookup y.1=some .local\/(scope.names.lookup y.1=some .cell/\((cellsFrom (s.heap.objs.size+1) scope.names []).lookup y.1).isSome=true):=fun⟨n,v⟩ hy=>by
  rcases S.par n (List.of_mem_zip hy).1 with q|q
  ·exact .inl q
  ·exact .inr ⟨q,PySem.W.cellsFrom_some _ _ _ (.inl q)⟩
 refine codeAny_call_function hr.depth (KX _ _ lk) rfl S.co S.gen rfl (PySem.W.codeRec_of KX hcd) (hb _ _ _ _ ?_)
 refine wpAny_newFunctionEnv_cells S.kind hkind fun env he s1 x=> ?_
 subst he
 refine⟨lim.keeps x.toInCall.keep,codeAny_func ?_⟩
 obtain⟨t,ht,hq⟩:=hbody A outer s H vs Q E (hr.deeper _) hsp
 have I:e9 (a1k CX P w K mg base N qual scope f cdv A outer s H E) [] (a0r N vs) H s1:=b20 S hr.hd e0 hl r x
 refine wpAny_mono (ht [] s1 (a0r N vs) H _ I hq) (fun fl s' hs=> ?_) fun e s' hs=>hs
 have fin:∀{σ':St} {H':Hp} {v:V} {u:AA},e9 (a1k CX P w K mg base N qual scope f cdv A outer s H E) [] σ' H' s'->l8 v u->Q v H'->CE outer P w H s Q u s':=
  fun {σ' H' v u} J rv q=>⟨v,H',J.os,J.bare,J.base,J.hok,rv,q⟩
 cases fl with
 |ret u=>
  obtain⟨v,σ',H',J,rv,q⟩:=hs
  exact fin J rv q
 |next=>
  obtain⟨σ',H',J,q⟩:=hs
  exact fin (v:=V.non) (u:=Value.none) J rfl q
 |brk=>
  obtain⟨_,_,_,q⟩:=hs
  exact False.elim q
 |cont=>
  obtain⟨_,_,_,q⟩:=hs
  exact False.elim q
section
variable {X:Cx}{x:Str}{p pos:Pos}{e:AG}{es:List AG}{t:TA}{id T:String}{r:List V->Hp->VK->Prop}
def tCB(r:List V->Hp->VK->Prop)(t:TA):TE:=fun σ H Q=>t σ H fun vs H1=>r vs H1 Q
theorem a1L(hc:E9 X (.builtin id) r)(hg:Gl X x)(hm:X.mg x=none)(hv:bootBuiltins x=some (.builtin id))(ha:PA X (e::es) t)(hn:x≠"__name__":=by decide)(hdb:(x==("__debug__":Str))=false:=by decide)
 (he:AN (e::es) X.env=(false,eval e X.env)::AN es X.env:=by rfl) (hpl:(backTo pos (AN es X.env)).any (·.1)=false:=by rfl):PE X (.Call (.Name x p) (e::es) [] pos) (tCB r t):=by
 intro pins s σ H Q I h
 refine wpAny_Call_Name_kw (a51 I hg hm hv ?_ hn hdb)
 exact PyProof.Rows.callWith_builtin1 (B8 (ha pos pins s σ H _ I h) fun us s1 h0=>j8 h0 fun vs H1 I1 r1 q1=>hc pins s1 σ H1 vs us Q I1 r1 q1) he hpl
theorem a7N(hc:E9 X (.type T) r)(hg:Gl X x)(hm:X.mg x=none)(hv:bootBuiltins x=some (.type T))(ha:PA X (e::es) t)(hn:x≠"__name__":=by decide)(hdb:(x==("__debug__":Str))=false:=by decide)
 (he:AN (e::es) X.env=(false,eval e X.env)::AN es X.env:=by rfl) (hpl:(backTo pos (AN es X.env)).any (·.1)=false:=by rfl):PE X (.Call (.Name x p) (e::es) [] pos) (tCB r t):=by
 intro pins s σ H Q I h
 refine wpAny_Call_Name_kw (a51 I hg hm hv ?_ hn hdb)
 exact PyProof.Rows.callWith_type1 (B8 (ha pos pins s σ H _ I h) fun us s1 h0=>j8 h0 fun vs H1 I1 r1 q1=>hc pins s1 σ H1 vs us Q I1 r1 q1) he hpl
end
end L2
namespace HT
open PySem PyProof.Rows
section
open PySem.SeqAt
open PySem.AutoSeq1 (wpAny_loadPart')
open PySem.MeetsSeq PySem.MeetsSeq2 PySem.MeetsSeq3
end
section
variable {prog:AL}{w:AJ}{A:AM}{E:AA->AC->Prop}{s:AC}
theorem cat_tup{t b:AB}{vs ws:List AA}{Q:AA->AC->Prop}(ht:IsTup s.heap t vs.toArray)(hb:IsTup s.heap b ws.toArray)(hv:vs≠[])
 (h1:ws=[]->Q (.ref t) s) (h2:ws≠[]->Q (.ref s.heap.objs.size) {s with heap:=s.heap.push {cls:= .type "tuple",data:= .seq (vs++ws).toArray}})
 (hsz:vs.length+ws.length<=AO):AF (model prog w) A (binaryOp .Add (.ref t) (.ref b)) Q E s:=by
 obtain⟨⟨cls,dd,data,sl⟩,ho,hc,n,hd⟩:=id ht
 obtain⟨⟨cls2,dd2,data2,sl2⟩,ho2,hc2,n2,hd2⟩:=id hb
 simp only at hc hd hc2 hd2
 subst hc hd hc2 hd2
 have e:vs.toArray++ws.toArray=(vs++ws).toArray:=by simp
 by_cases hw:ws=[]
 ·exact concat_meets ⟨_,ho,rfl⟩ ⟨_,ho2,rfl⟩ noFill_tuple_add seq_tuple_add PySem.F.slot_tuple_add PySem.F.entry_tuple_add (PySem.F.args_tuple_add_2 _ _)
   (tuple_addW1 t b vs.toArray ws.toArray n n2 dd dd2 sl sl2 (by simpa using hv) (by simp [hw])) ⟨ho,ho2,h1 hw⟩
 ·refine concat_meets ⟨_,ho,rfl⟩ ⟨_,ho2,rfl⟩ noFill_tuple_add seq_tuple_add PySem.F.slot_tuple_add PySem.F.entry_tuple_add (PySem.F.args_tuple_add_2 _ _)
   (tuple_addW2 t b vs.toArray ws.toArray n n2 dd dd2 sl sl2 (by simpa using hv) (by simpa using hw) (by rw [Am,Am];exact hsz)) ⟨ho,ho2, ?_⟩
  rw [e]
  exact h2 hw
def sIx(n d:Nat):Option Int->Nat
 |none=>d
 |some v=>if v<0 then(v+(n:Int)).toNat else min v.toNat n
theorem sIx_none(n d:Nat):sIx n d none=d:=rfl
theorem sIx_nat(n d k:Nat):sIx n d (some (k:Int))=min k n:=by
 show(if(k:Int)<0 then((k:Int)+(n:Int)).toNat else min (k:Int).toNat n)=min k n
 rw [if_neg (by lia),BG]
theorem sIx_le(n d:Nat)(hd:d<=n)(o:Option Int):sIx n d o<=n:=by
 cases o with
 |none=>exact hd
 |some v=>
  show(if v<0 then(v+(n:Int)).toNat else min v.toNat n)<=n
  by_cases hv:v<0
  ·rw [if_pos hv];lia
  ·rw [if_neg hv];exact Nat.min_le_right _ _
theorem b1E(v:Int)(n d:Nat):(if v<0 then max (v+(n:Int)) 0 else min v (n:Int))=((sIx n d (some v):Nat):Int):=by
 show(if v<0 then max (v+(n:Int)) 0 else min v (n:Int))=(((if v<0 then(v+(n:Int)).toNat else min v.toNat n):Nat):Int)
 by_cases hv:v<0
 ·simp only [if_pos hv];lia
 ·simp only [if_neg hv];lia
theorem b0z(lo hi:Option Int)(n:Nat):Builtin.Slice.sliceAdjust lo hi 1 (n:Int)=(((sIx n 0 lo:Nat):Int),((sIx n n hi:Nat):Int)):=by
 have h1:¬((1:Int)<0):=by lia
 unfold Builtin.Slice.sliceAdjust
 simp only [h1,if_false]
 refine Prod.ext ?_ ?_
 ·cases lo with
  |none=>rfl
  |some v=>exact b1E v n 0
 ·cases hi with
  |none=>rfl
  |some v=>exact b1E v n n
theorem b1j(i j:Nat):Builtin.Slice.slicePlaces (i:Int) (j:Int) 1=j - i:=by
 unfold Builtin.Slice.slicePlaces
 have h1:(1:Int)>0:=by lia
 simp only [h1,if_true,Int.ediv_one]
 split<;>lia
theorem a6A{v:AA}{o:Option Int}{Q:Option Int->AC->Prop}(p:IsPart v o)(h:Q o s):AF (model prog w) A (Builtin.Slice.slicePartIndex v) Q E s:=by
 cases p with
 |none=>exact slicePart_none h
 |int i t=>exact slicePart_int h
theorem sliceApplied_gen{sl:AB}{vl vu:AA}{lo hi:Option Int}{n:Nat}{Q:Int×Int×Nat->AC->Prop}(hs:s.heap.IsSliceOf sl vl vu .none)(pl:IsPart vl lo)(pu:IsPart vu hi)
 (h:Q (((sIx n 0 lo:Nat):Int),1,sIx n n hi - sIx n 0 lo) s):AF (model prog w) A (Builtin.Slice.sliceApplied (.ref sl) (pure (n:Int))) Q E s:=by
 obtain⟨os,hos,hcs,hds⟩:=id hs
 unfold Builtin.Slice.sliceApplied Builtin.Slice.sliceFields
 refine AD (AD (wpAny_field hos hds (x:=vl) rfl (AD (wpAny_field hos hds (x:=vu) rfl (AD (wpAny_field hos hds (x:= .none) rfl (AI ?_)))))))
 refine AD (slicePart_none ?_)
 show AF _ _ (if((1:Int)==0)=true then _ else _) _ _ s
 rw [if_neg (by decide)]
 refine AD (a6A pl (AD (a6A pu (AD (AI ?_)))))
 show AF _ _ (match Builtin.Slice.sliceAdjust lo hi 1 (n:Int) with|(lo,hi)=>pure (lo,(1:Int),Builtin.Slice.slicePlaces lo hi 1)) _ _ s
 rw [b0z lo hi n]
 show AF _ _ (pure (((sIx n 0 lo:Nat):Int),(1:Int),Builtin.Slice.slicePlaces ((sIx n 0 lo:Nat):Int) ((sIx n n hi:Nat):Int) 1)) _ _ s
 rw [b1j]
 exact AI h
theorem b5g(xs:Array AA)(i k:Nat):((AR k).filterMap fun(m:Nat)=>xs[((i:Int)+(m:Int)*1).toNat]?).toArray=((xs.toList.drop i).take k).toArray:=by
 have e:(fun(m:Nat)=>xs[((i:Int)+(m:Int)*1).toNat]?)=fun m=>xs[i+m]?:=by
  funext m
  have:((i:Int)+(m:Int)*1).toNat=i+m:=by lia
  rw [this]
 rw [e]
 have:=pick_run xs i k
 rw [List.filterMap_map] at this
 have e2:((fun x=>xs[x]?)∘fun x=>i+x)=fun m=>xs[i+m]?:=rfl
 rw [e2] at this
 rw [this]
theorem getItem_tuple_cut{t sl:AB}{items:Array AA}{vl vu:AA}{lo hi:Option Int}{Q:AA->AC->Prop}(ht:IsTup s.heap t items)(hs:s.heap.IsSliceOf sl vl vu .none)(pl:IsPart vl lo)(pu:IsPart vu hi)
 (hw:¬(sIx items.size 0 lo=0/\sIx items.size items.size hi=items.size))
 (h:Q (.ref s.heap.objs.size) {s with heap:=s.heap.push {cls:= .type "tuple",data:= .seq ((items.toList.drop (sIx items.size 0 lo)).take (sIx items.size items.size hi - sIx items.size 0 lo)).toArray}})
 (hsz:items.size<=AO):AF (model prog w) A (getItem (.ref t) (.ref sl)) Q E s:=by
 have htake:sizeOk (.seq ((items.toList.drop (sIx items.size 0 lo)).take (sIx items.size items.size hi - sIx items.size 0 lo)).toArray):=by
  show((items.toList.drop (sIx items.size 0 lo)).take (sIx items.size items.size hi - sIx items.size 0 lo)).toArray.size<=AO
  rw [Am,List.length_take,List.length_drop,Array.length_toList]
  lia
 have hj:sIx items.size items.size hi<=items.size:=sIx_le _ _ (AS _) hi
 obtain⟨os,hos,hcs,hds⟩:=id hs
 have hTs:s.TypeIs (.ref sl) "slice":=⟨os,hos,hcs⟩
 unfold getItem
 try with_reducible refine wpAny_holding ?_
 first|refine AD (AI ?_)|skip
 refine AD (wpAny_sequenceKey ht.typeIs (by decide) ?_)
 refine AD (wpAny_callSpecial?_slot (name:=AK "__getitem__") ht.typeIs PyProof.Rows.slot_tuple_getitem
  (wpAny_call_entry PyProof.Rows.slot_tuple_getitem ht.typeIs entry_tuple_getitem ?_ (args_tuple_getitem _ _)))
 show AF _ _ (Builtin.Tuple.tupleItemsOf (.ref t)>>=_) _ _ s
 refine AD (tupleItemsOf_ ht ?_)
 refine AD (wpAny_typeOf hTs ?_)
 rw [if_pos (by decide)]
 refine AD (sliceApplied_gen hs pl pu ?_)
 have hno:¬((((sIx items.size 0 lo:Nat):Int)==0 &&(1:Int)==1 &&(sIx items.size items.size hi - sIx items.size 0 lo)==items.size)=true):=by
  intro q
  rw [Bool.and_eq_true,Bool.and_eq_true] at q
  have q1:((sIx items.size 0 lo:Nat):Int)=0:=eq_of_beq q.1.1
  have q2:sIx items.size items.size hi - sIx items.size 0 lo=items.size:=eq_of_beq q.2
  exact hw ⟨by lia,by lia⟩
 show AF _ _ (if(((sIx items.size 0 lo:Nat):Int)==0 &&(1:Int)==1 &&(sIx items.size items.size hi - sIx items.size 0 lo)==items.size)=true then _ else _) _ _ s
 rw [if_neg hno,b5g]
 first
  |exact AD (m:=Builtin.Tuple.tupleExact _) (wpAny_newObj_type (AI ⟨_,rfl,AI h⟩) htake)
  |exact AD (m:=Builtin.Tuple.tupleExact _) (wpAny_newObj_type (AD (AI (AI ⟨_,rfl,AI h⟩))) htake)
  |exact AD (AD (m:=Builtin.Tuple.tupleExact _) (wpAny_newObj_type (AI (AI ⟨_,rfl,AI h⟩)) htake))
  |exact AD (AD (m:=Builtin.Tuple.tupleExact _) (wpAny_newObj_type (AI ⟨_,rfl,AI h⟩) htake))
end
end HT
namespace L2
open PySem PySem.Spec PyProof.Rows
abbrev TO:=St->Hp->(Option Int->Hp->Prop)->Prop
def PO(X:Cx)(e:Option AG)(t:TO):Prop:=
 ∀(pins:List (AB×Obj)) (s:AC) (σ:St) (H:Hp) (Q:Option Int->Hp->Prop),e9 X pins σ H s->t σ H Q->
  AF (model X.prog X.w) X.A (evalPart e X.env) (fun u s'=>∃o H',e9 X pins σ H' s'/\IsPart u o/\Q o H') X.xe s
def b7r:TO:=fun _ H Q=>Q none H
def c0N(t:TE):TO:=fun σ H Q=>t σ H fun x H1=>∃i,x= .int i/\Q (some i) H1
section
variable {X:Cx}{e:AG}{te:TE}{lo hi:Option AG}{tl th:TO}{pos p2:Pos}
theorem b67:PO X none b7r:=by
 intro pins s σ H Q I h
 rw [evalPart_none]
 exact AI ⟨none,H,I,.none,h⟩
theorem b68(h:PE X e te):PO X (some e) (c0N te):=by
 intro pins s σ H Q I hw
 rw [evalPart_some]
 refine B8 (h pins s σ H _ I hw) fun u s1 h0=>j8 h0 fun x H1 I1 r1 q1=> ?_
 obtain⟨i,rfl,q⟩:=q1
 obtain⟨t,rfl⟩:=r1
 exact⟨some i,H1,I1,.int i t,q⟩
def SlR(X:Cx)(r:V->Option Int->Option Int->Hp->VK->Prop):Prop:=
 ∀(pins:List (AB×Obj)) (s:AC) (σ:St) (H:Hp) (x:V) (v vl vu:AA) (lo hi:Option Int) (sl:AB) (Q:VK),e9 X pins σ H s->l8 x v->s.heap.IsSliceOf sl vl vu .none->IsPart vl lo->IsPart vu hi->r x lo hi H Q->
  ∃T id,typeLookup (.type T) "__getitem__"=pure (some (.builtin id))/\s.TypeIs v T/\AF (model X.prog X.w) X.A (getItem v (.ref sl)) (EP X pins σ Q) X.xe s
def tSl(r:V->Option Int->Option Int->Hp->VK->Prop)(te:TE)(tl th:TO):TE:=fun σ H Q=>te σ H fun x H1=>tl σ H1 fun l H2=>th σ H2 fun u H3=>r x l u H3 Q
theorem b5e{r:V->Option Int->Option Int->Hp->VK->Prop}(hr:SlR X r)(he:PE X e te)(hl:PO X lo tl)(hu:PO X hi th):PE X (.Subscript e (.Slice lo hi none p2) pos) (tSl r te tl th):=by
 intro pins s σ H Q I h
 refine Subscript_ (B8 (he pins s σ H _ I h) fun v s1 h0=>j8 h0 fun x H1 I1 r1 q1=> ?_)
 refine wpAny_Slice (B8 (hl pins s1 σ H1 _ I1 q1) fun vl s2 h0=>j8 h0 fun l H2 I2 pl q2=>B8 (hu pins s2 σ H2 _ I2 q2) fun vu s3 h0=>j8 h0 fun u H3 I3 pu q3=> ?_)
 rw [evalPart_none]
 refine AI ?_
 have I4:e9 X pins σ H3 {s3 with heap:=s3.heap.push {cls:= .type "slice",data:= .fields #[vl,vu,.none]}}:=I3.kept (t':=s3.toks) fun b ob q=>Ab _ q
 obtain⟨T,id,hT,ht,hg⟩:=hr pins {s3 with heap:=s3.heap.push {cls:= .type "slice",data:= .fields #[vl,vu,.none]}} σ H3 x v vl vu l u s3.heap.objs.size Q I4 r1 (Heap.IsSliceOf.new ..) pl pu q3
 show AF (model X.prog X.w) X.A (subscriptTail e (.Slice lo hi none p2) v (.ref s3.heap.objs.size)) (EP X pins σ Q) X.xe {s3 with heap:=s3.heap.push {cls:= .type "slice",data:= .fields #[vl,vu,.none]}}
 exact tail_any (ops:=[.ref s3.heap.objs.size,v]) ht hT hg (by with_unfolding_all rfl)
def b59(xs:List V)(lo hi:Option Int):List V:=(xs.drop (HT.sIx xs.length 0 lo)).take (HT.sIx xs.length xs.length hi - HT.sIx xs.length 0 lo)
theorem a9y(xs:List V)(lo hi:Option Int):(b59 xs lo hi).length<=xs.length:=by
 unfold b59
 rw [List.length_take,List.length_drop]
 lia
def c1i(K:AE):V->Option Int->Option Int->Hp->VK->Prop:=fun x lo hi H Q=>∃a xs,x= .ref a/\SqT K H a xs/\
 ¬(HT.sIx xs.length 0 lo=0/\HT.sIx xs.length xs.length hi=xs.length)/\∀p,H p=none->Q (.ref p) (t8 H p (.tup (b59 xs lo hi)))
theorem b9E:SlR X (c1i X.K):=by
 intro pins s σ H x v vl vu lo hi sl Q I rx hs pl pu h
 obtain⟨a,xs,rfl,hx,hw,q⟩:=h
 cases rx
 obtain⟨its,r,ht,hz⟩:=I.tuple hx
 have hlen:its.toArray.size=xs.length:=by rw [Am];exact r.length.symm
 refine⟨"tuple",_,PyProof.Rows.slot_tuple_getitem.lookup,ht.typeIs, ?_⟩
 refine HT.getItem_tuple_cut ht hs pl pu (by rw [hlen];exact hw) ?_ (by rw [hlen];exact hz)
 rw [hlen]
 refine⟨.ref s.heap.objs.size,_,I.laid (t':=s.toks) (o:= .tup (b59 xs lo hi)) (fun b ob q=>Ab _ q) (AS _) ?_,rfl,q _ (I.hok.fresh (AS _))⟩
 exact⟨Nat.le_trans (a9y xs lo hi) hz,_,(r.drop (HT.sIx xs.length 0 lo)).take (HT.sIx xs.length xs.length hi - HT.sIx xs.length 0 lo),IsTup.new _ _⟩
def c0z(K:AE):R2:=fun x y H Q=>∃a b xs ys,x= .ref a/\y= .ref b/\SqT K H a xs/\SqT K H b ys/\xs≠[]/\xs.length+ys.length<=AO/\
 (ys=[]->Q (.ref a) H)/\(ys≠[]->∀p,H p=none->Q (.ref p) (t8 H p (.tup (xs++ys))))
theorem l9.nil_iff{xs:List V}{us:List AA}(r:l9 xs us):us=[]↔xs=[]:=by
 cases r with
 |nil=>simp
 |cons _ _=>simp
theorem b6V:OpR X (binaryOp .Add) (c0z X.K):=by
 intro pins s σ H x y v u Q I rx ry h
 obtain⟨a,b,xs,ys,rfl,rfl,ha,hb,hx,hz,q1,q2⟩:=h
 cases rx
 cases ry
 obtain⟨its,r1,p1,_⟩:=I.tuple ha
 obtain⟨its2,r2,p2,_⟩:=I.tuple hb
 refine HT.cat_tup p1 p2 (fun z=>hx (r1.nil_iff.mp z)) (fun z=>⟨.ref a,H,I,rfl,q1 (r2.nil_iff.mp z)⟩) (fun z=> ?_) (by rw [<-r1.length,<-r2.length];exact hz)
 refine⟨.ref s.heap.objs.size,_,I.laid (t':=s.toks) (o:= .tup (xs++ys)) (fun b ob q=>Ab _ q) (AS _) ?_,rfl,q2 (fun w=>z (r2.nil_iff.mpr w)) _ (I.hok.fresh (AS _))⟩
 exact⟨by rw [Ar];exact hz,_,r1.append r2,IsTup.new _ _⟩
end
def ixN(n:Nat)(i:Int):Option Nat:=if 0<=i then(if i<n then some i.toNat else none) else if -(n:Int)<=i then some (i+n).toNat else none
def atI{α:Type}(xs:List α)(i:Int):Option α:=(ixN xs.length i).bind fun j=>xs[j]?
theorem b13{n:Nat}{i:Int}{j:Nat}(h:ixN n i=some j):seqIndex? i n=some j/\j<n/\ -(n:Int)<=i/\i<n:=by
 unfold ixN at h
 by_cases h0:0<=i
 ·rw [if_pos h0] at h
  by_cases h1:i<n
  ·rw [if_pos h1] at h
   have e:i.toNat=j:=Option.some.inj h
   exact⟨by rw [seqIndex_of h0 h1,e],by lia,by lia,h1⟩
  ·rw [if_neg h1] at h;cases h
 ·rw [if_neg h0] at h
  by_cases h1: -(n:Int)<=i
  ·rw [if_pos h1] at h
   have e:(i+n).toNat=j:=Option.some.inj h
   exact⟨by rw [seqIndex_neg (by lia) h1,e],by lia,h1,by lia⟩
  ·rw [if_neg h1] at h;cases h
theorem a77{α:Type}{xs:List α}{i:Int}{v:α}(h:atI xs i=some v):∃j,seqIndex? i xs.length=some j/\xs[j]?=some v/\j<xs.length/\ -(xs.length:Int)<=i/\i<xs.length:=by
 unfold atI at h
 cases e:ixN xs.length i with
 |none=>rw [e] at h;cases h
 |some j=>
  rw [e] at h
  obtain⟨h1,h2,h3,h4⟩:=b13 e
  exact⟨j,h1,h,h2,h3,h4⟩
def b1u(b:AG):Prop:=∀o i,subscripted b false o i=operate [o,i] (getItem o i)
def IxR(X:Cx)(r:R2):Prop:=
 ∀(value slice:AG) (pins:List (AB×Obj)) (s:AC) (σ:St) (H:Hp) (x y:V) (v u:AA) (Q:VK),e9 X pins σ H s->l8 x v->l8 y u->r x y H Q->
  subscripted slice false v u=operate [v,u] (getItem v u)->AF (model X.prog X.w) X.A (subscriptTail value slice v u) (EP X pins σ Q) X.xe s
def MtR(X:Cx)(id:String)(r:V->List V->Hp->VK->Prop):Prop:=
 ∀(pins:List (AB×Obj)) (s:AC) (σ:St) (H:Hp) (x:V) (xs:List V) (v:AA) (us:List AA) (Q:VK),e9 X pins σ H s->l8 x v->l9 xs us->r x xs H Q->
  AF (model X.prog X.w) X.A (call (.builtin id) (v::us)) (EP X pins σ Q) X.xe s
section
variable {X:Cx}{a b:AG}{ta tb:TE}{pos:Pos}
theorem c0t{r:R2}(hr:IxR X r)(ha:PE X a ta)(hb:PE X b tb)(hs:b1u b):PE X (.Subscript a b pos) (tOp r ta tb):=by
 intro pins s σ H Q I h
 exact Subscript_ (b8e ha hb I h fun v u s2 x y H2 I2 rx ry q=>hr a b pins s2 σ H2 x y v u Q I2 rx ry q (hs _ _))
def c1e(K:AE):R2:=fun x y H Q=>∃p xs i v,x= .ref p/\y= .int i/\Z3 K H p xs/\atI xs i=some v/\Q v H
def c1g(K:AE):R2:=fun x y H Q=>∃p xs i v,x= .ref p/\y= .int i/\SqT K H p xs/\atI xs i=some v/\Q v H
def c1f:R2:=fun x y H Q=>∃z i c,x= .str z/\y= .int i/\z.length<=AO/\atI z.cps.toList i=some c/\Q (.str ⟨#[c]⟩) H
theorem b6x:IxR X (c1e X.K):=by
 intro value slice pins s σ H x y v u Q I rx ry h hs
 obtain⟨p,xs,i,z,rfl,rfl,hq,he,q⟩:=h
 cases rx
 obtain⟨t,rfl⟩:=ry
 obtain⟨its,r,pl,hz⟩:=I.list hq
 obtain⟨j,h1,h2,h3,h4,h5⟩:=a77 he
 obtain⟨w,ew,rw'⟩:=r.get h2
 have hl:=r.length
 have hn:=a2K
 have fin:EP X pins σ Q w s:=⟨z,H,I,rw',q⟩
 by_cases h0:0<=i
 ·have hj:i.toNat=j:=by
   rw [seqIndex_of h0 h5] at h1
   exact Option.some.inj h1
  exact item_listR pl.isList h0 (by lia) (by rw [hj];simpa using ew) fin hs
 ·have hj:(i+(its.toArray.size:Int)).toNat=j:=by
   rw [seqIndex_neg (by lia) h4] at h1
   rw [Am,<-hl]
   exact Option.some.inj h1
  exact subscriptTail_builtinR (x:=w) pl.isList.typeIs slot_list_getitem.lookup
   (wpAny_getItem_list_neg (Q:=fun r s'=>r=w/\EP X pins σ Q r s') pl.isList (by lia) (by rw [Am]<;>lia) (by lia) (by rw [hj];simpa using ew) ⟨rfl,fin⟩) hs
theorem b8J:IxR X (c1g X.K):=by
 intro value slice pins s σ H x y v u Q I rx ry h hs
 obtain⟨p,xs,i,z,rfl,rfl,hq,he,q⟩:=h
 cases rx
 obtain⟨t,rfl⟩:=ry
 obtain⟨its,r,pl,hz⟩:=I.tuple hq
 obtain⟨j,h1,h2,h3,h4,h5⟩:=a77 he
 obtain⟨w,ew,rw'⟩:=r.get h2
 have hl:=r.length
 have hn:=a2K
 have fin:EP X pins σ Q w s:=⟨z,H,I,rw',q⟩
 exact subscriptTail_builtinR (x:=w) pl.typeIs slot_tuple_getitem.lookup
  (getItem_tuple (j:=j) (Q:=fun r s'=>r=w/\EP X pins σ Q r s') pl (by lia) (by lia) (by rw [Am,<-hl];exact h1) (by simpa using ew) ⟨rfl,fin⟩) hs
theorem b8I:IxR X c1f:=by
 intro value slice pins s σ H x y v u Q I rx ry h hs
 obtain⟨z,i,c,rfl,rfl,hz,he,q⟩:=h
 obtain⟨t,rfl⟩:=rx
 obtain⟨t',rfl⟩:=ry
 obtain⟨j,h1,h2,h3,h4,h5⟩:=a77 he
 have hl:z.cps.toList.length=z.length:=by simp [Str.length]
 rw [hl] at h1 h4 h5
 have hn:=a2K
 exact tail_any (typeIs_str s z t) slot_str_getitem.lookup (getItem_str (c:=c) (by
  have e1:decide (i< -(2 ^ 63:Int))=false:=decide_eq_false (by lia)
  have e2:decide (i>=2 ^ 63)=false:=decide_eq_false (by lia)
  rw [e1,e2,Bool.or_false]) (by rw [h1];simpa using h2) ⟨.str ⟨#[c]⟩,H,I.tok _,⟨_,rfl⟩,q⟩) hs
theorem b02(its:List AA)(n j:Nat)(u:AA):Obj.mapSeq (·.setIfInBounds j u) {cls:= .type "list",data:= .seq its.toArray n}={cls:= .type "list",data:= .seq (its.set j u).toArray n}:=by
 simp [Obj.mapSeq]
theorem e9.lst{pins:List (AB×Obj)}{σ:St}{H:Hp}{s:AC}{p:AB}{xs:List V}(I:e9 X pins σ H s)(h:H p=some (.lst xs)):
 ∃(its:List AA) (n:Nat),l9 xs its/\s.heap.get? p=some {cls:= .type "list",data:= .seq its.toArray n}/\xs.length<=AO:=by
 obtain⟨z,its,n,r,e⟩:=I.hok p _ h
 exact⟨its,n,r,e,z⟩
theorem e9.lstUpd{pins:List (AB×Obj)}{σ:St}{H:Hp}{s:AC}{p:AB}{xs ys:List V}{its its':List AA}{n n':Nat}{f:Obj->Obj}(I:e9 X pins σ H s)(h:H p=some (.lst xs))
 (ho:s.heap.get? p=some {cls:= .type "list",data:= .seq its.toArray n}) (hf:f {cls:= .type "list",data:= .seq its.toArray n}={cls:= .type "list",data:= .seq its'.toArray n'}) (r:l9 ys its') (hz:ys.length<=AO) (t:Nat):
 e9 X pins σ (t8 H p (.lst ys)) {s with heap:=s.heap.update p f,toks:=t}:=by
 have e:(s.heap.update p f).get? p=some {cls:= .type "list",data:= .seq its'.toArray n'}:=by
  rw [Heap.get?_update_self f ho (by rw [hf]<;>rfl),hf]
 refine I.write (x:=p) (e:=p) (by rw [h];trivial) (.inl rfl) (fun b u hb q=>(Heap.get?_update_other _ _ (Ne.symm hb)).trans q) ⟨_,e⟩ ?_
 exact⟨hz,its',n',r,e⟩
def c0A:V->V->V->Hp->(Hp->Prop)->Prop:=fun o i v H Q=>∃p xs k j,o= .ref p/\i= .int k/\H p=some (.lst xs)/\ixN xs.length k=some j/\Q (t8 H p (.lst (xs.set j v)))
theorem b5A:b9Y X c0A:=by
 intro pins s σ H o i v ov iv u Q I ro ri rv h
 obtain⟨p,xs,k,j,rfl,rfl,hp,hj,q⟩:=h
 cases ro
 obtain⟨t,rfl⟩:=ri
 obtain⟨its,n,r,ho,hz⟩:=I.lst hp
 obtain⟨h1,h2,h3,h4⟩:=b13 hj
 have hl:=r.length
 have hn:=a2K
 have I':e9 X pins σ (t8 H p (.lst (xs.set j v))) {s with heap:=s.heap.update p (Obj.mapSeq (·.setIfInBounds j u))}:=
  I.lstUpd hp ho (b02 its n j u) (r.set rv j) (by rw [List.length_set];exact hz) s.toks
 by_cases h0:0<=k
 ·have hk:k.toNat=j:=by
   rw [seqIndex_of h0 h4] at h1
   exact Option.some.inj h1
  exact PySem.W.ki_setAt ho h0 (by lia) (by rw [Am,<-hl];exact h4) (by rw [hk];exact⟨_,I',q⟩)
 ·have hk:(k+(its.toArray.size:Int)).toNat=j:=by
   rw [seqIndex_neg (by lia) h3] at h1
   rw [Am,<-hl]
   exact Option.some.inj h1
  exact PySem.W.ki_setBack ho (by lia) (by rw [Am,<-hl];exact h3) (by lia) (by rw [hk];exact⟨_,I',q⟩)
theorem a79:E9 X (.builtin "len") (fun xs H Q=>∃p ys,xs=[.ref p]/\(Z3 X.K H p ys\/SqT X.K H p ys)/\Q (.int ys.length) H):=by
 intro pins s σ H xs us Q I r h
 obtain⟨p,ys,rfl,hq,q⟩:=h
 obtain⟨u,rfl,rx⟩:=a01 r
 cases rx
 have hn:=a2K
 rcases hq with hq|hq
 ·obtain⟨its,r',pl,hz⟩:=I.list hq
  have hlen:=r'.length
  exact Calls.call_len_list pl.isList (by simp only [Am]<;>lia) ⟨.int ys.length,H,I.tok _,⟨s.toks+1,by rw [Am,hlen]⟩,q⟩
 ·obtain⟨its,r',pl,hz⟩:=I.tuple hq
  have hlen:=r'.length
  exact len_tuple pl (by simp only [Am]<;>lia) ⟨.int ys.length,H,I.tok _,⟨s.toks+1,by rw [Am,hlen]⟩,q⟩
theorem a8a:E9 X (.builtin "len") (fun xs H Q=>∃z,xs=[.str z]/\z.length<=AO/\Q (.int z.length) H):=by
 intro pins s σ H xs us Q I r h
 obtain⟨z,rfl,hz,q⟩:=h
 obtain⟨u,rfl,t,rfl⟩:=a01 r
 have hn:=a2K
 exact len_str (by lia) ⟨.int z.length,H,I.tok _,⟨_,rfl⟩,q⟩
theorem a8b:E9 X (.type "list") (fun xs H Q=>∃p ys,xs=[.ref p]/\(Z3 X.K H p ys\/SqT X.K H p ys)/\∀l,H l=none->Q (.ref l) (t8 H l (.lst ys))):=by
 intro pins s σ H xs us Q I r h
 obtain⟨p,ys,rfl,hq,q⟩:=h
 obtain⟨u,rfl,rx⟩:=a01 r
 cases rx
 have fin:∀(its:List AA),l9 ys its->ys.length<=AO->∀(h':Heap) (c':Nat),(∀b o',s.heap.get? b=some o'->h'.get? b=some o')->
  h'.get? s.heap.objs.size=some {cls:= .type "list",dict:=none,data:= .seq its.toArray c',slots:= #[]}->EP X pins σ Q (.ref s.heap.objs.size) {s with heap:=h'}:=fun its r' hz h' c' kp e=>
  ⟨.ref s.heap.objs.size,_,I.laid (t':=s.toks) kp (AS _) (show A7 X.prog X.w _ h' _ (.lst ys) from⟨hz,its,c',r',e⟩),rfl,q _ (I.hok.fresh (AS _))⟩
 rcases hq with hq|hq
 ·obtain⟨its,r',pl,hz⟩:=I.list hq
  have hlen:=r'.length
  obtain⟨o,ho,hc,n,hd⟩:=pl.isList
  exact call_list_seq p (.inl rfl) ho hc hd (fun h' c' kp e=>fin its r' hz h' c' kp e) (by simp only [Am]<;>lia)
 ·obtain⟨its,r',pl,hz⟩:=I.tuple hq
  have hlen:=r'.length
  obtain⟨o,ho,hc,n,hd⟩:=pl
  exact call_list_seq p (.inr rfl) ho hc hd (fun h' c' kp e=>fin its r' hz h' c' kp e) (by simp only [Am]<;>lia)
theorem a6P:E9 X (.type "tuple") (fun xs H Q=>∃p ys,xs=[.ref p]/\((Z3 X.K H p ys/\∀l,H l=none->Q (.ref l) (t8 H l (.tup ys)))\/(SqT X.K H p ys/\Q (.ref p) H))):=by
 intro pins s σ H xs us Q I r h
 obtain⟨p,ys,rfl,h⟩:=h
 obtain⟨u,rfl,rx⟩:=a01 r
 cases rx
 rcases h with⟨hq,q⟩|⟨hq,q⟩
 ·obtain⟨its,r',pl,hz⟩:=I.list hq
  have hlen:=r'.length
  refine call_tuple_list pl.isList (fun h' kp=> ?_) (by simp only [Am]<;>lia)
  have I1:e9 X pins σ H {s with heap:=h'}:=I.kept (t':=s.toks) kp
  have I2:e9 X pins σ (t8 H h'.objs.size (.tup ys)) {s with heap:=h'.push {cls:= .type "tuple",data:= .seq its.toArray}}:=
   I1.laid (t':=s.toks) (fun b o e=>Ab _ e) (AS _) (show A7 X.prog X.w _ _ _ (.tup ys) from⟨hz,its,r',IsTup.new _ _⟩)
  exact⟨.ref h'.objs.size,_,I2,rfl,q _ (I1.hok.fresh (AS _))⟩
 ·obtain⟨its,r',pl,hz⟩:=I.tuple hq
  exact call_tuple_same pl ⟨.ref p,H,I,rfl,q⟩
def tyV(K:AE)(T:String)(x:V)(H:Hp):Prop:=match x with
 | .str _=>T="str"
 | .int _=>T="int"
 | .ref p=>(T="list"/\∃xs,Z3 K H p xs)\/(T="tuple"/\∃o,K.lookup p=some o/\o.cls= .type "tuple"/\o.dict=none)\/
  (T="dict"/\((∃kvs,H p=some (.dK kvs))\/∃kvs,H p=some (.dT kvs)))\/(T="set"/\∃S n,H p=some (.set S n))
 |_=>False
theorem b9M{pins:List (AB×Obj)}{σ:St}{H:Hp}{s:AC}{T:String}{x:V}{v:AA}(I:e9 X pins σ H s)(r:l8 x v)(ty:tyV X.K T x H):
 s.TypeIs v T/\∀a,v= .ref a->∃ob,s.heap.get? a=some ob/\ob.dict=none:=by
 cases x with
 |str z=>
  obtain⟨t,rfl⟩:=r
  cases(show T="str" from ty)
  exact⟨typeIs_str s z t,fun _ e=>nomatch e⟩
 |int i=>
  obtain⟨t,rfl⟩:=r
  cases(show T="int" from ty)
  exact⟨typeIs_int s i t,fun _ e=>nomatch e⟩
 |ref p=>
  cases r
  rcases ty with⟨rfl,xs,hq⟩|⟨rfl,o,hk,hc,hd⟩|⟨rfl,hk⟩|⟨rfl,S,n,hk⟩
  ·obtain⟨its,_,pl,_⟩:=I.list hq
   refine⟨pl.isList.typeIs,fun a e=> ?_⟩
   cases e
   obtain⟨o,n,e,c,hd,_⟩:=pl
   exact⟨o,e,hd⟩
  ·refine⟨⟨o,I.kIn p o hk,hc⟩,fun a e=> ?_⟩
   cases e
   exact⟨o,I.kIn _ o hk,hd⟩
  ·have z:∃o,s.heap.get? p=some o/\o.ExactDict:=by
    rcases hk with⟨kvs,hk⟩|⟨kvs,hk⟩
    ·obtain⟨_,_,_,_,o,_,_,e,ex,_⟩:=I.hok p _ hk
     exact⟨o,e,ex⟩
    ·obtain⟨_,_,_,_,o,_,_,e,ex,_⟩:=I.hok p _ hk
     exact⟨o,e,ex⟩
   obtain⟨o,e,ex⟩:=z
   refine⟨⟨o,e,ex.1⟩,fun a e2=> ?_⟩
   cases e2
   exact⟨o,e,ex.2.1⟩
  ·obtain⟨o,_,_,_,e,ex,_⟩:=I.hok p _ hk
   refine⟨⟨o,e,ex.1⟩,fun a e2=> ?_⟩
   cases e2
   exact⟨o,e,ex.2.1⟩
 |_=>exact False.elim ty
def tBM(K:AE)(T:String)(r:V->List V->Hp->VK->Prop)(to:TE)(t:TA):TE:=fun σ H Q=>to σ H fun x H1=>tyV K T x H1/\t σ H1 fun xs H2=>r x xs H2 Q
variable {o e:AG}{es:List AG}{to:TE}{t:TA}{name:Str}{apos cpos:Pos}{T id:String}{r:V->List V->Hp->VK->Prop}
theorem b5b(pa:PlainAttrs T)(slot:Slot T name id)(hty:typeOf (.builtin id)=pure (.type "method_descriptor"))(hm:MtR X id r)(ho:PE X o to)(ha:PA X (e::es) t)
 (hbase:attributeBase o name X.env (eval o X.env)=eval o X.env:=by rfl)
 (hfew:((backTo cpos (AN (e::es) X.env)).all (fun x=> !x.1)&&(backToKw cpos (keywordEach [] X.env)).all (fun x=>x.1.isSome)
  && decide ((e::es).length+([]:List Keyword).length+(if([]:List Keyword).isEmpty then 0 else 1)<30))=true:=by rfl)
 (hline:(apos.endLine==cpos.line)=true:=by rfl) (hs:AN (e::es) X.env=(false,eval e X.env)::AN es X.env:=by rfl) (hplain:(backTo cpos (AN es X.env)).any (·.1)=false:=by rfl):
 PE X (.Call (.Attribute o name apos) (e::es) [] cpos) (tBM X.K T r to t):=by
 intro pins s σ H Q I h
 refine wpAny_Call_method_late hbase hfew hline rfl (B8 (ho pins s σ H _ I h) fun v s1 h0=>a5f h0 fun x H1 I1 r1 ty q1=> ?_)
 obtain⟨h1,h2⟩:=b9M I1 r1 ty
 refine⟨T,id,pa,slot,hty,h1,h2, ?_⟩
 have hA:=ha cpos pins s1 σ H1 _ I1 q1
 rw [hs] at hA ⊢
 refine Calls.callWith_builtin (by show(false||(backTo cpos (AN es X.env)).any (·.1))=false;rw [hplain]<;>rfl) (Calls.evalArgs_plain ?_)
 exact B8 hA fun us s2 h0=>j8 h0 fun vs H2 I2 r2 q2=>hm pins s2 σ H2 x vs v us Q I2 r1 r2 q2
end
def MtM(X:Cx)(id:String)(r:V->List V->Hp->VK->Prop):Prop:=
 ∀(pins:List (AB×Obj)) (s:AC) (σ:St) (H:Hp) (x:V) (xs:List V) (v:AA) (us:List AA) (Q:VK),e9 X pins σ H s->l8 x v->l9 xs us->r x xs H Q->
  AF (model X.prog X.w) X.A (call (.builtin id) (v::us)) (EP X pins σ Q) X.xe s
theorem l9.one:∀{x:V} {us:List AA},l9 [x] us->∃u,us=[u]/\l8 x u
 |_,_,.cons r .nil=>⟨_,rfl,r⟩
theorem l9.rep{xs:List V}{us:List AA}(h:l9 xs us):∀k:Nat,l9 (AV k xs).flatten (AV k us).flatten
 |0=> .nil
 |k+1=>by
  rw [AZ,AZ,List.flatten_cons,List.flatten_cons]
  exact l9.append h (l9.rep h k)
theorem a3Z(its:List AA):∀(k:Nat) (acc:List AA),
 List.foldl (fun x1 x2=>x1++x2) acc.toArray (AV k its.toArray)=(acc++(AV k its).flatten).toArray
 |0,acc=>by simp
 |k+1,acc=>by
  have e:acc.toArray++its.toArray=(acc++its).toArray:=by simp
  have e2:(acc++its)++(AV k its).flatten=acc++(AV (k+1) its).flatten:=by
   rw [AZ,List.flatten_cons,List.append_assoc]
  rw [<-e2,<-a3Z its k (acc++its),<-e,AZ,List.foldl_cons]
section
variable {X:Cx}{pins:List (AB×Obj)}{σ:St}{H:Hp}{s:AC}{l b:AB}{xs ys zs:List V}
theorem e9.lset{its its':List AA}{n:Nat}{f:Array AA->Array AA}{t':Nat}(I:e9 X pins σ H s)(hH:H l=some (.lst xs))
 (e:s.heap.get? l=some {cls:= .type "list",data:= .seq its.toArray n}) (hf:f its.toArray=its'.toArray) (hv:l9 ys its') (hz:ys.length<=AO):
 e9 X pins σ (t8 H l (.lst ys)) {s with heap:=s.heap.update l (Obj.mapSeq f),toks:=t'}:=by
 have q:=PySem.IsL.update e f
 rw [hf] at q
 refine I.write (x:=l) (e:=l) (by rw [hH];exact trivial) (.inl rfl) (fun b' u hb hu=>(Heap.get?_update_other s.heap (Obj.mapSeq f) (Ne.symm hb)).trans hu) ⟨_,q⟩ ?_
 exact⟨hz,its',_,hv,q⟩
theorem e9.lnew{its:List AA}{t':Nat}(I:e9 X pins σ H s)(hv:l9 ys its)(hz:ys.length<=AO):
 e9 X pins σ (t8 H s.heap.objs.size (.lst ys)) {s with heap:=s.heap.push {cls:= .type "list",data:= .seq its.toArray},toks:=t'}:=
 I.laid (fun _ _ q=>Ab _ q) (AS _) ⟨hz,its,0,hv,Ao _ rfl⟩
theorem e9.fresh(I:e9 X pins σ H s):H s.heap.objs.size=none:=I.hok.fresh (AS _)
theorem e9.lstM(I:e9 X pins σ H s)(hH:H l=some (.lst xs)):xs.length<=AO/\∃(its:List AA) (n:Nat),l9 xs its/\xs.length=its.length/\s.heap.get? l=some {cls:= .type "list",data:= .seq its.toArray n}:=by
 obtain⟨z,its,n,r,e⟩:=I.hok l _ hH
 exact⟨z,its,n,r,r.length,e⟩
theorem b40{n:Nat}(h:n<=AO):Builtin.List.listTooLong n=false:=by
 unfold Builtin.List.listTooLong
 exact decide_eq_false (by lia)
end
section
variable {X:Cx}
def b7d:V->List V->Hp->VK->Prop:=fun x vs H Q=>∃l xs y,x= .ref l/\vs=[y]/\H l=some (.lst xs)/\xs.length<AO/\Q .non (t8 H l (.lst (xs++[y])))
theorem a7I:MtM X "list.append" b7d:=by
 intro pins s σ H x vs v us Q I rx rv h
 obtain⟨l,xs,y,rfl,rfl,hH,hz,q⟩:=h
 cases rx
 obtain⟨u,rfl,ru⟩:=rv.one
 obtain⟨z,its,n,r,hl,e⟩:=I.lstM hH
 refine call_meets F.slot_list_append ⟨_,e,rfl⟩ F.entry_list_append (F.args_list_append_2 _ _) (PySem.list_append l its.toArray n u (by rw [Am];lia)) ⟨e, ?_⟩
 refine⟨.non,_,I.lset (its':=its++[u]) hH e (by simp) (r.append (.cons ru .nil)) ?_,rfl,q⟩
 rw [Ar,List.length_singleton]
 lia
def c1d:R2:=fun x y H Q=>∃l b xs zs,x= .ref l/\y= .ref b/\H l=some (.lst xs)/\H b=some (.lst zs)/\xs.length+zs.length<=AO/\∀p,H p=none->Q (.ref p) (t8 H p (.lst (xs++zs)))
theorem b87:OpR X (binaryOp .Add) c1d:=by
 intro pins s σ H x y v u Q I rx ry h
 obtain⟨l,b,xs,zs,rfl,rfl,hH,hB,hz,q⟩:=h
 cases rx
 cases ry
 obtain⟨z,its,n,r,hl,e⟩:=I.lstM hH
 obtain⟨z2,its2,n2,r2,hl2,e2⟩:=I.lstM hB
 refine PySem.P.add_list e e2 ?_ (by rw [Am,Am];lia)
 have ea:its.toArray++its2.toArray=(its++its2).toArray:=by simp
 rw [ea]
 exact⟨.ref _,_,I.lnew (t':=s.toks) (r.append r2) (by rw [Ar];lia),rfl,q _ I.fresh⟩
def c1h:R2:=fun x y H Q=>∃l k xs,x= .ref l/\y= .int k/\H l=some (.lst xs)/\ -(2 ^ 63)<=k/\k<2 ^ 63/\xs.length*k.toNat<=AO/\
 ∀p,H p=none->Q (.ref p) (t8 H p (.lst (AV k.toNat xs).flatten))
theorem a8z{α:Type}(xs:List α)(k:Nat):(AV k xs).flatten.length=k*xs.length:=by
 induction k with
 |zero=>simp
 |succ k ih=>rw [AZ,List.flatten_cons,Ar,ih,Nat.succ_mul,Nat.add_comm]
theorem b9b:OpR X (binaryOp .Mult) c1h:=by
 intro pins s σ H x y v u Q I rx ry h
 obtain⟨l,k,xs,rfl,rfl,hH,h1,h2,hz,q⟩:=h
 cases rx
 obtain⟨t,rfl⟩:=ry
 obtain⟨z,its,n,r,hl,e⟩:=I.lstM hH
 have hlen:its.toArray.size*k.toNat<=AO:=by rw [Am,<-hl];exact hz
 have hcap:¬its.toArray.size*k.toNat>(2 ^ 63 - 1)/ 8:=by
  have:(AO:Nat)<=(2 ^ 63 - 1)/ 8:=by decide
  lia
 have hfit:¬(!Builtin.List.listFitsIndex k)=true:=by
  rw [fitsIndex_both h1 h2]
  exact Ax
 have hlong:¬Builtin.List.listTooLong (its.toArray.size*k.toNat)=true:=by
  rw [b40 hlen]
  exact Ax
 have hnew:List.foldl (fun x1 x2=>x1++x2) #[] (AV (if its.toArray.isEmpty=true then 0 else k.toNat) its.toArray)=(AV k.toNat its).flatten.toArray:=by
  have f0:∀m:Nat,List.foldl (fun x1 x2=>x1++x2) #[] (AV m its.toArray)=(AV m its).flatten.toArray:=fun m=>by
   have:=a3Z its m []
   rw [Ad] at this
   exact this
  rw [f0]
  cases its with
  |nil=>simp
  |cons a r'=>rw [if_neg (by simp)]
 refine wpAny_binaryOp_repeat_ref (T:="list") (U:="int") (by decide) ⟨_,e,rfl⟩ (fun s'=>typeIs_int s' k t) noFill_list_mul F.fills_int_mul F.slot_int_rmul repeat_list F.slot_int_index.lookup
  (call_meets F.slot_int_rmul (typeIs_int s k t) F.entry_int_rmul (F.args_int_rmul_2 _ _) (int___rmul___int_list k t l its.toArray n)
   ⟨e,rfl,⟨_,e,rfl⟩,call_meets F.slot_list_mul ⟨_,e,rfl⟩ F.entry_list_mul (F.args_list_mul_2 _ _) (AutoListH.list___mul___list_int_3 l its.toArray n k t hfit hcap hlong) ⟨e, ?_⟩⟩)
 rw [hnew]
 exact⟨.ref _,_,I.lnew (t':=s.toks) (r.rep k.toNat) (by rw [a8z,Nat.mul_comm];exact hz),rfl,q _ I.fresh⟩
end
section
variable {prog:AL}{w:AJ}{A:AM}{E:AA->AC->Prop}{s:AC}
end
section
variable {X:Cx}
end
end L2
namespace Att
open PySem PySem.W PySem.Calls PyProof.Rows
theorem a41{P:Params}{h:Heap}:∀(ns:List Int) (vs:List AA),WellAll P h vs (ns.map WData.int)->IntsAre vs ns:=by
 intro ns
 induction ns with
 |nil=>
  intro vs w
  rw [AW] at w
  cases w
  exact .nil
 |cons n ns ih=>
  intro vs w
  rw [AQ] at w
  cases w with
  |cons a b=>
   cases a
   exact .cons _ _ (ih _ b)
theorem b3w{l:OpenLaw}{n:Nat}(hn:l.most=some n){P:Params}{h:Heap}{args:List WData}{vals:List AA}
 (hpre:l.row.toRowW.claim.pre args=true) (hwl:WellAll P h vals args):
 ∃a vs ns,vals=[Value.ref a]/\args=[WData.list (ns.map WData.int)]/\h.get? a=some {cls:= .type "list",data:= .seq vs.toArray}/\IntsAre vs ns/\ns.length<=n:=by
 have hsh:WShape.hasAll [] args [.list .int]=true:=(pre_splitW hpre).1
 have hc:l.pre.holds [] {args:=args}=true:=(pre_splitW hpre).2
 obtain⟨d,r,rfl,h1,h2⟩:=hasAllW_cons hsh
 obtain rfl:=hasAllW_nil h2
 obtain⟨xs,rfl,h3⟩:=hasW_list h1
 obtain⟨ns,rfl⟩:=items_int h3
 have hlen:ns.length<=n:=by
  unfold OpenLaw.pre at hc
  have h4:(WTm.not (.lt (.lit (.int (n:Int))) (.len (.arg 0)))).holds [] {args:=[.list (ns.map .int)]}=true:=by
   have h4:=(holds_andW hc).1
   rw [hn] at h4
   exact h4
  have h5:=condW_of h4 (w_not (w_lt w_lit (w_len_list (w_arg rfl))))
  rw [Ac] at h5
  refine Nat.le_of_not_lt fun q=> ?_
  have q':(n:Int)<((ns.length:Nat):Int):=by lia
  first
   |(rw [decide_eq_true q'] at h5;exact absurd h5 (by decide))
   |(simp at h5;lia)
 cases hwl with
 |cons w1 w2=>
  cases w2
  cases w1 with
  |list ho hall=>exact⟨_,_,ns,rfl,rfl,ho,a41 ns _ hall,hlen⟩
theorem b3u(l:OpenLaw)(args:List WData):l.row.toRowW.claim.post args (.bool true) args=true:=
 postW_of (r:=l.row.toRowW) (X:=(true==true))
  (show WShape.has [] (.bool true) .bool=true by first|rfl|decide|simp [WShape.has,WShape.arms,WShape.armsAll])
  (show(WTm.eq .res (.lit (.bool true))).value [] {args:=args,res:=some (.bool true),after:=args}=some (.bool (true==true)) from w_eq_bool (w_res rfl) w_lit) rfl
theorem attach_call{l:OpenLaw}{n:Nat}{q:AL}{loose:List Str}{XP:(Str->Option AA)->Heap->Prop}{YP:AJ->Heap->Prop}{d:DefRec}
 (hn:l.most=some n) (hdf:d.params.defaults=[])
 (call:∀(w:AJ) (s₀ s₁:AC) (mg mb:Str->Option AA) (fa:AB) (o:Obj) (pm cd doc:AA) (a:AB) (vs:List AA) (ns:List Int),
  Ground q loose [] XP w s₀ mg mb s₁.heap->YP w s₁.heap->
  s₁.heap.get? fa=some o->o.data= .func (docDef d.name d.params d.body d.scope pm cd doc)->s₁.heap.CodeRec cd d.name->mg d.name=some (.ref fa)->
  s₁.heap.get? a=some {cls:= .type "list",data:= .seq vs.toArray}->IntsAre vs ns->ns.length<=n->s₁.gens= #[]->
  codeAny (model l.prog w) callerA (.call (.ref fa) ⟨[.ref a],[]⟩) (fun r s'=>r= .ok (.ret (.bool true))/\OldK s₁.heap s'.heap/\s'.os=s₁.os/\AllBare s'.gens) s₁):
 WalkO q loose XP YP l.row.toRowW d [] (fun f vs=>PySem.call f vs):=by
 intro w s₀ s₁ mg mb G Y fa o pm cd doc dV kV ho hd hcd hD hmg hg args vals as hpre hlay hrd hwl hlo
 obtain rfl:dV= .none:=Dflts.none hD hdf
 obtain rfl:kV= .none:=Dflts.noKw hD
 obtain⟨a,vs,ns,rfl,rfl,hobj,hints,hlen⟩:=b3w hn hpre hwl
 refine enter_call (codeAny_mono (call w s₀ s₁ mg mb fa o pm cd doc a vs ns G Y ho (fd_plain hd) hcd hmg hobj hints hlen hg) fun r s' hq=> ?_)
 obtain⟨rfl,h2,h3,h4⟩:=hq
 exact⟨.inl ⟨.bool true,.bool true,[],rfl,fun _=>rfl,.bool true,b3u l _,fun _=>⟨List.Pairwise.nil,fun _ hm=>(nomatch hm)⟩⟩,h2,h3,h4⟩
section
variable {prog:AL}{w:AJ}{A:AM}{E:AA->AC->Prop}{s:AC}{K:Frag}
end
end Att
namespace L2
open PySem PySem.Spec PyProof.Rows
theorem a7Y:∀{vs:List AA} {ns:List Int},IntsAre vs ns->l9 (ns.map V.int) vs
 |_,_,.nil=> .nil
 |_,_,.cons n t h=> .cons ⟨t,rfl⟩ (a7Y h)
def b72(H:Hp):Prop:=∀b,H b=none\/∃o xs,H b=some (.frz o (.lst xs))
theorem b4M{P:AL}{w:AJ}{K:AE}{mg mb:Str->Option AA}{CX:CXT}{k:Nat}{fa a:AB}{fd:FuncData}{x:Str}{sp:Sp}{s₁:AC}{vs:List AA}{ns:List Int}
 (KX:K.In s₁.heap) (hns:s₁.heap.Ns mainGlobals mg) (hb:s₁.heap.Ns builtinsNs mb) (hbb:∀x:Str,x≠"__name__"->mb x=bootBuiltins x) (hlim:s₁.heap.NoLimit) (hg:s₁.gens= #[])
 (ha:s₁.heap.get? a=some {cls:= .type "list",data:= .seq vs.toArray}) (hi:IntsAre vs ns) (hl:ns.length<=AO) (hr:D3 k callerA)
 (F:∀base:Heap,K.In base->base.Ns mainGlobals mg->M4 P w K mg base CX k fa fd [x] sp) (hbind:∀(s:AC) (u:AA),BindsTo s fd ⟨[u],[]⟩ [(x,u)])
 (hsp:∀H:Hp,b72 H->Z3 K H a (ns.map V.int)->sp [.ref a] H (fun v _=>v= .bl true) fun _ _ _=>False)
 (hCX:∀H e s',CX [] H s₁ (fun _ _ _=>False) e s'->False):
 codeAny (model P w) callerA (.call (.ref fa) ⟨[.ref a],[]⟩) (fun r s'=>r= .ok (.ret (.bool true))/\OldK s₁.heap s'.heap/\s'.os=s₁.os/\AllBare s'.gens) s₁:=by
 have rv:=a7Y hi
 have lenV:=hi.length
 have core:∀H:Hp,b72 H->Z3 K H a (ns.map V.int)->HOk P w H s₁.heap->(∀b,H b≠none->b=a)->(H a≠none->K.lookup a=none)->
  codeAny (model P w) callerA (.call (.ref fa) ⟨[.ref a],[]⟩) (fun r s'=>r= .ok (.ret (.bool true))/\OldK s₁.heap s'.heap/\s'.os=s₁.os/\AllBare s'.gens) s₁:=by
  intro H hO hS hok hA hK
  have base_of:∀{b:AB} {o:Obj},s₁.heap.get? b=some o->H b=none->(a8u s₁.heap H).get? b=some o:=fun e n=>b4B e n
  have noA:∀{b:AB} {o:Obj} {es:Array DictEntry} {ep:Nat},s₁.heap.get? b=some o->o.data= .dict es ep->H b=none:=fun {b o es ep} e d=>by
   cases q:H b with
   |none=>rfl
   |some u=>
    have e':b=a:=hA b (by rw [q];simp)
    subst e'
    rw [ha] at e;cases e
    have d':Data.seq vs.toArray _=Data.dict es ep:=d
    cases d'
  have nsK:∀{b:AB} {m:Str->Option AA},s₁.heap.Ns b m->(a8u s₁.heap H).Ns b m:=fun {b m} ⟨o,es,ep,e,d,r⟩=>⟨o,es,ep,base_of e (noA e d),d,r⟩
  have hKb:K.In (a8u s₁.heap H):=fun b o e=>base_of (KX b o e) (by
   cases q:H b with
   |none=>rfl
   |some u=>
    have e':b=a:=hA b (by rw [q];simp)
    subst e'
    rw [hK (by rw [q];simp)] at e;cases e)
  have hM:Mod K mg (a8u s₁.heap H):=⟨hKb,nsK hns,⟨mb,nsK hb,hbb⟩,let ⟨mc,h1,h2⟩:=hlim;⟨mc,nsK h1,h2⟩⟩
  have e0:b0x P w K mg (a8u s₁.heap H) callerA [] s₁ H:=⟨rfl,hM,fun b o e=>b6U e,Nat.le_of_eq (b2Y _ _),trivial,fun b hb=>absurd (show b∈([]:List AB) from hb) (by simp),hok,.of_eq hg⟩
  refine codeAny_mono ((F _ hKb (nsK hns)).run callerA [] s₁ H ⟨[.ref a],[]⟩ [.ref a] [.ref a] _ _ hr e0 (hbind s₁ (.ref a)) (.cons rfl .nil) (hsp H hO hS)) fun r s' h=> ?_
  cases r with
  |error e=>exact(hCX H e s' h).elim
  |ok fl=>
   cases fl with
   |next=>exact False.elim h
   |brk=>exact False.elim h
   |cont=>exact False.elim h
   |ret u=>
    obtain⟨v,H',os,bare,un,hok',r',q⟩:=h
    have q':v= .bl true:=q
    subst q'
    obtain rfl:u=Value.bool true:=r'
    refine⟨rfl,OldK.of_keep fun b o e=> ?_,os,bare⟩
    cases q:H b with
    |none=>exact un.keep b o e q (by intro z;exact absurd (show b∈([]:List AB) from z) (by simp)) (by simp)
    |some u=>
     rcases hO b with z|⟨ob,xs,z⟩
     ·rw [q] at z;cases z
     ·have z2:=un.frzs b ob _ z
      obtain⟨e1,_⟩:=hok b _ z
      obtain⟨e2,_⟩:=hok' b _ z2
      rw [e] at e1;cases e1
      exact e2
 cases hk:K.lookup a with
 |some o=>
  have e:=KX a o hk
  rw [ha] at e
  cases e
  refine core (fun _=>none) (fun _=> .inl rfl) (.inr ⟨_,vs.toArray,_,hk,rfl,rfl,rfl,by rw [Am,lenV];exact hl,by simpa using rv⟩) (fun b u z=>by have z':(none:Option HO)=some u:=z;cases z') (fun b z=>absurd rfl z) fun z=>absurd rfl z
 |none=>
  refine core (fun b=>if b=a then some (.frz {cls:= .type "list",data:= .seq vs.toArray} (.lst (ns.map V.int))) else none) (fun b=> ?_) (.inl (.inr ⟨{cls:= .type "list",data:= .seq vs.toArray},if_pos rfl⟩)) (fun b u z=> ?_) (fun b z=> ?_) fun _=>hk
  ·by_cases hb:b=a
   ·exact .inr ⟨_,_,if_pos hb⟩
   ·exact .inl (if_neg hb)
  ·by_cases hb:b=a
   ·have z':=(if_pos hb).symm.trans z
    cases z'
    subst hb
    exact⟨ha,by rw [Ac];exact hl,vs,_,rv,ha⟩
   ·have z':=(if_neg hb).symm.trans z
    cases z'
  ·by_cases hb:b=a
   ·exact hb
   ·exact absurd (if_neg hb) z
theorem b7z{l:PySem.W.OpenLaw}{n k:Nat}{q:AL}{loose:List Str}{XP:(Str->Option AA)->Heap->Prop}{YP:AJ->Heap->Prop}{d:DefRec}{K:Params->AE}{CX:AJ->CXT}{sp:AJ->Sp}{x:Str}
 (hn:l.most=some n) (hn2:n<=AO) (hdf:d.params.defaults=[]) (hr:D3 k callerA)
 (hY:∀(w:AJ) (h:Heap),YP w h->(K w.params).In h)
 (F:∀(w:AJ) (mg:Str->Option AA) (fa:AB) (h:Heap),(K w.params).In h->h.Ns mainGlobals mg->mg d.name=some (.ref fa)->
  ∃fd:FuncData,(∀(s:AC) (u:AA),BindsTo s fd ⟨[u],[]⟩ [(x,u)])/\
   ∀base:Heap,(K w.params).In base->base.Ns mainGlobals mg->M4 l.prog w (K w.params) mg base (CX w) k fa fd [x] (sp w))
 (hsp:∀(w:AJ) (H:Hp) (a:AB) (ns:List Int),ns.length<=n->b72 H->Z3 (K w.params) H a (ns.map V.int)->sp w [.ref a] H (fun v _=>v= .bl true) fun _ _ _=>False)
 (hCX:∀(w:AJ) (H:Hp) (s:AC) (e:AA) (s':AC),CX w [] H s (fun _ _ _=>False) e s'->False):
 PySem.W.WalkO q loose XP YP l.row.toRowW d [] (fun f vs=>PySem.call f vs):=by
 refine Att.attach_call hn hdf fun w s₀ s₁ mg mb fa o pm cd doc a vs ns G Y ho hd hcd hmg hobj hints hlen hg=> ?_
 have KX:=hY w _ Y
 obtain⟨fd,hb,hF⟩:=F w mg fa _ KX G.T.g hmg
 exact b4M KX G.T.g G.T.b G.T.builtins G.T.nolimit hg hobj hints (Nat.le_trans hlen hn2) hr hF hb (fun H hO hS=>hsp w H a ns hlen hO hS) fun H e s'=>hCX w H s₁ e s'
def O9(s:Stmt):Arguments:=match s with
 | .FunctionDef _ a _ _ _ _ _ _ _ _=>a
 |_=>{posonlyargs:=[],args:=[],vararg:=none,kwonlyargs:=[],kw_defaults:=[],kwarg:=none,defaults:=[]}
def z5(s:Stmt):List Stmt:=match s with
 | .FunctionDef _ _ b _ _ _ _ _ _ _=>b
 |_=>[]
def c9(s:Stmt):Scope:=match s with
 | .FunctionDef _ _ _ _ _ _ sc _ _ _=>sc
 |_=>{kind:= .function,names:=[],isGenerator:=false,isCoroutine:=false}
abbrev CX0:CXT:=fun _ _ _ _ _ _=>False
abbrev E0:XK:=fun _ _ _=>False
theorem b7V{X:Cx}:a5v CX0 X E0:=fun _ _ _ _ _ _ _ h=>h.elim
structure Fun(K:AE)(x qual:Str)(st:Stmt)(f:AB)(fd:FuncData):Prop where
 ex:∃(oc:AA) (od:Option AB) (kV doc pm:AA) (an:Option AB) (cdv ct:AA) (osl:Array (Option AA)),
  fd=PySem.W.fnOf x qual (O9 st) (z5 st) (c9 st) .none kV doc pm an cdv ct/\K.lookup f=some ⟨oc,od,.func fd,osl⟩/\PySem.W.codeIn K cdv qual=true
 kp:PySem.W.keepIn K (.ref f)=true
section
variable {P:AL}{w:AJ}{K:AE}{mg:Str->Option AA}{base:Heap}
theorem Fun.ok{x qual:Str}{st:Stmt}{f:AB}{fd:FuncData}{N ps:List Str}{k:Nat}{sp:Sp}(F:Fun K x qual st f fd)(S:g5 N ps (c9 st))(len:∀vs H Q E,sp vs H Q E->vs.length=ps.length)
 (hbody:∀(cdv:AA) (A:AM) (outer:List Env) (s:AC) (H:Hp) (vs:List V) (Q:VK) (E:XK),D3 k (A.deeper (envOfC qual (c9 st) s.heap.objs.size f cdv))->sp vs H Q E->
  ∃t,PSs (a1k CX0 P w K mg base N qual (c9 st) f cdv A outer s H E).nox (z5 st) t/\t {nx:=fun _ H'=>Q .non H',rt:=Q} (a0r N vs) H):M4 P w K mg base CX0 (k+1) f fd ps sp:=by
 obtain⟨oc,od,kV,doc,pm,an,cdv,ct,osl,rfl,lk,hcd⟩:=F.ex
 refine b7M lk hcd S len fun A outer s H vs Q E hr hsp=> ?_
 obtain⟨t,h,q⟩:=hbody cdv A outer s H vs Q E hr hsp
 exact⟨t,h.nox,q⟩
theorem Fun.binds{x qual:Str}{st:Stmt}{f:AB}{fd:FuncData}{ps:List Str}(F:Fun K x qual st f fd)
 (h:∀(kV doc pm:AA) (an:Option AB) (cdv ct:AA) (us:List AA),us.length=ps.length->bindArgs (PySem.W.fnOf x qual (O9 st) (z5 st) (c9 st) .none kV doc pm an cdv ct) ⟨us,[]⟩=pure (ps.zip us)):Z2 K fd ps []:=by
 obtain⟨oc,od,kV,doc,pm,an,cdv,ct,osl,rfl,lk,hcd⟩:=F.ex
 exact .all (h kV doc pm an cdv ct)
theorem b4q{x qual:Str}{st:Stmt}{f:AB}{oc:AA}{od an:Option AB}{osl:Array (Option AA)}{kV doc pm cdv ct:AA}(l:K.lookup f=some ⟨oc,od,.func (PySem.W.fnOf x qual (O9 st) (z5 st) (c9 st) .none kV doc pm an cdv ct),osl⟩)
 (c:PySem.W.codeIn K cdv qual=true) (k:PySem.W.keepIn K (.ref f)=true):Fun K x qual st f (PySem.W.fnOf x qual (O9 st) (z5 st) (c9 st) .none kV doc pm an cdv ct):=⟨⟨oc,od,kV,doc,pm,an,cdv,ct,osl,rfl,l,c⟩,k⟩
end
theorem b3B{n:Nat}(h:n<=1000):n<AO:=Nat.lt_of_le_of_lt h (by decide)
section
variable {X:Cx}
theorem pv(i:Nat){x:Str}{pos:Pos}(hN:X.N[i]?=some x:=by rfl)(hv:Vis X.env.scope x:=by first|exact Or.inl rfl|exact Or.inr (Or.inl rfl)|exact Or.inr (Or.inr rfl))(hd:(x==("__debug__":Str))=false:=by decide)
 (hcd:(x==("__classdict__":Str))=false:=by decide):PE X (.Name x pos) (a4n i):=b9o hN hv hd hcd
end
theorem a9Q{A B:Prop}(h:B):if false=true then A else B:=by
 rw [if_neg Ax]
 exact h
theorem a9R{A B:Prop}(h:A):if true=true then A else B:=by
 rw [if_pos rfl]
 exact h
def j5(H H':Hp):Prop:=∀b o,H b=some o->H' b=some o
theorem j5.trans{H H1 H2:Hp}(a:j5 H H1)(b:j5 H1 H2):j5 H H2:=fun c o h=>b c o (a c o h)
theorem j5.free{H H':Hp}(e:j5 H H'){l:AB}(h:H' l=Option.none):H l=Option.none:=by
 cases q:H l with
 |none=>rfl
 |some o=>
  rw [e l o q] at h
  cases h
section
variable (P:AL)(w:AJ)
end
section
variable {P:AL}{w:AJ}{H H':Hp}{h h':Heap}{a:AB}{o:HO}
end
section
variable {P:AL}{w:AJ}{H:Hp}{h h':Heap}{x e:AB}{o':HO}
end
section
variable {fs fs' ex ex':List AB}{H H1 H2:Hp}{h h1 h2 h':Heap}{a x e:AB}{o:HO}
end
section
variable {X:Cx}{pins:List (AB×Obj)}{σ:List (Option V)}{H H':Hp}{s:AC}{h':Heap}
end
section
variable {X:Cx}
variable {a b:AG}{ta tb:TE}{pos:Pos}
variable {tA tB':TT}{rest:List AG}
end
section
variable {X:Cx}{pins:List (AB×Obj)}{σ:St}{H:Hp}{s:AC}{a:AB}{xs ys:List V}
end
section
variable {X:Cx}{pins:List (AB×Obj)}{σ:St}{H:Hp}{s:AC}{E:AA->AC->Prop}
end
section
variable {X:Cx}{st:Stmt}{rest:List Stmt}{t u:TS}{e:AG}{te:TE}{pos:Pos}
end
section
variable {X:Cx}{pos:Pos}
end
section
variable {X:Cx}{pos:Pos}
end
section
variable {X:Cx}{tg:AG}
end
section
variable {X:Cx}{a b c:AG}{ta tb tc:TE}{pos:Pos}
end
section
variable {X:Cx}{a b c:AG}{ta tb tc:TE}{pos:Pos}
end
section
variable {prog:AL}{w:AJ}{A:AM}{E:AA->AC->Prop}{s:AC}{K:AE}{x dx C f:AB}{mA:Str->Option AA}{name:Str}{v:AA}
end
section
variable {P:AL}{w:AJ}{H H':Hp}{h h':Heap}{a C dx:AB}{fs fs':List (Str×V)}
end
section
variable {X:Cx}{pins:List (AB×Obj)}{σ:St}{H:Hp}{s:AC}{a C dx:AB}{fs:List (Str×V)}{f:Str}{v:V}{A:AM}{E:AA->AC->Prop}
end
section
variable {X:Cx}{o e value:AG}{f:Str}{pos pos' tpos:Pos}{ta tv:TE}
end
section
variable {X:Cx}{pins:List (AB×Obj)}{σ:St}{H:Hp}{s:AC}{A:AM}{E:AA->AC->Prop}{Q:AA->AC->Prop}{c:AA}{b:Bool}
end
section
variable {X:Cx}{e:AG}{es:List AG}{te:TE}{t:TA}{pos:Pos}
end
section
variable {X:Cx}{pins:List (AB×Obj)}{σ:St}{H:Hp}{s s':AC}
end
section
variable {X:Cx}{CX:CXT}{k:Nat}{f C:AB}{fd:FuncData}{ps:List Str}{sp:Sp}{dvs:List V}{ds:List AA}{E:XK}{x m:Str}{p pos apos:Pos}{e o:AG}{es:List AG}{ta:TE}{t:TA}
end
section
variable {X:Cx}{CX:CXT}{k:Nat}{f C:AB}{fd:FuncData}{ps ks:List Str}{sp:Sp}{E:XK}{x m:Str}{p pos apos kpos:Pos}{e o:AG}{es:List AG}{kws:List Keyword}{te ta:TE}{t tk:TA}{nm:Option Str}
variable {g:List AA->List AA->List AA}{gV:List V->List V->List V}
end
section
variable {X:Cx}{x:Str}{p pos:Pos}{e:AG}{es:List AG}{t:TA}{id T:String}{r:List V->Hp->VK->Prop}
end
section
variable {κ:Type}[DecidableEq κ]
def a04(kvs:List (κ×V))(k:κ):Option V:=(kvs.find? fun kv=>decide (kv.1=k)).map (·.2)
def a4f(kvs:List (κ×V))(k:κ)(v:V):List (κ×V):=
 if(kvs.any fun kv=>decide (kv.1=k))=true then kvs.map (fun kv=>if kv.1=k then(kv.1,v) else kv) else kvs++[(k,v)]
theorem a3K{p:κ×V}{r:List (κ×V)}{k:κ}(e:p.1=k):a04 (p::r) k=some p.2:=by simp [a04,List.find?_cons,e]
theorem a3J{p:κ×V}{r:List (κ×V)}{k:κ}(e:¬p.1=k):a04 (p::r) k=a04 r k:=by simp [a04,List.find?_cons,e]
theorem b0u(k:κ):∀kvs:List (κ×V),(kvs.any fun kv=>decide (kv.1=k))=(a04 kvs k).isSome
 |[]=>rfl
 |p::r=>by
  rw [List.any_cons]
  by_cases e:p.1=k
  ·simp only [a3K e,decide_eq_true e,Bool.true_or,Option.isSome_some]
  ·rw [a3J e,decide_eq_false e,Bool.false_or];exact b0u k r
theorem a4J(kvs:List (κ×V))(k:κ)(v:V):(a4f kvs k v).length<=kvs.length+1:=by
 unfold a4f
 split
 ·rw [Ac];lia
 ·rw [Ar,AT,Ae];lia
theorem a2V.isSome_eq{o:Option V}{u:Option AA}(r:a2V o u):o.isSome=u.isSome:=by
 cases o with
 |none=>cases u with
  |none=>rfl
  |some _=>exact(show False from r).elim
 |some _=>cases u with
  |none=>exact(show False from r).elim
  |some _=>rfl
theorem KV.val{kvs:List (κ×V)}{vs:List (κ×AA)}(r:KV kvs vs)(k:κ):a2V (a04 kvs k) (valueAt vs k):=by
 unfold KV at r
 induction r with
 |nil=>exact True.intro
 | @cons p q ps qs h t ih=>
   obtain⟨h1,h2⟩:=h
   by_cases e:p.1=k
   ·have e':q.1=k:=h1.symm.trans e
    have b:valueAt (q::qs) k=some q.2:=by simp [valueAt,List.find?_cons,e']
    rw [a3K e,b];exact h2
   ·have e':¬q.1=k:=fun z=>e (h1.trans z)
    have b:valueAt (q::qs) k=valueAt qs k:=by simp [valueAt,List.find?_cons,e']
    rw [a3J e,b];exact ih
theorem KV.any{kvs:List (κ×V)}{vs:List (κ×AA)}(r:KV kvs vs)(k:κ):(kvs.any fun kv=>decide (kv.1=k))=vs.any fun kv=>decide (kv.1=k):=by
 unfold KV at r
 induction r with
 |nil=>rfl
 |cons h t ih=>rw [List.any_cons,List.any_cons,ih,h.1]
theorem KV.repl{kvs:List (κ×V)}{vs:List (κ×AA)}(r:KV kvs vs)(k:κ){y:V}{u:AA}(ry:l8 y u):
 KV (kvs.map fun kv=>if kv.1=k then(kv.1,y) else kv) (vs.map fun kv=>if kv.1=k then(kv.1,u) else kv):=by
 unfold KV at r ⊢
 induction r with
 |nil=>exact .nil
 | @cons p q ps qs h t ih=>
   rw [AQ,AQ]
   refine .cons ?_ ih
   obtain⟨h1,h2⟩:=h
   by_cases e:p.1=k
   ·rw [if_pos e,if_pos (h1.symm.trans e)];exact⟨h1,ry⟩
   ·rw [if_neg e,if_neg (fun z=>e (h1.trans z))];exact⟨h1,h2⟩
theorem KV.put{kvs:List (κ×V)}{vs:List (κ×AA)}(r:KV kvs vs)(k:κ){y:V}{u:AA}(ry:l8 y u):KV (a4f kvs k y) (stored vs k u):=by
 unfold a4f stored
 rw [r.any k]
 by_cases e:(vs.any fun kv=>decide (kv.1=k))=true
 ·rw [if_pos e,if_pos e];exact r.repl k ry
 ·rw [if_neg e,if_neg e];exact Paired.snoc r ⟨rfl,ry⟩
theorem KV.length{kvs:List (κ×V)}{vs:List (κ×AA)}(r:KV kvs vs):kvs.length=vs.length:=Paired.length r
end
theorem a9S{P:AL}{w:AJ}{k:m3}{u:AA}(r:l8 (kV k) u):(l0 P w).is k u=true:=by
 cases k with
 |inl i=>obtain⟨t,e⟩:=(show ∃t,u=Value.int i t from r);subst e;exact a4M P w i t
 |inr x=>obtain⟨t,e⟩:=(show ∃t,u=Value.str x t from r);subst e;exact Q5 P w x t
theorem a7p{P:AL}{w:AJ}:∀{ks:List m3} {us:List AA},l9 (ks.map kV) us->ItemsAre (l0 P w) ks us
 |[],_,r=>by rw [AW] at r;cases r;exact .nil
 |k::ks,_,r=>by
  rw [AQ] at r
  cases r with
  |cons h t=>exact .cons (a9S h) (a7p t)
abbrev KT(H:Hp):List (List m3×V)->List (List m3×AB×AA)->Prop:=Paired fun p q=>p.1=q.1/\H q.2.1=some (.tup (p.1.map kV))/\l8 p.2 q.2.2
theorem KT.val{H:Hp}{kvs:List (List m3×V)}{xs:List (List m3×AB×AA)}(r:KT H kvs xs)(k:List m3):a2V (a04 kvs k) ((atKey xs k).map (·.2)):=by
 induction r with
 |nil=>exact True.intro
 | @cons p q ps qs h t ih=>
   obtain⟨h1,_,h2⟩:=h
   by_cases e:p.1=k
   ·have e':q.1=k:=h1.symm.trans e
    have b:atKey (q::qs) k=some q.2:=by simp [atKey,List.find?_cons,e']
    rw [a3K e,b];exact h2
   ·have e':¬q.1=k:=fun z=>e (h1.trans z)
    have b:atKey (q::qs) k=atKey qs k:=by simp [atKey,List.find?_cons,e']
    rw [a3J e,b];exact ih
theorem KT.repl{H:Hp}{kvs:List (List m3×V)}{xs:List (List m3×AB×AA)}(r:KT H kvs xs)(k:List m3){y:V}{u:AA}(ry:l8 y u):
 KT H (kvs.map fun kv=>if kv.1=k then(kv.1,y) else kv) (xs.map (putAt k u)):=by
 induction r with
 |nil=>exact .nil
 | @cons p q ps qs h t ih=>
   rw [AQ,AQ]
   refine .cons ?_ ih
   obtain⟨h1,h2,h3⟩:=h
   unfold putAt
   by_cases e:p.1=k
   ·rw [if_pos e,if_pos (h1.symm.trans e)];exact⟨h1,h2,ry⟩
   ·rw [if_neg e,if_neg (fun z=>e (h1.trans z))];exact⟨h1,h2,h3⟩
theorem KT.put{H:Hp}{kvs:List (List m3×V)}{xs:List (List m3×AB×AA)}(r:KT H kvs xs)(k:List m3){b:AB}{y:V}{u:AA}(hb:H b=some (.tup (k.map kV)))(ry:l8 y u):
 KT H (a4f kvs k y) (storedH xs k b u):=by
 have e:(kvs.any fun kv=>decide (kv.1=k))=(atKey xs k).isSome:=by
  rw [b0u,(r.val k).isSome_eq,Option.isSome_map]
 unfold a4f storedH
 rw [e]
 by_cases q:(atKey xs k).isSome=true
 ·rw [if_pos q,if_pos q];exact r.repl k ry
 ·rw [if_neg q,if_neg q];exact Paired.snoc r ⟨rfl,hb,ry⟩
theorem KT.keeps{H H':Hp}{kvs:List (List m3×V)}{xs:List (List m3×AB×AA)}(r:KT H kvs xs)(ht:∀b ys,H b=some (.tup ys)->H' b=some (.tup ys)):KT H' kvs xs:=
 Paired.mapP r fun _ _ z=>⟨z.1,ht _ _ z.2.1,z.2.2⟩
section
variable {P:AL}{w:AJ}{H:Hp}{h:Heap}{a:AB}
theorem b7X{u:HO}(ok:HOk P w H h)(e:Rd H a u):A7 P w H h a u:=e.ok ok
theorem b1I{kvs:List (m3×V)}(ok:HOk P w H h)(e:Rd H a (.dK kvs)):kvs.length<=AO/\(a==sysModules)=false/\∃vs,KV kvs vs/\h.DictOf (l0 P w) a vs:=
 show A7 P w H h a (.dK kvs) from b7X ok e
theorem b97{kvs:List (m3×V)}(ok:HOk P w H h)(e:H a=some (.dK kvs)):kvs.length<=AO/\(a==sysModules)=false/\∃vs,KV kvs vs/\h.DictOf (l0 P w) a vs:=b1I ok (.inl e)
theorem a8w{ks:List m3}(ok:HOk P w H h)(e:H a=some (.tup (ks.map kV))):(tupleKind (l0 P w)).is h ks a:=by
 obtain⟨_,its,r,o,h1,h2,n,h3⟩:=(show A7 P w H h a (.tup (ks.map kV)) from ok a _ e)
 exact⟨o,its.toArray,n,h1,h2,h3,by simpa using a7p r⟩
theorem b1J{kvs:List (List m3×V)}(ok:HOk P w H h)(e:Rd H a (.dT kvs)):kvs.length<=AO/\(a==sysModules)=false/\
 ∃xs,KT H kvs xs/\h.DictOfH (tupleKind (l0 P w)) a xs:=by
 obtain⟨z,y,xs,r,o,es,ep,h1,h2,h3,h4,h5⟩:=(show A7 P w H h a (.dT kvs) from b7X ok e)
 refine⟨z,y,xs,r,o,es,ep,h1,h2,h3,h4,fun x hx=> ?_,h5⟩
 have all:∀{l:List (List m3×V)} {m:List (List m3×AB×AA)},KT H l m->∀x∈m,(tupleKind (l0 P w)).is h x.1 x.2.1:=by
  intro l m q
  induction q with
  |nil=>intro x hx;exact nomatch hx
  | @cons p q ps qs hq t ih=>
    intro x hx
    rcases Ag.mp hx with e|hx
    ·subst e
     exact a8w ok (by rw [<-hq.1];exact hq.2.1)
    ·exact ih x hx
 exact all r x hx
theorem b99{kvs:List (List m3×V)}(ok:HOk P w H h)(e:H a=some (.dT kvs)):kvs.length<=AO/\(a==sysModules)=false/\
 ∃xs,KT H kvs xs/\h.DictOfH (tupleKind (l0 P w)) a xs:=b1J ok (.inl e)
end
def a6L(H:Hp)(a:AB)(y:V)(r:Option V):Prop:=
 (∃kvs k,Rd H a (.dK kvs)/\y=kV k/\r=a04 kvs k)\/∃kvs k b,Rd H a (.dT kvs)/\y= .ref b/\H b=some (.tup (k.map kV))/\r=a04 kvs k
def b3F(H:Hp)(a:AB)(y v:V)(H':Hp):Prop:=
 (∃kvs k,H a=some (.dK kvs)/\y=kV k/\kvs.length<AO/\H'=t8 H a (.dK (a4f kvs k v)))\/
 ∃kvs k b,H a=some (.dT kvs)/\y= .ref b/\H b=some (.tup (k.map kV))/\kvs.length<AO/\H'=t8 H a (.dT (a4f kvs k v))
theorem a6L.t{H:Hp}{a b:AB}{kvs:List (List m3×V)}{k:List m3}(e:H a=some (.dT kvs))(eb:H b=some (.tup (k.map kV))):a6L H a (.ref b) (a04 kvs k):= .inr ⟨kvs,k,b,.inl e,rfl,eb,rfl⟩
theorem b3F.t{H:Hp}{a b:AB}{kvs:List (List m3×V)}{k:List m3}{v:V}(e:H a=some (.dT kvs))(eb:H b=some (.tup (k.map kV)))(hl:kvs.length<AO):
 b3F H a (.ref b) v (t8 H a (.dT (a4f kvs k v))):= .inr ⟨kvs,k,b,e,rfl,eb,hl,rfl⟩
section
variable {X:Cx}{pins:List (AB×Obj)}{σ:St}{H:Hp}{s:AC}{a:AB}{y v:V}{u r:AA}{o:Option V}{A:AM}{E:AA->AC->Prop}
theorem e9.big(I:e9 X pins σ H s):sysModules<s.heap.objs.size:=by
 have h:mainGlobals<s.heap.objs.size:=(I.mod.glob.keeps I.bk).lt
 exact Nat.lt_trans (by decide) h
theorem b2M{Q:AA->AC->Prop}(hu:A.units+1<cLine)(I:e9 X pins σ H s)(g:a6L H a y (some v))(ry:l8 y u)(h:∀w' s',e9 X pins σ H s'->l8 v w'->Q w' s'):
 AF (model X.prog X.w) A (getItem (.ref a) u) Q E s:=by
 rcases g with⟨kvs,k,e,ey,l⟩|⟨kvs,k,b,e,ey,eb,l⟩
 ·subst ey
  obtain⟨z,hd,vs,rel,dd⟩:=b1I I.hok e
  obtain⟨w',hw,rw'⟩:=a2V.some_of (v:=v) (o:=valueAt vs k) (by rw [l];exact rel.val k)
  exact wpAny_getItem_of (a9S ry) dd.mapOf hw (h w' _ (I.tok _) rw')
 ·subst ey
  cases(show u=Value.ref b from ry)
  obtain⟨z,hd,xs,rel,dd⟩:=b1J I.hok e
  obtain⟨w',hw,rw'⟩:=a2V.some_of (v:=v) (o:=(atKey xs k).map (·.2)) (by rw [l];exact rel.val k)
  obtain⟨p,hp,hp2⟩:=Option.map_eq_some_iff.mp hw
  refine wpAny_getItem_heap (tupleKind_room_in1 hu) (a8w I.hok eb) dd hp ?_
  rw [hp2]
  exact h w' _ (I.tok _) rw'
theorem b6c{Q:AA->AC->Prop}(hu:A.units+1<cLine)(I:e9 X pins σ H s)(g:a6L H a y o)(ry:l8 y u)(h:∀s',e9 X pins σ H s'->Q (.bool (!o.isSome)) s'):
 AF (model X.prog X.w) A (compareOp .NotIn u (.ref a)) Q E s:=by
 rcases g with⟨kvs,k,e,ey,l⟩|⟨kvs,k,b,e,ey,eb,l⟩
 ·subst ey
  obtain⟨z,hd,vs,rel,dd⟩:=b1I I.hok e
  refine wpAny_notIn_of (a9S ry) hd dd.mapOf ?_
  rw [<-(rel.val k).isSome_eq,<-l]
  exact h _ (I.tok _)
 ·subst ey
  cases(show u=Value.ref b from ry)
  obtain⟨z,hd,xs,rel,dd⟩:=b1J I.hok e
  refine wpAny_notIn_heap (tupleKind_room_in1 hu) (a8w I.hok eb) hd dd ?_
  have q:=(rel.val k).isSome_eq
  rw [Option.isSome_map] at q
  rw [<-q,<-l]
  exact h _ (I.tok _)
theorem b1G{h':Heap}{t':Nat}{ob:HO}(I:e9 X pins σ H s)(mu:Mut (H a))(hs:Heap.SameBut a s.heap h')(he:∃q,h'.get? a=some q)(new:A7 X.prog X.w (t8 H a ob) h' a ob):
 e9 X pins σ (t8 H a ob) {s with heap:=h',toks:=t'}:=
 I.write (x:=a) (e:=a) mu (.inl rfl) (fun b q hb z=>(hs.2 b hb).trans z) he new
theorem b8k{P:AL}{w:AJ}{H':Hp}{h':Heap}{kvs:List (m3×V)}{vs:List (m3×AA)}(z:kvs.length<=AO)(hd:(a==sysModules)=false)(rel:KV kvs vs)(dd:h'.DictOf (l0 P w) a vs):
 A7 P w H' h' a (.dK kvs):=⟨z,hd,vs,rel,dd⟩
theorem b2N{H':Hp}{Q:Unit->AC->Prop}(hu:A.units+1<cLine)(I:e9 X pins σ H s)(g:b3F H a y v H')(ry:l8 y u)(rv:l8 v r)(h:∀s',e9 X pins σ H' s'->Q () s'):
 AF (model X.prog X.w) A (setItem (.ref a) u r) Q E s:=by
 rcases g with⟨kvs,k,e,ey,l,eH⟩|⟨kvs,k,b,e,ey,eb,l,eH⟩
 ·subst ey eH
  obtain⟨z,hd,vs,rel,dd⟩:=b97 I.hok e
  have hz:vs.length<=AO:=by rw [<-rel.length];exact z
  have hl:(a4f kvs k v).length<=AO:=by have:=a4J kvs k v;lia
  refine wpAny_setItem_pairs (hsz:=hz) (a9S ry) dd fun h' dd' hs=>h _ ?_
  have he:∃q,h'.get? a=some q:=by obtain⟨q,_,_,hq,_⟩:=dd';exact⟨q,hq⟩
  exact b1G I (by rw [e];exact True.intro) hs he (b8k hl hd (rel.put k rv) dd')
 ·subst ey eH
  cases(show u=Value.ref b from ry)
  obtain⟨z,hd,xs,rel,dd⟩:=b99 I.hok e
  have hz:xs.length<=AO:=by rw [<-Paired.length rel];exact z
  have hl:(a4f kvs k v).length<=AO:=by have:=a4J kvs k v;lia
  refine wpAny_setItem_heap (hsz:=hz) (tupleKind_room_in1 hu) (a8w I.hok eb) dd fun h' dd' hs=>h _ ?_
  obtain⟨q,es,ep,hq,h2,h3,h4,_,h5⟩:=dd'
  refine b1G I (by rw [e];exact True.intro) hs ⟨q,hq⟩ ⟨hl,hd,_,(rel.put k eb rv).keeps fun c ys ec=> ?_,q,es,ep,hq,h2,h3,h4,h5⟩
  rw [g6 (c0i ec e (fun z=>nomatch z))]
  exact ec
end
section
variable {X:Cx}{pins:List (AB×Obj)}{σ:St}{H:Hp}{s:AC}{a:AB}{kvs:List (m3×V)}{k:m3}{u:AA}{A:AM}{E:AA->AC->Prop}
end
def b5Z(i:AG):Prop:=∀ov iv,subscripted i false ov iv=operate [ov,iv] (getItem ov iv)
theorem b2q{prog:AL}{w:AJ}{A:AM}{E:AA->AC->Prop}{s:AC}{env:Env}{value slice:AG}{pos:Pos}{T id:String}{Q:AA->AC->Prop}
 (hl:typeLookup (.type T) "__getitem__"=pure (some (.builtin id))) (hs:b5Z slice)
 (h:AF (model prog w) A (eval value env) (fun o s₁=>AF (model prog w) A (eval slice env) (fun i s₂=>s₂.TypeIs o T/\AF (model prog w) A (getItem o i) Q E s₂) E s₁) E s):
 AF (model prog w) A (eval (.Subscript value slice pos) env) Q E s:=by
 refine Subscript_ (wpAny_mono h (fun o s₁ h₁=>wpAny_mono h₁ (fun i s₂ h₂=> ?_) fun _ _ x=>x) fun _ _ x=>x)
 obtain⟨hT,h₂⟩:=h₂
 unfold subscriptTail
 refine AD ?_
 rw [getitemInPython_of_ne hT.not_modules]
 refine AD (wpAny_specialOf hT hl ?_)
 have fin:AF (model prog w) A (subscripted slice false o i) (fun r s₃=>AF (model prog w) A (letTemporaryGo value o r>>=fun _=>pure r) Q E s₃) E s₂:=by
  rw [hs o i]
  exact wpAny_operating (wpAny_mono h₂ (fun r s₃ h₃=>AD (wpAny_letTemporaryGo (AI h₃))) fun _ _ x=>x)
 first
  |exact AI (AD fin)
  |exact AD (AI (AD fin))
  |exact AD fin
theorem a9z{X:Cx}{pins:List (AB×Obj)}{σ:St}{H:Hp}{s:AC}{a:AB}{y:V}{o:Option V}(I:e9 X pins σ H s)(g:a6L H a y o):s.TypeIs (.ref a) "dict":=by
 rcases g with⟨kvs,k,e,_,_⟩|⟨kvs,k,b,e,_,_,_⟩
 ·obtain⟨_,_,vs,_,dd⟩:=b1I I.hok e
  exact dd.typeIs
 ·obtain⟨_,_,xs,_,dd⟩:=b1J I.hok e
  exact dd.typeIs
def c0K(td ty:TE):TE:=fun σ H Q=>td σ H fun x H1=>ty σ H1 fun y H2=>∃a v,x= .ref a/\a6L H2 a y (some v)/\Q v H2
def b7p(ty td:TE):TE:=fun σ H Q=>ty σ H fun y H1=>td σ H1 fun x H2=>∃a o,x= .ref a/\a6L H2 a y o/\Q (.bl (!o.isSome)) H2
def c0E(td ty tv:TE):TS:=fun D σ H=>tv σ H fun v H1=>td σ H1 fun x H2=>ty σ H2 fun y H3=>∃a H4,x= .ref a/\b3F H3 a y v H4/\D.nx σ H4
section
variable {X:Cx}{o i e value:AG}{pos pos' tpos:Pos}{td ty tv:TE}
theorem b66(hu:X.A.units+1<cLine)(ho:PE X o td)(hi:PE X i ty)(hs:b5Z i):PE X (.Subscript o i pos) (c0K td ty):=by
 intro pins s σ H Q I h
 refine b2q PySem.F.slot_dict_getitem.lookup hs (B8 (ho pins s σ H _ I h) fun u s1 h0=>j8 h0 fun x H1 I1 rx q1=>B8 (hi pins s1 σ H1 _ I1 q1) fun iv s2 ⟨y,H2,I2,ry,a,v,ex,g,q2⟩=> ?_)
 subst ex
 obtain rfl:u=Value.ref a:=rx
 exact⟨a9z I2 g,b2M hu I2 g ry fun w' s3 I3 rw'=>⟨v,H2,I3,rw',q2⟩⟩
theorem b3s(hu:X.A.units+1<cLine)(hi:PE X i ty)(ho:PE X o td):PC X .NotIn i o (b7p ty td):=by
 intro pins s σ H Q I h
 refine B8 (hi pins s σ H _ I h) fun iv s1 h0=>j8 h0 fun y H1 I1 ry q1=>B8 (ho pins s1 σ H1 _ I1 q1) fun u s2 ⟨x,H2,I2,rx,a,ov,ex,g,q2⟩=> ?_
 subst ex
 obtain rfl:u=Value.ref a:=rx
 exact b6c hu I2 g ry fun s3 I3=>⟨.bl (!ov.isSome),H2,I3,rfl,q2⟩
theorem b69(hu:X.A.units+1<cLine)(ho:PE X o td)(hi:PE X i ty)(hv:PE X value tv)(hs:swapsWith value (some (.Subscript o i pos')) pos.line X.env=pure false):
 PS X (.Assign [.Subscript o i pos'] value pos) (c0E td ty tv):=by
 intro pins s σ H D I h
 refine wpAny_Assign_Subscript (B8 (hv pins s σ H _ I h) fun r s1 h0=>j8 h0 fun v H1 I1 rv q1=>B8 (ho pins s1 σ H1 _ I1 q1) fun u s2 h0=>j8 h0 fun x H2 I2 rx q2=>B8 (hi pins s2 σ H2 _ I2 q2) fun iv s3 ⟨y,H3,I3,ry,a,H4,ex,g,q3⟩=> ?_) hs
 subst ex
 obtain rfl:u=Value.ref a:=rx
 exact b2N hu I3 g ry rv fun s4 I4=>⟨σ,H4,I4,q3⟩
end
theorem b4a{P:AL}{w:AJ}{H:Hp}(h:Heap)(hb:sysModules<h.objs.size):A7 P w H (h.push {cls:= .type "dict",data:= .dict #[]}) h.objs.size (.dT []):=
 ⟨Nat.zero_le _,beq_eq_false_iff_ne.mpr (Ne.symm (Ai hb)),[],.nil,_, #[],0,Ao _ rfl,⟨rfl,rfl,rfl⟩,rfl,rfl,List.nodup_nil⟩
def b9F:TE:=fun _ H Q=>∀p,H p=none->Q (.ref p) (t8 H p (.dT []))
section
variable {X:Cx}{pos:Pos}
theorem b5d:PE X (.Dict [] [] pos) b9F:=fun pins s σ H Q I h=>
 wpAny_Dict_empty ⟨.ref s.heap.objs.size,_,I.laid (a:=s.heap.objs.size) (o:= .dT []) (t':=s.toks) (fun _ _ q=>Ab _ q) (AS _) (b4a s.heap I.big),rfl,h _ (I.hok.fresh (AS _))⟩
end
section
variable {X:Cx}{pins:List (AB×Obj)}{σ:St}{H:Hp}{s:AC}{a:AB}{y d:V}{u r:AA}{o:Option V}{A:AM}{E:AA->AC->Prop}
end
section
variable {X:Cx}{o e f:AG}{apos cpos:Pos}{td ty tx:TE}
end
section
variable {X:Cx}{pins:List (AB×Obj)}{σ:St}{H:Hp}{s:AC}{a:AB}{kvs:List (m3×V)}{A:AM}{E:AA->AC->Prop}
end
section
variable {X:Cx}{pins:List (AB×Obj)}{σ:St}{H:Hp}{s:AC}{a:AB}{y:V}{u:AA}{A:AM}{E:AA->AC->Prop}
end
end L2
namespace Att
open PySem PySem.W PySem.Calls PyProof.Rows
section
variable {prog:AL}{w:AJ}{A:AM}{E:AA->AC->Prop}{s:AC}{K:Frag}
end
end Att
namespace L2
open PySem PySem.Spec PyProof.Rows
section
variable {P:AL}{w:AJ}{K:AE}{mg:Str->Option AA}{base:Heap}
end
section
variable {X:Cx}
end
section
variable {κ:Type}[DecidableEq κ]
end
end L2
set_option maxHeartbeats 4000000
namespace PU
open PySem PySem.Spec PyProof.Rows L2
abbrev PV:=PyData
def TqT(K:AE)(H:Hp)(a:AB)(xs:List V):Prop:=
 H a=some (.tup xs)\/∃(o:Obj) (its:Array AA) (n:Nat),K.lookup a=some o/\o.cls= .type "tuple"/\o.data= .seq its n/\its.size<=AO/\l9 xs its.toList
theorem TqT.of{K:AE}{H:Hp}{a:AB}{xs:List V}(h:H a=some (.tup xs)):TqT K H a xs:= .inl h
theorem TqT.sq{K:AE}{H:Hp}{a:AB}{xs:List V}(h:TqT K H a xs):SqT K H a xs:=h.elim (fun h=> .inl (.inl h)) .inr
theorem b7j{K:AE}{H H':Hp}{a:AB}{xs:List V}(s:j5 H H')(h:TqT K H a xs):TqT K H' a xs:=h.elim (fun h=> .inl (s _ _ h)) .inr
def b9X(K:AE)(x:Str)(v:V):Prop:=∃(a:AB) (oc:AA) (od:Option AB) (fd:FuncData) (osl:Array (Option AA)),v= .ref a/\K.lookup a=some ⟨oc,od,.func fd,osl⟩/\fd.name=x
def K3(K:AE)(x:Str)(C:AB):Prop:=PySem.W.nsIn K mainGlobals x=some (some (.ref C))/\∃(oc:AA) (od:Option AB) (cd:ClassData) (osl:Array (Option AA)),K.lookup C=some ⟨oc,od,.cls cd,osl⟩/\cd.name=x
theorem K3.inj{K:AE}{x y:Str}{C:AB}(h:K3 K x C)(h':K3 K y C):x=y:=by
 obtain⟨_,_,_,_,_,k,n⟩:=h
 obtain⟨_,_,_,_,_,k',n'⟩:=h'
 rw [k] at k';cases k'
 rw [<-n,n']
theorem K3.uniq{K:AE}{x:Str}{C D:AB}(h:K3 K x C)(h':K3 K x D):C=D:=by
 have:=h.1.symm.trans h'.1
 cases this;rfl
def b76(K:AE)(H:Hp)(x:Str)(v:V):Prop:=∃(a C:AB) (φ:Heap->Prop),v= .ref a/\H a=some (.ext φ)/\
 (∀h:Heap,φ h->∃oe vs,h.get? a=some oe/\oe.cls= .ref C/\oe.data= .fields vs/\oe.dict=none)/\K3 K x C
def b2C(K:AE)(H:Hp)(x:Str)(t:PV)(v:V):Prop:=(t= .none/\b9X K x v)\/(t= .bool true/\b76 K H x v)
theorem b2C.ref{K:AE}{H:Hp}{x:Str}{t:PV}{v:V}(h:b2C K H x t v):∃a,v= .ref a:=by
 rcases h with⟨_,a,_,_,_,_,e,_⟩|⟨_,a,_,_,e,_⟩<;>exact⟨a,e⟩
theorem b2C.mono{K:AE}{H H':Hp}{x:Str}{t:PV}{v:V}(s:j5 H H')(h:b2C K H x t v):b2C K H' x t v:=by
 rcases h with h|⟨z,a,C,φ,e,q,r⟩
 ·exact .inl h
 ·exact .inr ⟨z,a,C,φ,e,s _ _ q,r⟩
def a9m(K:AE)(H:Hp)(x:Str)(m:V)(fs:List (Str×V))(v:V):Prop:=
 (m= .bl false/\∃a C dx,v= .ref a/\H a=some (.ins C dx fs)/\K3 K x C)\/
 (m= .int 0/\∃(a C dx:AB) (φ:Heap->Prop),v= .ref a/\H a=some (.ext φ)/\(∀h:Heap,φ h->∃oe vs,h.get? a=some oe/\oe.cls= .ref C/\oe.data= .fields vs/\oe.dict=some dx)/\H dx=some (.xd fs)/\K3 K x C)
theorem a9m.ref{K:AE}{H:Hp}{x:Str}{m:V}{fs:List (Str×V)}{v:V}(h:a9m K H x m fs v):∃a,v= .ref a:=by
 rcases h with⟨_,a,_,_,e,_⟩|⟨_,a,_,_,_,e,_⟩<;>exact⟨a,e⟩
theorem a9m.mono{K:AE}{H H':Hp}{x:Str}{m:V}{fs:List (Str×V)}{v:V}(s:j5 H H')(h:a9m K H x m fs v):a9m K H' x m fs v:=by
 rcases h with⟨z,a,C,dx,e,q,n⟩|⟨z,a,C,dx,φ,e,q,r,d,n⟩
 ·exact .inl ⟨z,a,C,dx,e,s _ _ q,n⟩
 ·exact .inr ⟨z,a,C,dx,φ,e,s _ _ q,r,s _ _ d,n⟩
def kP:m3->PV
 | .inl i=> .int i
 | .inr x=> .str x
def s1{α:Type}(kv:m3×α):List m3×α:=([kv.1],kv.2)
mutual
def B5(K:AE)(H:Hp):PV->V->Prop
 | .none,v=>v= .non
 | .bool b,v=>v= .bl b
 | .int i,v=>v= .int i
 | .str x,v=>v= .str x
 | .tuple ps,v=>∃a xs,v= .ref a/\TqT K H a xs/\j4 K H ps xs
 | .list ps,v=>∃a xs,v= .ref a/\Z3 K H a xs/\j4 K H ps xs
 | .dict kvs,v=>(∃a ys,v= .ref a/\H a=some (.dK ys)/\a2W K H kvs (ys.map s1))\/(∃a xs,v= .ref a/\H a=some (.dT xs)/\a2W K H kvs (([],.non)::xs))\/(∃x t,kvs=[(.str x,t)]/\b2C K H x t v)\/(∃x m fs,a9m K H x m fs v/\a2x K H kvs ((x,m)::fs))
def j4(K:AE)(H:Hp):List PV->List V->Prop
 |[],vs=>vs=[]
 |p::ps,vs=>∃v r,vs=v::r/\B5 K H p v/\j4 K H ps r
def a2W(K:AE)(H:Hp):List (PV×PV)->List (List m3×V)->Prop
 |[],ys=>ys=[]
 |(k,p)::r,ys=>∃kk v t,ys=(kk,v)::t/\k= .tuple (kk.map kP)/\B5 K H p v/\a2W K H r t
def a2x(K:AE)(H:Hp):List (PV×PV)->List (Str×V)->Prop
 |[],ys=>ys=[]
 |(k,p)::r,ys=>∃f v t,ys=(f,v)::t/\k= .str f/\B5 K H p v/\a2x K H r t
end
theorem u8{K:AE}{H H':Hp}{a:AB}{xs:List V}(s:j5 H H')(h:SqT K H a xs):SqT K H' a xs:=by
 rcases h with(h|⟨o,h⟩)|h
 ·exact .inl (.inl (s _ _ h))
 ·exact .inl (.inr ⟨o,s _ _ h⟩)
 ·exact .inr h
theorem x9{K:AE}{H H':Hp}{a:AB}{xs:List V}(s:j5 H H')(h:Z3 K H a xs):Z3 K H' a xs:=by
 rcases h with(h|⟨o,h⟩)|h
 ·exact .inl (.inl (s _ _ h))
 ·exact .inl (.inr ⟨o,s _ _ h⟩)
 ·exact .inr h
mutual
theorem B5.mono{K:AE}{H H':Hp}(s:j5 H H'):∀(p:PV) {v:V},B5 K H p v->B5 K H' p v
 | .none,_,h=>h
 | .bool _,_,h=>h
 | .int _,_,h=>h
 | .str _,_,h=>h
 | .dict kvs,_,.inl ⟨a,ys,q,h,r⟩=> .inl ⟨a,ys,q,s _ _ h,a2W.mono s kvs r⟩
 | .dict kvs,_,.inr (.inl ⟨a,xs,q,h,r⟩)=> .inr (.inl ⟨a,xs,q,s _ _ h,a2W.mono s kvs r⟩)
 | .dict _,_,.inr (.inr (.inl ⟨x,t,e,h⟩))=> .inr (.inr (.inl ⟨x,t,e,h.mono s⟩))
 | .dict kvs,_,.inr (.inr (.inr ⟨x,m,fs,h,r⟩))=> .inr (.inr (.inr ⟨x,m,fs,h.mono s,a2x.mono s kvs r⟩))
 | .tuple ps,_,⟨a,xs,e,q,r⟩=>⟨a,xs,e,b7j s q,j4.mono s ps r⟩
 | .list ps,_,⟨a,xs,e,q,r⟩=>⟨a,xs,e,x9 s q,j4.mono s ps r⟩
theorem j4.mono{K:AE}{H H':Hp}(s:j5 H H'):∀(ps:List PV) {vs:List V},j4 K H ps vs->j4 K H' ps vs
 |[],_,h=>h
 |p::ps,_,⟨v,r,e,q,t⟩=>⟨v,r,e,B5.mono s p q,j4.mono s ps t⟩
theorem a2W.mono{K:AE}{H H':Hp}(s:j5 H H'):∀(es:List (PV×PV)) {ys:List (List m3×V)},a2W K H es ys->a2W K H' es ys
 |[],_,h=>h
 |(k,p)::es,_,⟨kk,v,r,e,z,q,t⟩=>⟨kk,v,r,e,z,B5.mono s p q,a2W.mono s es t⟩
theorem a2x.mono{K:AE}{H H':Hp}(s:j5 H H'):∀(es:List (PV×PV)) {ys:List (Str×V)},a2x K H es ys->a2x K H' es ys
 |[],_,h=>h
 |(k,p)::es,_,⟨kk,v,r,e,z,q,t⟩=>⟨kk,v,r,e,z,B5.mono s p q,a2x.mono s es t⟩
end
theorem j4.length{K:AE}{H:Hp}:∀{ps:List PV} {vs:List V},j4 K H ps vs->vs.length=ps.length
 |[],_,h=>by cases h;rfl
 |_::ps,_,⟨v,r,e,_,t⟩=>by subst e;rw [AT,AT,j4.length t]
theorem j4.get{K:AE}{H:Hp}:∀{ps:List PV} {vs:List V} {i:Nat} {p:PV},j4 K H ps vs->ps[i]?=some p->∃v,vs[i]?=some v/\B5 K H p v
 |[],_,_,_,_,h=>by simp at h
 |q::ps,_,0,p,⟨v,r,e,a,t⟩,h=>by subst e;simp at h;subst h;exact⟨v,rfl,a⟩
 |q::ps,_,i+1,p,⟨v,r,e,a,t⟩,h=>by subst e;exact j4.get (i:=i) t (by simpa using h)
theorem j4.getV{K:AE}{H:Hp}:∀{ps:List PV} {vs:List V} {i:Nat} {v:V},j4 K H ps vs->vs[i]?=some v->∃p,ps[i]?=some p/\B5 K H p v
 |[],_,_,_,h,e=>by cases h;simp at e
 |q::ps,_,0,v,⟨w,r,e,a,t⟩,h=>by subst e;simp at h;subst h;exact⟨q,rfl,a⟩
 |q::ps,_,i+1,v,⟨w,r,e,a,t⟩,h=>by subst e;exact j4.getV (i:=i) t (by simpa using h)
theorem j4.append{K:AE}{H:Hp}:∀{ps qs:List PV} {vs ws:List V},j4 K H ps vs->j4 K H qs ws->j4 K H (ps++qs) (vs++ws)
 |[],_,_,_,h,t=>by cases h;exact t
 |_::ps,_,_,_,⟨v,r,e,a,t⟩,s=>by subst e;exact⟨v,_,rfl,a,j4.append t s⟩
theorem j4.drop{K:AE}{H:Hp}:∀{ps:List PV} {vs:List V} (n:Nat),j4 K H ps vs->j4 K H (ps.drop n) (vs.drop n)
 |_,_,0,h=>h
 |[],_,n+1,h=>by cases h;rfl
 |_::ps,_,n+1,⟨v,r,e,a,t⟩=>by subst e;exact j4.drop n t
theorem j4.take{K:AE}{H:Hp}:∀{ps:List PV} {vs:List V} (n:Nat),j4 K H ps vs->j4 K H (ps.take n) (vs.take n)
 |_,_,0,h=>rfl
 |[],_,n+1,h=>by cases h;rfl
 |_::ps,_,n+1,⟨v,r,e,a,t⟩=>by subst e;exact⟨v,_,rfl,a,j4.take n t⟩
def C7(K:AE)(H:Hp):List (List m3×PV)->List (List m3×V)->Prop
 |[],ys=>ys=[]
 |(k,p)::r,ys=>∃v t,ys=(k,v)::t/\B5 K H p v/\C7 K H r t
theorem C7.mono{K:AE}{H H':Hp}(s:j5 H H'):∀(kvs:List (List m3×PV)) {ys:List (List m3×V)},C7 K H kvs ys->C7 K H' kvs ys
 |[],_,h=>h
 |(k,p)::r,_,⟨v,t,e,q,h⟩=>⟨v,t,e,B5.mono s p q,C7.mono s r h⟩
inductive Y2 where
 |lst (ps:List PV)|dct (kvs:List (List m3×PV))|txt (kvs:List (List m3×PV))
inductive d0 where
 |val (p:PV)|ow (c:Y2)|bo (c:Y2)
abbrev d0.own(ps:List PV):d0:= .ow (.lst ps)
abbrev d0.bor(ps:List PV):d0:= .bo (.lst ps)
abbrev d0.dct(kvs:List (List m3×PV)):d0:= .ow (.dct kvs)
def a06(K:AE)(F H:Hp)(v:V):Y2->Prop
 | .lst ps=>∃a xs,v= .ref a/\F a=none/\H a=some (.lst xs)/\j4 K F ps xs
 | .dct kvs=>∃a xs,v= .ref a/\F a=none/\H a=some (.dT xs)/\C7 K F kvs xs
 | .txt kvs=>∃a xs,v= .ref a/\F a=none/\H a=some (.dK xs)/\C7 K F kvs (xs.map s1)
def N2(K:AE)(F H:Hp)(v:V):d0->Prop
 | .val p=>B5 K F p v
 | .ow c=>a06 K F H v c
 | .bo c=>a06 K F H v c
theorem a06.at_{K:AE}{F H:Hp}{v:V}:∀{c:Y2},a06 K F H v c->∃a o,v= .ref a/\F a=none/\H a=some o
 | .lst _,⟨a,_,e,n,q,_⟩=>⟨a,_,e,n,q⟩
 | .dct _,⟨a,_,e,n,q,_⟩=>⟨a,_,e,n,q⟩
 | .txt _,⟨a,_,e,n,q,_⟩=>⟨a,_,e,n,q⟩
def NT(o:HO):Prop:=∀xs,o≠.tup xs
structure W6(F H F' H':Hp):Prop where
 f:j5 F F'
 h:j5 H H'
 fh:j5 F' H'
 nw:∀b o,F b=none->H b=some o->NT o->F' b=none
 nf:∀b o u,F' b=some (.frz o u)->F b=some (.frz o u)
theorem j5.refl(H:Hp):j5 H H:=fun _ _ e=>e
theorem W6.refl{F H:Hp}(s:j5 F H):W6 F H F H:=⟨j5.refl F,j5.refl H,s,fun _ _ e _ _=>e,fun _ _ _ e=>e⟩
theorem W6.trans{F H F1 H1 F2 H2:Hp}(a:W6 F H F1 H1)(b:W6 F1 H1 F2 H2):W6 F H F2 H2:=
 ⟨a.f.trans b.f,a.h.trans b.h,b.fh,fun c o e q t=>b.nw c o (a.nw c o e q t) (a.h c o q) t,fun c o u e=>a.nf c o u (b.nf c o u e)⟩
theorem b4Z{F0 F:Hp}{a:AB}{xs:List V}(h:∀b o u,F b=some (.frz o u)->F0 b=some (.frz o u)):∀b o u,t8 F a (.lst xs) b=some (.frz o u)->F0 b=some (.frz o u):=fun b o u z=>by
 by_cases hb:b=a
 ·subst hb;rw [j7] at z;cases z
 ·rw [g6 hb] at z;exact h _ _ _ z
theorem a06.ext{K:AE}{F H F' H':Hp}{v:V}(x:W6 F H F' H'):∀{c:Y2},a06 K F H v c->a06 K F' H' v c
 | .lst _,⟨a,xs,e,n,q,r⟩=>⟨a,xs,e,x.nw _ _ n q (fun _ h=>nomatch h),x.h _ _ q,j4.mono x.f _ r⟩
 | .dct _,⟨a,xs,e,n,q,r⟩=>⟨a,xs,e,x.nw _ _ n q (fun _ h=>nomatch h),x.h _ _ q,C7.mono x.f _ r⟩
 | .txt _,⟨a,xs,e,n,q,r⟩=>⟨a,xs,e,x.nw _ _ n q (fun _ h=>nomatch h),x.h _ _ q,C7.mono x.f _ r⟩
theorem N2.ext{K:AE}{F H F' H':Hp}{v:V}(x:W6 F H F' H'):∀{r:d0},N2 K F H v r->N2 K F' H' v r
 | .val p,h=>B5.mono x.f p h
 | .ow _,h=>a06.ext x h
 | .bo _,h=>a06.ext x h
def Y2.rd:Y2->PV
 | .lst ps=> .list ps
 | .dct kvs=> .dict ((.tuple [],.none)::kvs.map fun kv=>(.tuple (kv.1.map kP),kv.2))
 | .txt kvs=> .dict (kvs.map fun kv=>(.tuple (kv.1.map kP),kv.2))
def d0.rd:d0->PV
 | .val p=>p
 | .ow c=>c.rd
 | .bo c=>c.rd
def d0.toVal:d0->Option PV
 | .val p=>some p
 | .ow (.lst ps)=>some (.list ps)
 | .ow (.dct _)=>none
 | .ow (.txt _)=>none
 | .bo _=>none
theorem a2W.of{K:AE}{F H:Hp}(s:j5 F H):∀{kvs:List (List m3×PV)} {xs:List (List m3×V)},C7 K F kvs xs->a2W K H (kvs.map fun kv=>(PyData.tuple (kv.1.map kP),kv.2)) xs
 |[],_,h=>h
 |(k,p)::r,_,⟨v,t,e,q,h⟩=>⟨k,v,t,e,rfl,B5.mono s p q,a2W.of s h⟩
theorem a06.rd{K:AE}{F H:Hp}{v:V}(s:j5 F H):∀{c:Y2},a06 K F H v c->B5 K H c.rd v
 | .lst ps,⟨a,xs,e,n,q,r⟩=>⟨a,xs,e,Z3.of q,j4.mono s _ r⟩
 | .dct kvs,⟨a,xs,e,n,q,r⟩=> .inr (.inl ⟨a,xs,e,q,[],.non,xs,rfl,rfl,rfl,a2W.of s r⟩)
 | .txt kvs,⟨a,xs,e,n,q,r⟩=> .inl ⟨a,xs,e,q,a2W.of s r⟩
theorem N2.rd{K:AE}{F H:Hp}{v:V}(s:j5 F H):∀{r:d0},N2 K F H v r->B5 K H r.rd v
 | .val p,h=>B5.mono s p h
 | .ow _,h=>a06.rd s h
 | .bo _,h=>a06.rd s h
structure r9(K:AE)(F H F' H':Hp)(v:V)(r:d0):Prop where
 x:W6 F H F' H'
 rep:N2 K F' H' v r
 fr:∀c a,r= .ow c->v= .ref a->H a=none
theorem r9.val{K:AE}{F H F' H':Hp}{v:V}{p:PV}(x:W6 F H F' H')(r:B5 K F' p v):r9 K F H F' H' v (.val p):=⟨x,r,fun _ _ e=>nomatch e⟩
theorem r9.here{K:AE}{F H:Hp}{v:V}{p:PV}(s:j5 F H)(r:B5 K F p v):r9 K F H F H v (.val p):=r9.val (W6.refl s) r
theorem r9.trans{K:AE}{F H F1 H1 F2 H2:Hp}{v:V}{r:d0}(a:W6 F H F1 H1)(b:r9 K F1 H1 F2 H2 v r):r9 K F H F2 H2 v r:=
 ⟨a.trans b.x,b.rep,fun ps c e q=>a.h.free (b.fr ps c e q)⟩
theorem r9.toVal{K:AE}{F H F' H':Hp}{v:V}{p:PV}:∀{r:d0},r9 K F H F' H' v r->r.toVal=some p->∃F2,r9 K F H F2 H' v (.val p)
 | .val q,o,e=>by cases e;exact⟨F',o⟩
 | .bo _,_,e=>nomatch e
 | .ow (.dct _),_,e=>nomatch e
 | .ow (.txt _),_,e=>nomatch e
 | .ow (.lst ps),o,e=>by
   cases e
   obtain⟨a,xs,rfl,n,q,r⟩:=o.rep
   have fr:=o.fr _ a rfl rfl
   have up:j5 F' (t8 F' a (.lst xs)):=fun b u z=>by rw [g6 (j9 z n)];exact z
   refine⟨t8 F' a (.lst xs),r9.val ⟨o.x.f.trans up,o.x.h,fun b u z=> ?_,fun b u z y t=> ?_,b4Z o.x.nf⟩ ⟨a,xs,rfl,Z3.of j7,j4.mono up _ r⟩⟩
   ·by_cases hb:b=a
    ·subst hb;rw [j7] at z;cases z;exact q
    ·rw [g6 hb] at z;exact o.x.fh _ _ z
   ·rw [g6 (j9 y fr)];exact o.x.nw b u z y t
theorem Q6{H:Hp}{a:AB}{o:HO}(n:H a=none):j5 H (t8 H a o):=fun b u z=>by rw [g6 (j9 z n)];exact z
theorem W6.lay{F H:Hp}{a:AB}{o:HO}(s:j5 F H)(n:H a=none)(hf:∀x u,o≠.frz x u:=by intro _ _ h;cases h):W6 F H (t8 F a o) (t8 H a o):=
 ⟨Q6 (s.free n),Q6 n,fun b u z=>by
  by_cases hb:b=a
  ·subst hb;rw [j7] at z ⊢;exact z
  ·rw [g6 hb] at z ⊢;exact s _ _ z,fun b u z y _=>by rw [g6 (j9 y n)];exact z,fun b w u z=>by
  by_cases hb:b=a
  ·subst hb;rw [j7] at z;exact absurd (Option.some.inj z) (hf w u)
  ·rw [g6 hb] at z;exact z⟩
theorem W6.layH{F H:Hp}{a:AB}{o:HO}(s:j5 F H)(n:H a=none):W6 F H F (t8 H a o):=
 ⟨j5.refl F,Q6 n,fun b u z=>by rw [g6 (j9 (s _ _ z) n)];exact s _ _ z,fun b u z y _=>z,fun _ _ _ z=>z⟩
theorem r9.tup{K:AE}{F H:Hp}{a:AB}{xs:List V}{ps:List PV}(s:j5 F H)(n:H a=none)(r:j4 K F ps xs):r9 K F H (t8 F a (.tup xs)) (t8 H a (.tup xs)) (.ref a) (.val (.tuple ps)):=
 r9.val (W6.lay s n) ⟨a,xs,rfl,TqT.of j7,j4.mono (Q6 (s.free n)) _ r⟩
theorem r9.lst{K:AE}{F H:Hp}{a:AB}{xs:List V}{ps:List PV}(s:j5 F H)(n:H a=none)(r:j4 K F ps xs):r9 K F H F (t8 H a (.lst xs)) (.ref a) (.own ps):=
 ⟨W6.layH s n,⟨a,xs,rfl,s.free n,j7,r⟩,fun _ _ _ e=>by cases e;exact n⟩
abbrev a9:=List (Option d0)
structure K2(K:AE)(F H:Hp)(σ:L2.St)(ρ:a9):Prop where
 fh:j5 F H
 len:σ.length=ρ.length
 at_:∀(i:Nat) (r:d0),ρ[i]?=some (some r)->∃v,σ[i]?=some (some v)/\N2 K F H v r
 nb:∀(i:Nat) (c:Y2),ρ[i]?≠some (some (.bo c))
 ap:∀(i j:Nat) (c d:Y2) (a:AB),i≠j->ρ[i]?=some (some (.ow c))->ρ[j]?=some (some (.ow d))->σ[i]?=some (some (.ref a))->σ[j]?≠some (some (.ref a))
theorem K2.ext{K:AE}{F H F' H':Hp}{σ:L2.St}{ρ:a9}(e:K2 K F H σ ρ)(x:W6 F H F' H'):K2 K F' H' σ ρ:=
 ⟨x.fh,e.len,fun i r q=>let ⟨v,a,b⟩:=e.at_ i r q;⟨v,a,b.ext x⟩,e.nb,e.ap⟩
abbrev M:=a9->Option d0
def tM(K:AE)(m:M):TE:=fun σ H Q=>∃F ρ r,K2 K F H σ ρ/\m ρ=some r/\∀v F' H',r9 K F H F' H' v r->Q v H'
abbrev EE(X:Cx)(e:AG)(m:M):Prop:=PE X e (tM X.K m)
theorem u6{X:Cx}{e:AG}{t t':TE}(h:PE X e t)(i:∀σ H Q,t' σ H Q->t σ H Q):PE X e t':=fun pins s σ H Q I q=>h pins s σ H Q I (i σ H Q q)
theorem a81{X:Cx}{e:AG}{t t':TT}(h:PT X e t)(i:∀σ H Q,t' σ H Q->t σ H Q):PT X e t':=fun pins s σ H Q I q=>h pins s σ H Q I (i σ H Q q)
theorem b5n{X:Cx}{e:AG}{t t':TT}(h:PW X e t)(i:∀σ H Q,t' σ H Q->t σ H Q):PW X e t':=fun wh pins s σ H Q I q=>h wh pins s σ H Q I (i σ H Q q)
theorem b5a{X:Cx}{e:List AG}{t t':TA}(h:PA X e t)(i:∀σ H Q,t' σ H Q->t σ H Q):PA X e t':=fun pos pins s σ H Q I q=>h pos pins s σ H Q I (i σ H Q q)
theorem x6{X:Cx}{e:Stmt}{t t':TS}(h:PS X e t)(i:∀D σ H,t' D σ H->t D σ H):PS X e t':=fun pins s σ H D I q=>h pins s σ H D I (i D σ H q)
theorem a5n{X:Cx}{e:List Stmt}{t t':TS}(h:PSs X e t)(i:∀D σ H,t' D σ H->t D σ H):PSs X e t':=fun pins s σ H D I q=>h pins s σ H D I (i D σ H q)
def mC(p:PV):M:=fun _=>some (.val p)
def a7(i:Nat):M:=fun ρ=>match ρ[i]? with
 |some (some (.ow c))=>some (.bo c)
 |some (some r)=>some r
 |_=>none
section
variable {X:Cx}{a b c:AG}{ma mb mc:M}{pos:Pos}
theorem a1r{e:AG}{v:V}{p:PV}(h:PE X e (tC v))(r:∀H,B5 X.K H p v):EE X e (mC p):=
 u6 h fun σ H Q h0=>t6 h0 fun F ρ q he hm k=>by
  cases hm
  exact k v F H (r9.here he.fh (r F))
theorem c7{i j pos}:EE X (.Constant (.int i) j pos) (mC (.int i)):=a1r b9i fun _=>rfl
theorem a3b{b j pos}:EE X (.Constant (.bool b) j pos) (mC (.bool b)):=a1r c0s fun _=>rfl
theorem U6{j pos}:EE X (.Constant .none j pos) (mC .none):=a1r b9k fun _=>rfl
theorem g8{x j pos}:EE X (.Constant (.str x) j pos) (mC (.str x)):=a1r b9n fun _=>rfl
theorem a6(i:Nat){x:Str}{pos:Pos}(h:PE X (.Name x pos) (a4n i)):EE X (.Name x pos) (a7 i):=
 u6 h fun σ H Q h0=>t6 h0 fun F ρ r he hm k=>by
  unfold a7 at hm
  split at hm
  ·rename_i ps e
   cases hm
   obtain⟨v,e1,rr⟩:=he.at_ i _ e
   exact⟨v,e1,k v F H ⟨W6.refl he.fh,rr,fun _ _ z=>nomatch z⟩⟩
  ·rename_i r' nn e
   cases hm
   obtain⟨v,e1,rr⟩:=he.at_ i _ e
   exact⟨v,e1,k v F H ⟨W6.refl he.fh,rr,fun ps _ z=>absurd z (nn ps)⟩⟩
  ·cases hm
def rM2(K:AE)(g:d0->d0->Option d0):R2:=fun x y H Q=>∃F rx ry rz,j5 F H/\N2 K F H x rx/\N2 K F H y ry/\g rx ry=some rz/\∀v F' H',r9 K F H F' H' v rz->Q v H'
abbrev OpM(X:Cx)(f:AA->AA->Sem AA)(g:d0->d0->Option d0):Prop:=OpR X f (rM2 X.K g)
def m2(g:d0->d0->Option d0)(ma mb:M):M:=fun ρ=>(ma ρ).bind fun x=>(mb ρ).bind fun y=>g x y
theorem bind_some{α β:Type}{o:Option α}{f:α->Option β}{b:β}(h:o.bind f=some b):∃a,o=some a/\f a=some b:=by
 cases o with
 |none=>cases h
 |some a=>exact⟨a,rfl,h⟩
theorem a9a{K:AE}{g:d0->d0->Option d0}{σ:L2.St}{H:Hp}{Q:VK}(h:tM K (m2 g ma mb) σ H Q):tOp (rM2 K g) (tM K ma) (tM K mb) σ H Q:=by
 obtain⟨F,ρ,r,he,hm,k⟩:=h
 obtain⟨rx,e1,hm⟩:=bind_some hm
 obtain⟨ry,e2,hm⟩:=bind_some hm
 exact⟨F,ρ,rx,he,e1,fun v F1 H1 o1=>⟨F1,ρ,ry,he.ext o1.x,e2,fun u F2 H2 o2=>⟨F2,rx,ry,r,o2.x.fh,o1.rep.ext o2.x,o2.rep,hm,fun z F3 H3 o3=>k z F3 H3 (r9.trans (o1.x.trans o2.x) o3)⟩⟩⟩
theorem d8{op:Operator}{g:d0->d0->Option d0}(ho:OpM X (binaryOp op) g)(ha:EE X a ma)(hb:EE X b mb):EE X (.BinOp a op b pos) (m2 g ma mb):=
 u6 (c0u ho ha hb) fun _ _ _ h=>a9a h
theorem a3U{op:CmpOp}{g:d0->d0->Option d0}(ho:OpM X (compareOp op) g)(ha:EE X a ma)(hb:EE X b mb)(hm:behindInMarks op b=false):EE X (.Compare a [op] [b] pos) (m2 g ma mb):=
 u6 (b64 ho ha hb hm) fun _ _ _ h=>a9a h
theorem a4d{f:AA->AA->Sem AA}{r:R2}{g:d0->d0->Option d0}(h:OpR X f r)
 (i:∀F H x y rx ry rz,j5 F H->N2 X.K F H x rx->N2 X.K F H y ry->g rx ry=some rz->∀Q:VK,(∀v F' H',r9 X.K F H F' H' v rz->Q v H')->r x y H Q):OpM X f g:=
 fun pins s σ H x y v u Q I rx ry ⟨F,ra,rb,rz,s0,h1,h2,h3,k⟩=>h pins s σ H x y v u Q I rx ry (i F H x y ra rb rz s0 h1 h2 h3 Q k)
end
def gI(f:Int->Int->PV):d0->d0->Option d0
 | .val (.int i),.val (.int j)=>some (.val (f i j))
 |_,_=>none
theorem b42:∃f:(Int->Int->Prop)->Int->Int->Bool,∀C i j,f C i j=true↔C i j:=⟨fun C i j=> @decide (C i j) (Classical.propDecidable _),fun C i j=> @decide_eq_true_iff (C i j) (Classical.propDecidable _)⟩
def okC:(Int->Int->Prop)->Int->Int->Bool:=b42.choose
theorem a18{C:Int->Int->Prop}{i j:Int}:okC C i j=true↔C i j:=b42.choose_spec C i j
def M5(C:Int->Int->Prop)[∀i j,Decidable (C i j)](f:Int->Int->PV):d0->d0->Option d0
 | .val (.int i),.val (.int j)=>if okC C i j=true then some (.val (f i j)) else none
 |_,_=>none
theorem b1X{f:Int->Int->PV}{rx ry rz:d0}(h:gI f rx ry=some rz):∃i j,rx= .val (.int i)/\ry= .val (.int j)/\rz= .val (f i j):=by
 unfold gI at h
 split at h
 ·cases h;exact⟨_,_,rfl,rfl,rfl⟩
 ·cases h
theorem b4s{C:Int->Int->Prop}[∀i j,Decidable (C i j)]{f:Int->Int->PV}{rx ry rz:d0}(h:M5 C f rx ry=some rz):∃i j,rx= .val (.int i)/\ry= .val (.int j)/\C i j/\rz= .val (f i j):=by
 unfold M5 at h
 split at h
 ·split at h
  ·rename_i c;cases h;exact⟨_,_,rfl,rfl,a18.mp c,rfl⟩
  ·cases h
 ·cases h
section
variable {X:Cx}
theorem b7T{f:AA->AA->Sem AA}{g:Int->Int->V}{g':Int->Int->PV}(h:OpR X f (rI0 g))(e:∀i j H,B5 X.K H (g' i j) (g i j)):OpM X f (gI g'):=
 a4d h fun F H x y rx ry rz s h1 h2 h3 Q k=>by
  obtain⟨i,j,rfl,rfl,rfl⟩:=b1X h3
  exact⟨i,j,h1,h2,k _ F H (r9.here s (e i j F))⟩
theorem a6k{f:AA->AA->Sem AA}{C:Int->Int->Prop}[∀i j,Decidable (C i j)]{g:Int->Int->V}{g':Int->Int->PV}(h:OpR X f (rI C g))(e:∀i j H,B5 X.K H (g' i j) (g i j)):OpM X f (M5 C g'):=
 a4d h fun F H x y rx ry rz s h1 h2 h3 Q k=>by
  obtain⟨i,j,rfl,rfl,c,rfl⟩:=b4s h3
  exact⟨i,j,h1,h2,c,k _ F H (r9.here s (e i j F))⟩
end
mutual
def i9:PV->Nat->Bool
 | .list xs,n+1=>u4 xs n
 | .tuple xs,n+1=>u4 xs n
 | .list _,0=>false
 | .tuple _,0=>false
 | .dict _,_=>false
 | .none,_=>true
 | .bool _,_=>true
 | .int _,_=>true
 | .str _,_=>true
def u4:List PV->Nat->Bool
 |[],_=>true
 |x::xs,n=>i9 x n && u4 xs n
end
section
variable {X:Cx}{pins:List (AB×Obj)}{σ:L2.St}{H:Hp}{s:AC}
theorem a4Q(I:e9 X pins σ H s){a:AB}{xs ys:List V}(h:Z3 X.K H a xs)(h':SqT X.K H a ys):False:=by
 obtain⟨its,r,p,_⟩:=I.list h
 obtain⟨its',r',p',_⟩:=I.tuple h'
 exact SeqAt.ne_of_list_tuple p.isList (show s.heap.IsTuple a its'.toArray from p') rfl
theorem b7C(I:e9 X pins σ H s){x:Str}{v:V}(h:b76 X.K H x v):∃(a C:AB) (o:Obj) (vs:Array AA),v= .ref a/\s.heap.get? a=some o/\o.cls= .ref C/\o.data= .fields vs/\K3 X.K x C/\o.dict=none:=by
 obtain⟨a,C,φ,e,q,k,n⟩:=h
 obtain⟨oe,vs,h1,h2,h3,h4⟩:=k _ (I.hok a _ q).1
 exact⟨a,C,oe,vs,e,h1,h2,h3,n,h4⟩
theorem b6T{K:AE}{F:Hp}{k p:PV}{r:List (PV×PV)}{y:Str}{m v:V}{fs:List (Str×V)}(h:a9m K F y m fs v)(hr:a2x K F ((k,p)::r) ((y,m)::fs)):k= .str y/\(p= .bool false\/p= .int 0)/\a2x K F r fs:=by
 obtain⟨f,w,t,e,z,q,hr⟩:=hr
 cases e
 refine⟨z, ?_,hr⟩
 rcases h with⟨rfl,_⟩|⟨rfl,_⟩
 ·cases p with
  |bool b=>cases q;exact .inl rfl
  |tuple _=>obtain⟨_,_,e,_⟩:=q;cases e
  |list _=>obtain⟨_,_,e,_⟩:=q;cases e
  |dict _=>
   rcases q with⟨_,_,e,_⟩|⟨_,_,e,_⟩|⟨_,_,_,q⟩|⟨_,_,_,q,_⟩
   ·cases e
   ·cases e
   ·obtain⟨_,e⟩:=q.ref;cases e
   ·obtain⟨_,e⟩:=q.ref;cases e
  |_=>cases q
 ·cases p with
  |int b=>cases q;exact .inr rfl
  |tuple _=>obtain⟨_,_,e,_⟩:=q;cases e
  |list _=>obtain⟨_,_,e,_⟩:=q;cases e
  |dict _=>
   rcases q with⟨_,_,e,_⟩|⟨_,_,e,_⟩|⟨_,_,_,q⟩|⟨_,_,_,q,_⟩
   ·cases e
   ·cases e
   ·obtain⟨_,e⟩:=q.ref;cases e
   ·obtain⟨_,e⟩:=q.ref;cases e
  |_=>cases q
mutual
theorem B5.inj(I:e9 X pins σ H s):∀(p q:PV) {v:V} {n m:Nat},i9 p n=true->i9 q m=true->B5 X.K H p v->B5 X.K H q v->p=q
 | .tuple ps,q,v,n,m,hp,hq,⟨a,xs,e,h,r⟩,h'=>by
   subst e
   cases q with
   |tuple qs=>
    obtain⟨a',xs',e',h',r'⟩:=h'
    cases e'
    cases I.tuple_inj h.sq h'.sq
    cases n<;>cases m<;>simp only [i9,Ay] at hp hq
    rw [j4.inj I ps qs hp hq r r']
   |list qs=>obtain⟨a',xs',e',h',r'⟩:=h';cases e';exact(a4Q I h' h.sq).elim
   |dict qs=>simp [i9] at hq
   |_=>cases h'
 | .list ps,q,v,n,m,hp,hq,⟨a,xs,e,h,r⟩,h'=>by
   subst e
   cases q with
   |list qs=>
    obtain⟨a',xs',e',h',r'⟩:=h'
    cases e'
    cases I.list_inj h h'
    cases n<;>cases m<;>simp only [i9,Ay] at hp hq
    rw [j4.inj I ps qs hp hq r r']
   |tuple qs=>obtain⟨a',xs',e',h',r'⟩:=h';cases e';exact(a4Q I h h'.sq).elim
   |dict qs=>simp [i9] at hq
   |_=>cases h'
 | .dict _,_,_,_,_,hp,_,_,_=>by simp [i9] at hp
 | .none,q,v,n,m,hp,hq,h,h'| .bool _,q,v,n,m,hp,hq,h,h'| .int _,q,v,n,m,hp,hq,h,h'| .str _,q,v,n,m,hp,hq,h,h'=>by
   cases h
   cases q with
   |tuple _=>obtain⟨_,_,e,_⟩:=h';cases e
   |list _=>obtain⟨_,_,e,_⟩:=h';cases e
   |dict _=>simp [i9] at hq
   |_=>cases h'<;>rfl
theorem j4.inj(I:e9 X pins σ H s):∀(ps qs:List PV) {vs:List V} {n m:Nat},u4 ps n=true->u4 qs m=true->j4 X.K H ps vs->j4 X.K H qs vs->ps=qs
 |[],qs,vs,n,m,_,_,h,h'=>by
  cases h
  cases qs with
  |nil=>rfl
  |cons q qs=>obtain⟨_,_,e,_⟩:=h';cases e
 |p::ps,qs,vs,n,m,hp,hq,⟨v,r,e,h,t⟩,h'=>by
  subst e
  cases qs with
  |nil=>cases h'
  |cons q qs=>
   obtain⟨v',r',e',h',t'⟩:=h'
   cases e'
   simp only [u4,Bool.and_eq_true] at hp hq
   rw [B5.inj I p q hp.1 hq.1 h h',j4.inj I ps qs hp.2 hq.2 t t']
end
end
mutual
theorem a5H:∀(p:PV) (n:Nat),i9 p n=true->PyData.eqv p p=true
 | .none,_,_=>by simp [PyData.eqv]
 | .bool _,_,_=>by simp [PyData.eqv]
 | .int _,_,_=>by simp [PyData.eqv]
 | .str _,_,_=>by simp [PyData.eqv]
 | .list xs,n+1,h=>by simp only [PyData.eqv];exact a0b xs n (by simpa [i9] using h)
 | .tuple xs,n+1,h=>by simp only [PyData.eqv];exact a0b xs n (by simpa [i9] using h)
 | .list xs,0,h=>by simp [i9] at h
 | .tuple xs,0,h=>by simp [i9] at h
 | .dict _,_,h=>by simp [i9] at h
theorem a0b:∀(ps:List PV) (n:Nat),u4 ps n=true->PyData.eqvAll ps ps=true
 |[],_,_=>by simp [PyData.eqvAll]
 |x::xs,n,h=>by
  have h':i9 x n=true/\u4 xs n=true:=by simpa [u4] using h
  simp only [PyData.eqvAll,a5H x n h'.1,a0b xs n h'.2,Bool.and_self]
end
def eAt(ps qs:List PV)(j:Nat):Bool:=match ps[j]?,qs[j]? with
 |some p,some q=>PyData.eqv p q
 |_,_=>false
theorem S5:∀(ps qs:List PV),PyData.eqvAll ps qs=((AR (min ps.length qs.length)).all (eAt ps qs)&& ps.length==qs.length)
 |[],[]=>by simp [PyData.eqvAll]
 |[],_::_=>by simp [PyData.eqvAll]
 |_::_,[]=>by simp [PyData.eqvAll]
 |p::ps,q::qs=>by
  have e:min (p::ps).length (q::qs).length=min ps.length qs.length+1:=by simp only [AT];lia
  rw [e,List.range_succ_eq_map,List.all_cons,List.all_map]
  have h0:eAt (p::ps) (q::qs) 0=PyData.eqv p q:=rfl
  have h1:(eAt (p::ps) (q::qs)∘Nat.succ)=eAt ps qs:=by funext j;simp [eAt,Function.comp]
  rw [h0,h1]
  simp only [PyData.eqvAll,S5 ps qs,AT,Bool.and_assoc]
  have e2:(ps.length+1==qs.length+1)=(ps.length==qs.length):=by
   rw [Bool.eq_iff_iff];simp
  rw [e2]
section
variable {X:Cx}{pins:List (AB×Obj)}{σ:L2.St}{H:Hp}{s:AC}
structure b3H(A:AM)(s:AC)(u w:AA)(b:Bool):Prop where
 rc:SeqAt.RcAt A s u w b
 ne:SeqAt.RcNeAt A s u w (!b)
 eq:SeqAt.EqAt A s u w b
theorem a16(A:AM):A.in1.units=A.units+1:=rfl
theorem a2c{xs:List V}{its:List AA}{j:Nat}(r:l9 xs its)(h:j<its.length):∃x,xs[j]?=some x/\l8 x its[j]:=by
 have hx:j<xs.length:=by rw [r.length];exact h
 obtain⟨u,h1,h2⟩:=r.get (i:=j) (x:=xs[j]) (by simp [hx])
 rw [Az h] at h1
 cases h1
 exact⟨xs[j],by simp [hx],h2⟩
theorem a6I{A:AM}{ps qs:List PV}{xs ys:List V}{its its2:List AA}(r:j4 X.K H ps xs)(r':j4 X.K H qs ys)(rv:l9 xs its)(rv':l9 ys its2)
 (ih:∀p q x y u w,p∈ps->q∈qs->B5 X.K H p x->B5 X.K H q y->l8 x u->l8 y w->b3H A s u w (PyData.eqv p q)):
 ∀j (h1:j<its.toArray.size) (h2:j<its2.toArray.size),SeqAt.EqAt A s its.toArray[j] its2.toArray[j] (eAt ps qs j):=by
 intro j h1 h2
 have h1':j<its.length:=by simpa using h1
 have h2':j<its2.length:=by simpa using h2
 obtain⟨x,ex,rx⟩:=a2c rv h1'
 obtain⟨y,ey,ry⟩:=a2c rv' h2'
 obtain⟨p,ep,hp⟩:=r.getV ex
 obtain⟨q,eq,hq⟩:=r'.getV ey
 have:eAt ps qs j=PyData.eqv p q:=by simp [eAt,ep,eq]
 rw [this]
 have z:=(ih p q x y _ _ (BC ep) (BC eq) hp hq rx ry).eq
 simpa using z
theorem u9:∀{ps:List PV} {n:Nat} {p:PV},u4 ps n=true->p∈ps->i9 p n=true
 |[],_,_,_,h=>by cases h
 |x::xs,n,p,h,hp=>by
  have h':i9 x n=true/\u4 xs n=true:=by simpa [u4] using h
  rcases Ag.mp hp with rfl|hp
  ·exact h'.1
  ·exact u9 h'.2 hp
theorem a8j(I:e9 X pins σ H s):∀(n:Nat) (A:AM) (p q:PV) (x y:V) (u w:AA),A.units+n<cLine->i9 p n=true->i9 q n=true->B5 X.K H p x->B5 X.K H q y->l8 x u->l8 y w->b3H A s u w (PyData.eqv p q):=by
 intro n
 induction n with
 |zero=>
  intro A p q x y u w hu hp hq rp rq rx ry
  cases p with
  |none=>
   cases rp;cases rx
   cases q with
   |none=>cases rq;cases ry;simp only [PyData.eqv];exact⟨.none_none,.none_none,.same _⟩
   |bool j=>cases rq;cases ry;simp only [PyData.eqv];exact⟨.none_bool _,.none_bool _,.none_bool _⟩
   |int j=>cases rq;obtain⟨ty,rfl⟩:=ry;simp only [PyData.eqv];exact⟨.none_int _ _,.none_int _ _,.none_int _ _⟩
   |str j=>cases rq;obtain⟨ty,rfl⟩:=ry;simp only [PyData.eqv];exact⟨.none_str _ _,.none_str _ _,.none_str _ _⟩
   |dict _=>simp [i9] at hq
   |list _=>simp [i9] at hq
   |tuple _=>simp [i9] at hq
  |bool i=>
   cases rp;cases rx
   cases q with
   |none=>cases rq;cases ry;simp only [PyData.eqv];exact⟨.bool_none _,.bool_none _,.bool_none _⟩
   |bool j=>cases rq;cases ry;simp only [PyData.eqv];exact⟨.bool_bool _ _,.bool_bool _ _,.bool_bool _ _⟩
   |int j=>cases rq;obtain⟨ty,rfl⟩:=ry;simp only [PyData.eqv];exact⟨.bool_int _ _ _,.bool_int _ _ _,.bool_int _ _ _⟩
   |str j=>cases rq;obtain⟨ty,rfl⟩:=ry;simp only [PyData.eqv];exact⟨.bool_str _ _ _,.bool_str _ _ _,.bool_str _ _ _⟩
   |dict _=>simp [i9] at hq
   |list _=>simp [i9] at hq
   |tuple _=>simp [i9] at hq
  |int i=>
   cases rp;obtain⟨tx,rfl⟩:=rx
   cases q with
   |none=>cases rq;cases ry;simp only [PyData.eqv];exact⟨.int_none _ _,.int_none _ _,.int_none _ _⟩
   |bool j=>cases rq;cases ry;simp only [PyData.eqv];exact⟨.int_bool _ _ _,.int_bool _ _ _,.int_bool _ _ _⟩
   |int j=>cases rq;obtain⟨ty,rfl⟩:=ry;simp only [PyData.eqv];exact⟨.int_int _ _ _ _,.int_int _ _ _ _,.int_int _ _ _ _⟩
   |str j=>cases rq;obtain⟨ty,rfl⟩:=ry;simp only [PyData.eqv];exact⟨.int_str _ _ _ _,.int_str _ _ _ _,.int_str _ _ _ _⟩
   |dict _=>simp [i9] at hq
   |list _=>simp [i9] at hq
   |tuple _=>simp [i9] at hq
  |str i=>
   cases rp;obtain⟨tx,rfl⟩:=rx
   cases q with
   |none=>cases rq;cases ry;simp only [PyData.eqv];exact⟨.str_none _ _,.str_none _ _,.str_none _ _⟩
   |bool j=>cases rq;cases ry;simp only [PyData.eqv];exact⟨.str_bool _ _ _,.str_bool _ _ _,.str_bool _ _ _⟩
   |int j=>cases rq;obtain⟨ty,rfl⟩:=ry;simp only [PyData.eqv];exact⟨.str_int _ _ _ _,.str_int _ _ _ _,.str_int _ _ _ _⟩
   |str j=>cases rq;obtain⟨ty,rfl⟩:=ry;simp only [PyData.eqv];exact⟨.str_str _ _ _ _,.str_str _ _ _ _,.str_str _ _ _ _⟩
   |dict _=>simp [i9] at hq
   |list _=>simp [i9] at hq
   |tuple _=>simp [i9] at hq
  |dict _=>simp [i9] at hp
  |list _=>simp [i9] at hp
  |tuple _=>simp [i9] at hp
 |succ n ih=>
  intro A p q x y u w hu hp hq rp rq rx ry
  have hu0:A.units<cLine:=by lia
  have hu1:A.in1.units+n<cLine:=by rw [a16];lia
  cases p with
  |dict _=>simp [i9] at hp
  |list ps=>
   obtain⟨a,xs,rfl,hs,r⟩:=rp
   cases rx
   obtain⟨its,rv,pl,hz⟩:=I.list hs
   have okp:u4 ps n=true:=by simpa [i9] using hp
   cases q with
   |dict _=>simp [i9] at hq
   |list qs=>
    obtain⟨b,ys,rfl,hs',r'⟩:=rq
    cases ry
    obtain⟨its2,rv',pl',hz'⟩:=I.list hs'
    have okq:u4 qs n=true:=by simpa [i9] using hq
    have hle:its.toArray.size=ps.length:=by rw [<-r.length,rv.length];simp
    have hle':its2.toArray.size=qs.length:=by rw [<-r'.length,rv'.length];simp
    have he:=a6I (A:=A.in1) (s:=s) r r' rv rv' fun p q x y u w hp' hq' rp' rq' rx' ry'=>ih A.in1 p q x y u w hu1 (u9 okp hp') (u9 okq hq') rp' rq' rx' ry'
    simp only [PyData.eqv]
    have main:SeqAt.RcAt A s (.ref a) (.ref b) (PyData.eqvAll ps qs)/\SeqAt.RcNeAt A s (.ref a) (.ref b) (!PyData.eqvAll ps qs):=by
     by_cases e:its.toArray.size=its2.toArray.size
     ·have el:ps.length=qs.length:=by rw [<-hle,<-hle',e]
      have e3:PyData.eqvAll ps qs=(AR its.toArray.size).all (eAt ps qs):=by
       rw [S5,el,Nat.min_self,hle,el];simp
      rw [e3]
      exact⟨.lists pl.isList pl'.isList e hu0 he,.lists pl.isList pl'.isList e hu0 he⟩
     ·have e3:PyData.eqvAll ps qs=false:=by
       rw [S5]
       have:(ps.length==qs.length)=false:=by
        rw [beq_eq_false_iff_ne];intro z;exact e (by rw [hle,hle',z])
       rw [this,Bool.and_false]
      have e4:(its.toArray.size !=its2.toArray.size)=true:=by simpa using e
      rw [e3]
      exact⟨.lists_lengths pl.isList pl'.isList e4 hu0,.lists_lengths pl.isList pl'.isList e4 hu0⟩
    refine⟨main.1,main.2, ?_⟩
    by_cases hab:a=b
    ·subst hab
     cases I.list_inj hs hs'
     cases j4.inj I ps qs okp okq r r'
     rw [a0b ps n okp]
     exact .same _
    ·exact .of_refs hab main.1
   |tuple qs=>
    obtain⟨b,ys,rfl,hs',r'⟩:=rq
    cases ry
    obtain⟨its2,rv',pl',hz'⟩:=I.tuple hs'.sq
    simp only [PyData.eqv]
    exact⟨.list_tuple pl.isList pl' hu0,.list_tuple pl.isList pl' hu0,.list_tuple pl.isList pl' hu0⟩
   |none=>cases rq;cases ry;simp only [PyData.eqv];exact⟨.list_none pl.isList hu0,.list_none pl.isList hu0,.list_none pl.isList hu0⟩
   |bool k=>cases rq;cases ry;simp only [PyData.eqv];exact⟨.list_bool _ pl.isList hu0,.list_bool _ pl.isList hu0,.list_bool _ pl.isList hu0⟩
   |int k=>cases rq;obtain⟨t,rfl⟩:=ry;simp only [PyData.eqv];exact⟨.list_int _ _ pl.isList hu0,.list_int _ _ pl.isList hu0,.list_int _ _ pl.isList hu0⟩
   |str k=>cases rq;obtain⟨t,rfl⟩:=ry;simp only [PyData.eqv];exact⟨.list_str _ _ pl.isList hu0,.list_str _ _ pl.isList hu0,.list_str _ _ pl.isList hu0⟩
  |tuple ps=>
   obtain⟨a,xs,rfl,hs,r⟩:=rp
   cases rx
   obtain⟨its,rv,pl,hz⟩:=I.tuple hs.sq
   have okp:u4 ps n=true:=by simpa [i9] using hp
   cases q with
   |dict _=>simp [i9] at hq
   |tuple qs=>
    obtain⟨b,ys,rfl,hs',r'⟩:=rq
    cases ry
    obtain⟨its2,rv',pl',hz'⟩:=I.tuple hs'.sq
    have okq:u4 qs n=true:=by simpa [i9] using hq
    have hle:its.toArray.size=ps.length:=by rw [<-r.length,rv.length];simp
    have hle':its2.toArray.size=qs.length:=by rw [<-r'.length,rv'.length];simp
    have he:=a6I (A:=A.in1) (s:=s) r r' rv rv' fun p q x y u w hp' hq' rp' rq' rx' ry'=>ih A.in1 p q x y u w hu1 (u9 okp hp') (u9 okq hq') rp' rq' rx' ry'
    simp only [PyData.eqv]
    have e3:PyData.eqvAll ps qs=((AR (min its.toArray.size its2.toArray.size)).all (eAt ps qs)&& its.toArray.size==its2.toArray.size):=by
     rw [S5,hle,hle']
    have main:SeqAt.RcAt A s (.ref a) (.ref b) (PyData.eqvAll ps qs)/\SeqAt.RcNeAt A s (.ref a) (.ref b) (!PyData.eqvAll ps qs):=by
     rw [e3]
     exact⟨.tuples pl pl' hu0 he,.tuples pl pl' hu0 he⟩
    refine⟨main.1,main.2, ?_⟩
    by_cases hab:a=b
    ·subst hab
     cases I.tuple_inj hs.sq hs'.sq
     cases j4.inj I ps qs okp okq r r'
     rw [a0b ps n okp]
     exact .same _
    ·exact .of_refs hab main.1
   |list qs=>
    obtain⟨b,ys,rfl,hs',r'⟩:=rq
    cases ry
    obtain⟨its2,rv',pl',hz'⟩:=I.list hs'
    simp only [PyData.eqv]
    exact⟨.tuple_list pl pl'.isList hu0,.tuple_list pl pl'.isList hu0,.tuple_list pl pl'.isList hu0⟩
   |none=>cases rq;cases ry;simp only [PyData.eqv];exact⟨.tuple_none pl hu0,.tuple_none pl hu0,.tuple_none pl hu0⟩
   |bool k=>cases rq;cases ry;simp only [PyData.eqv];exact⟨.tuple_bool _ pl hu0,.tuple_bool _ pl hu0,.tuple_bool _ pl hu0⟩
   |int k=>cases rq;obtain⟨t,rfl⟩:=ry;simp only [PyData.eqv];exact⟨.tuple_int _ _ pl hu0,.tuple_int _ _ pl hu0,.tuple_int _ _ pl hu0⟩
   |str k=>cases rq;obtain⟨t,rfl⟩:=ry;simp only [PyData.eqv];exact⟨.tuple_str _ _ pl hu0,.tuple_str _ _ pl hu0,.tuple_str _ _ pl hu0⟩
  |none=>
   cases q with
   |list qs=>
    obtain⟨b,ys,rfl,hs',r'⟩:=rq;cases ry;obtain⟨its2,rv',pl',hz'⟩:=I.list hs';cases rp;cases rx;simp only [PyData.eqv]
    exact⟨.none_list pl'.isList hu0,.none_list pl'.isList hu0,.none_list pl'.isList hu0⟩
   |tuple qs=>
    obtain⟨b,ys,rfl,hs',r'⟩:=rq;cases ry;obtain⟨its2,rv',pl',hz'⟩:=I.tuple hs'.sq;cases rp;cases rx;simp only [PyData.eqv]
    exact⟨.none_tuple pl' hu0,.none_tuple pl' hu0,.none_tuple pl' hu0⟩
   |dict _=>simp [i9] at hq
   |_=>exact ih A _ _ x y u w (by lia) (by simp [i9]) (by simp [i9]) rp rq rx ry
  |bool k=>
   cases q with
   |list qs=>
    obtain⟨b,ys,rfl,hs',r'⟩:=rq;cases ry;obtain⟨its2,rv',pl',hz'⟩:=I.list hs';cases rp;cases rx;simp only [PyData.eqv]
    exact⟨.bool_list _ pl'.isList hu0,.bool_list _ pl'.isList hu0,.bool_list _ pl'.isList hu0⟩
   |tuple qs=>
    obtain⟨b,ys,rfl,hs',r'⟩:=rq;cases ry;obtain⟨its2,rv',pl',hz'⟩:=I.tuple hs'.sq;cases rp;cases rx;simp only [PyData.eqv]
    exact⟨.bool_tuple _ pl' hu0,.bool_tuple _ pl' hu0,.bool_tuple _ pl' hu0⟩
   |dict _=>simp [i9] at hq
   |_=>exact ih A _ _ x y u w (by lia) (by simp [i9]) (by simp [i9]) rp rq rx ry
  |int k=>
   cases q with
   |list qs=>
    obtain⟨b,ys,rfl,hs',r'⟩:=rq;cases ry;obtain⟨its2,rv',pl',hz'⟩:=I.list hs';cases rp;obtain⟨t,rfl⟩:=rx;simp only [PyData.eqv]
    exact⟨.int_list _ _ pl'.isList hu0,.int_list _ _ pl'.isList hu0,.int_list _ _ pl'.isList hu0⟩
   |tuple qs=>
    obtain⟨b,ys,rfl,hs',r'⟩:=rq;cases ry;obtain⟨its2,rv',pl',hz'⟩:=I.tuple hs'.sq;cases rp;obtain⟨t,rfl⟩:=rx;simp only [PyData.eqv]
    exact⟨.int_tuple _ _ pl' hu0,.int_tuple _ _ pl' hu0,.int_tuple _ _ pl' hu0⟩
   |dict _=>simp [i9] at hq
   |_=>exact ih A _ _ x y u w (by lia) (by simp [i9]) (by simp [i9]) rp rq rx ry
  |str k=>
   cases q with
   |list qs=>
    obtain⟨b,ys,rfl,hs',r'⟩:=rq;cases ry;obtain⟨its2,rv',pl',hz'⟩:=I.list hs';cases rp;obtain⟨t,rfl⟩:=rx;simp only [PyData.eqv]
    exact⟨.str_list _ _ pl'.isList hu0,.str_list _ _ pl'.isList hu0,.str_list _ _ pl'.isList hu0⟩
   |tuple qs=>
    obtain⟨b,ys,rfl,hs',r'⟩:=rq;cases ry;obtain⟨its2,rv',pl',hz'⟩:=I.tuple hs'.sq;cases rp;obtain⟨t,rfl⟩:=rx;simp only [PyData.eqv]
    exact⟨.str_tuple _ _ pl' hu0,.str_tuple _ _ pl' hu0,.str_tuple _ _ pl' hu0⟩
   |dict _=>simp [i9] at hq
   |_=>exact ih A _ _ x y u w (by lia) (by simp [i9]) (by simp [i9]) rp rq rx ry
end
end PU
set_option maxHeartbeats 1000000
namespace PU
open PySem PySem.Spec PyProof.Rows L2
instance (i j:Int):Decidable (a4X i j):=by unfold a4X;infer_instance
instance (i j:Int):Decidable (a02 i j):=by unfold a02;infer_instance
instance (i j:Int):Decidable (b2y i j):=by unfold b2y;infer_instance
def d0.mine:d0->Option (List PV)
 | .ow (.lst ps)=>some ps
 | .bo (.lst ps)=>some ps
 |_=>none
theorem a91{K:AE}{F H:Hp}{v:V}{r:d0}{ps:List PV}(h:N2 K F H v r)(e:r.mine=some ps):∃a xs,v= .ref a/\F a=none/\H a=some (.lst xs)/\j4 K F ps xs:=by
 cases r with
 |val _=>cases e
 |ow c=>cases c<;>cases e;exact h
 |bo c=>cases c<;>cases e;exact h
def E5(x y:d0):Option d0:=match x,y with
 | .val (.int i),.val (.int j)=>some (.val (.int (i+j)))
 | .val (.str i),.val (.str j)=>if i.length+j.length<=AO then some (.val (.str (i++j))) else none
 | .val (.tuple ps),.val (.tuple qs)=>if(ps.length≠0/\qs.length≠0)/\ps.length+qs.length<=AO then some (.val (.tuple (ps++qs))) else none
 |x,y=>match x.mine,y.mine with
  |some ps,some qs=>if ps.length+qs.length<=AO then some (.own (ps++qs)) else none
  |_,_=>none
section
variable {X:Cx}
theorem v6:OpM X (binaryOp .Add) E5:=by
 intro pins s σ H x y v u Q I rx ry h
 obtain⟨F,ra,rb,rz,s0,h1,h2,h3,k⟩:=h
 unfold E5 at h3
 split at h3
 ·cases h3
  cases h1;cases h2
  exact b86 pins s σ H _ _ v u Q I rx ry ⟨_,_,rfl,rfl,k _ F H (r9.here s0 rfl)⟩
 ·rename_i i j
  split at h3
  ·rename_i c
   cases h3
   cases h1;cases h2
   exact b1g pins s σ H _ _ v u Q I rx ry ⟨i,j,rfl,rfl,c,k _ F H (r9.here s0 rfl)⟩
  ·cases h3
 ·rename_i ps qs
  split at h3
  ·rename_i c
   cases h3
   obtain⟨a,xs,rfl,hq,r⟩:=h1
   obtain⟨b,ys,rfl,hq',r'⟩:=h2
   refine b6V pins s σ H _ _ v u Q I rx ry ⟨a,b,xs,ys,rfl,rfl,u8 s0 hq.sq,u8 s0 hq'.sq, ?_,by rw [r.length,r'.length];exact c.2, ?_⟩
   ·intro z
    subst z
    exact c.1.1 r.length.symm
   ·refine⟨fun z=> ?_,fun _ p hp=>k _ _ _ (r9.tup s0 hp (r.append r'))⟩
    subst z
    exact absurd r'.length.symm c.1.2
  ·cases h3
 ·split at h3
  ·rename_i ps qs e1 e2
   split at h3
   ·rename_i c
    cases h3
    obtain⟨a,xs,rfl,_,hq,r⟩:=a91 h1 e1
    obtain⟨b,ys,rfl,_,hq',r'⟩:=a91 h2 e2
    refine b87 pins s σ H _ _ v u Q I rx ry ⟨a,b,xs,ys,rfl,rfl,hq,hq',by rw [r.length,r'.length];exact c,fun p hp=> ?_⟩
    exact k _ _ _ (r9.lst s0 hp (r.append r'))
   ·cases h3
  ·cases h3
theorem a3u:OpM X (binaryOp .Sub) (gI fun i j=> .int (i - j)):=b7T b9c fun _ _ _=>rfl
theorem b6Z:OpM X (binaryOp .Mult) (M5 a4X fun i j=> .int (i*j)):=a6k b89 fun _ _ _=>rfl
theorem t7:OpM X (binaryOp .Mod) (M5 (fun _ j=>0<j) fun i j=> .int (i % j)):=a6k b88 fun _ _ _=>rfl
theorem M0:OpM X (binaryOp .FloorDiv) (M5 a02 fun i j=> .int (i / j)):=a6k b6W fun _ _ _=>rfl
theorem b60:OpM X (binaryOp .Pow) (M5 b2y fun i j=> .int (i ^ j.toNat)):=a6k b9a fun _ _ _=>rfl
theorem b9d:OpM X (compareOp .Gt) (gI fun i j=> .bool (decide (j<i))):=b7T c0n fun _ _ _=>rfl
def gEq(x y:d0):Option d0:=if i9 x.rd 50=true/\i9 y.rd 50=true then some (.val (.bool (PyData.eqv x.rd y.rd))) else none
def gNe(x y:d0):Option d0:=if i9 x.rd 50=true/\i9 y.rd 50=true then some (.val (.bool (!PyData.eqv x.rd y.rd))) else none
theorem a0L(hu:X.A.units+64<cLine):OpM X (compareOp .Eq) gEq:=by
 intro pins s σ H x y v u Q I rx ry h
 obtain⟨F,ra,rb,rz,s0,h1,h2,h3,k⟩:=h
 unfold gEq at h3
 split at h3
 ·rename_i c
  cases h3
  have z:=a8j I 50 X.A _ _ x y v u (by lia) c.1 c.2 (h1.rd s0) (h2.rd s0) rx ry
  exact z.rc _ _ _ _ ⟨.bl _,H,I,rfl,k _ F H (r9.here s0 rfl)⟩
 ·cases h3
theorem a2N(hu:X.A.units+64<cLine):OpM X (compareOp .NotEq) gNe:=by
 intro pins s σ H x y v u Q I rx ry h
 obtain⟨F,ra,rb,rz,s0,h1,h2,h3,k⟩:=h
 unfold gNe at h3
 split at h3
 ·rename_i c
  cases h3
  have z:=a8j I 50 X.A _ _ x y v u (by lia) c.1 c.2 (h1.rd s0) (h2.rd s0) rx ry
  exact z.ne _ _ _ _ ⟨.bl _,H,I,rfl,k _ F H (r9.here s0 rfl)⟩
 ·cases h3
open Classical in
def a03(K:AE)(H:Hp)(q:PV)(u:AA):Bool:=if h:∃p v,l8 v u/\B5 K H p v/\i9 p 50=true then PyData.eqv h.choose q else false
theorem a8f{pins:List (AB×Obj)}{σ:L2.St}{H:Hp}{s:AC}(I:e9 X pins σ H s){p q:PV}{v:V}{u:AA}(r:l8 v u)(h:B5 X.K H p v)(ok:i9 p 50=true):a03 X.K H q u=PyData.eqv p q:=by
 have hx:∃p v,l8 v u/\B5 X.K H p v/\i9 p 50=true:=⟨p,v,r,h,ok⟩
 unfold a03
 rw [dif_pos hx]
 obtain⟨v',r',h',o'⟩:=hx.choose_spec
 cases r.inj r'
 rw [B5.inj I _ _ o' ok h' h]
theorem a1d{pins:List (AB×Obj)}{σ:L2.St}{H:Hp}{s:AC}(I:e9 X pins σ H s){q:PV}:∀{ps:List PV} {xs:List V} {us:List AA},j4 X.K H ps xs->l9 xs us->u4 ps 50=true->us.any (a03 X.K H q)=ps.any fun p=>PyData.eqv p q
 |[],_,_,r,v,_=>by cases r;cases v;rfl
 |p::ps,_,_,⟨x,r,e,h,t⟩,v,ok=>by
  simp only [u4,Bool.and_eq_true] at ok
  subst e
  cases v with
  |cons a b=>rw [List.any_cons,List.any_cons,a8f I a h ok.1,a1d I t b ok.2]
theorem b2c{H:Hp}:∀{ps:List PV} {xs:List V} {us:List AA} {u:AA},j4 X.K H ps xs->l9 xs us->u∈us->∃p x,p∈ps/\l8 x u/\B5 X.K H p x
 |[],_,_,_,r,v,h=>by cases r;cases v;cases h
 |p::ps,_,_,u,⟨x,r,e,hp,t⟩,v,h=>by
  subst e
  cases v with
  |cons a b=>
   rcases Ag.mp h with rfl|h
   ·exact⟨p,x,Aq,a,hp⟩
   ·obtain⟨p',x',h1,h2,h3⟩:=b2c t b h
    exact⟨p',x',An _ h1,h2,h3⟩
def PyData.items?:PV->Option (List PV)
 | .list ps=>some ps
 | .tuple ps=>some ps
 |_=>none
def gIn(neg:Bool)(x y:d0):Option d0:=match PyData.items? y.rd with
 |some ps=>if i9 x.rd 50=true/\u4 ps 50=true then some (.val (.bool (if neg then !(ps.any fun p=>PyData.eqv p x.rd) else ps.any fun p=>PyData.eqv p x.rd))) else none
 |none=>none
theorem a1y{pins:List (AB×Obj)}{σ:L2.St}{H:Hp}{s:AC}(I:e9 X pins σ H s)(hu:X.A.units+64<cLine){q:PV}{ps:List PV}{x:V}{xs:List V}{v:AA}{us:List AA}(hq:i9 q 50=true)(hp:u4 ps 50=true)
 (rq:B5 X.K H q x) (rx:l8 x v) (r:j4 X.K H ps xs) (rv:l9 xs us):∀y,y∈us.toArray->SeqAt.EqAt X.A.in1 s y v (a03 X.K H q y):=by
 intro y hy
 have hy':y∈us:=by simpa using hy
 obtain⟨p,z,h1,h2,h3⟩:=b2c r rv hy'
 rw [a8f I h2 h3 (u9 hp h1)]
 exact(a8j I 50 X.A.in1 p q z x y v (by rw [a16];lia) (u9 hp h1) hq h3 rq h2 rx).eq
theorem A9{F H:Hp}{v:V}{r:d0}{ps:List PV}(s0:j5 F H)(h:N2 X.K F H v r)(e:PyData.items? r.rd=some ps):∃a xs,v= .ref a/\(Z3 X.K H a xs\/SqT X.K H a xs)/\j4 X.K F ps xs:=by
 cases r with
 |val p=>
  cases p with
  |list qs=>cases e;obtain⟨a,xs,rfl,hq,r⟩:=h;exact⟨a,xs,rfl,.inl (x9 s0 hq),r⟩
  |tuple qs=>cases e;obtain⟨a,xs,rfl,hq,r⟩:=h;exact⟨a,xs,rfl,.inr (u8 s0 hq.sq),r⟩
  |_=>cases e
 |ow c=>cases c<;>cases e;obtain⟨a,xs,rfl,_,hq,r⟩:=h;exact⟨a,xs,rfl,.inl (Z3.of hq),r⟩
 |bo c=>cases c<;>cases e;obtain⟨a,xs,rfl,_,hq,r⟩:=h;exact⟨a,xs,rfl,.inl (Z3.of hq),r⟩
theorem b9e(hu:X.A.units+64<cLine):OpM X (compareOp .In) (gIn false):=by
 intro pins s σ H x y v u Q I rx ry h
 obtain⟨F,ra,rb,rz,s0,h1,h2,h3,k⟩:=h
 unfold gIn at h3
 split at h3
 ·rename_i ps e
  split at h3
  ·rename_i c
   cases h3
   obtain⟨a,xs,rfl,hq,r⟩:=A9 s0 h2 e
   cases ry
   have rH:=j4.mono s0 _ r
   rcases hq with hq|hq
   ·obtain⟨its,rv,pl,hz⟩:=I.list hq
    refine SeqAt.in_listAt (a03 X.K H ra.rd) pl.isList (a1y I hu c.1 c.2 (h1.rd s0) rx rH rv) ⟨.bl _,H,I,rfl, ?_⟩
    rw [show its.toArray.any (a03 X.K H ra.rd)=its.any (a03 X.K H ra.rd) by simp,a1d I rH rv c.2]
    exact k _ F H (r9.here s0 rfl)
   ·obtain⟨its,rv,pl,hz⟩:=I.tuple hq
    refine SeqAt.in_tupleAt (a03 X.K H ra.rd) pl (a1y I hu c.1 c.2 (h1.rd s0) rx rH rv) ⟨.bl _,H,I,rfl, ?_⟩
    rw [show its.toArray.any (a03 X.K H ra.rd)=its.any (a03 X.K H ra.rd) by simp,a1d I rH rv c.2]
    exact k _ F H (r9.here s0 rfl)
  ·cases h3
 ·cases h3
theorem b3r(hu:X.A.units+64<cLine):OpM X (compareOp .NotIn) (gIn true):=by
 intro pins s σ H x y v u Q I rx ry h
 obtain⟨F,ra,rb,rz,s0,h1,h2,h3,k⟩:=h
 unfold gIn at h3
 split at h3
 ·rename_i ps e
  split at h3
  ·rename_i c
   cases h3
   obtain⟨a,xs,rfl,hq,r⟩:=A9 s0 h2 e
   cases ry
   have rH:=j4.mono s0 _ r
   rcases hq with hq|hq
   ·obtain⟨its,rv,pl,hz⟩:=I.list hq
    refine SeqAt.notIn_listAt (a03 X.K H ra.rd) pl.isList (a1y I hu c.1 c.2 (h1.rd s0) rx rH rv) ⟨.bl _,H,I,rfl, ?_⟩
    rw [show its.toArray.any (a03 X.K H ra.rd)=its.any (a03 X.K H ra.rd) by simp,a1d I rH rv c.2]
    exact k _ F H (r9.here s0 rfl)
   ·obtain⟨its,rv,pl,hz⟩:=I.tuple hq
    refine SeqAt.notIn_tupleAt (a03 X.K H ra.rd) pl (a1y I hu c.1 c.2 (h1.rd s0) rx rH rv) ⟨.bl _,H,I,rfl, ?_⟩
    rw [show its.toArray.any (a03 X.K H ra.rd)=its.any (a03 X.K H ra.rd) by simp,a1d I rH rv c.2]
    exact k _ F H (r9.here s0 rfl)
  ·cases h3
 ·cases h3
def b8z(neg:Bool)(x y:d0):Option d0:=match y with
 | .val .none=>(match x.rd with
   | .none=>some (.val (.bool (!neg)))
   |_=>some (.val (.bool neg)))
 |_=>none
def PyData.isNone:PV->Bool
 | .none=>true
 |_=>false
theorem b7e{K:AE}{H:Hp}{p:PV}{v:V}(h:B5 K H p v):decide (v=V.non)=PyData.isNone p:=by
 cases p with
 |none=>cases h;rfl
 |bool _=>cases h;rfl
 |int _=>cases h;rfl
 |str _=>cases h;rfl
 |list _=>obtain⟨_,_,rfl,_⟩:=h;rfl
 |tuple _=>obtain⟨_,_,rfl,_⟩:=h;rfl
 |dict _=>
  rcases h with⟨_,_,rfl,_⟩|⟨_,_,rfl,_⟩|⟨_,_,_,h⟩|⟨_,_,_,h,_⟩
  ·rfl
  ·rfl
  ·obtain⟨_,rfl⟩:=h.ref;rfl
  ·obtain⟨_,rfl⟩:=h.ref;rfl
theorem b49:OpM X (compareOp .IsNot) (b8z true):=
 a4d b6X fun F H x y rx ry rz s0 h1 h2 h3 Q k=>by
  unfold b8z at h3
  split at h3
  ·cases h2
   have e:=b7e (h1.rd s0)
   refine⟨rfl, ?_⟩
   rw [e]
   cases hp:rx.rd<;>rw [hp] at h3<;>cases h3<;>exact k _ F H (r9.here s0 rfl)
  ·cases h3
def a9Z(m:M):M:=fun ρ=>(m ρ).bind fun r=>match r with
 | .val (.int i)=>some (.val (.int (-i)))
 |_=>none
theorem a3V{a:AG}{ma:M}{pos:Pos}(ha:EE X a ma):EE X (.UnaryOp .USub a pos) (a9Z ma):=
 u6 (c0w b9N ha) fun σ H Q h0=>t6 h0 fun F ρ r he hm k=>by
  obtain⟨rx,e1,hm⟩:=bind_some hm
  refine⟨F,ρ,rx,he,e1,fun v F1 H1 o1=> ?_⟩
  split at hm
  ·cases hm
   exact⟨_,o1.rep,k _ F1 H1 (r9.trans o1.x (r9.here o1.x.fh rfl))⟩
  ·cases hm
def y6(x y:d0):Option d0:=match y with
 | .val (.int i)=>(match x.rd with
   | .str z=>if z.length<=AO then(atI z.cps.toList i).map fun c=> .val (.str ⟨#[c]⟩) else none
   |p=>match PyData.items? p with
    |some ps=>(atI ps i).map .val
    |none=>none)
 |_=>none
theorem j4.atI{K:AE}{H:Hp}{ps:List PV}{xs:List V}{i:Int}{p:PV}(r:j4 K H ps xs)(e:L2.atI ps i=some p):∃v,L2.atI xs i=some v/\B5 K H p v:=by
 unfold L2.atI at e ⊢
 rw [r.length]
 obtain⟨j,e1,e2⟩:=bind_some e
 rw [e1]
 exact r.get e2
theorem ixm:IxR X (rM2 X.K y6):=by
 intro value slice pins s σ H x y v u Q I rx ry h hs
 obtain⟨F,ra,rb,rz,s0,h1,h2,h3,k⟩:=h
 unfold y6 at h3
 split at h3
 ·rename_i i
  cases h2
  split at h3
  ·rename_i z ez
   split at h3
   ·rename_i c
    have rr:=h1.rd s0
    rw [ez] at rr
    cases rr
    cases ea:L2.atI z.cps.toList i with
    |none=>rw [ea] at h3;cases h3
    |some ch=>
     rw [ea] at h3;cases h3
     exact b8I value slice pins s σ H _ _ v u Q I rx ry ⟨z,i,ch,rfl,rfl,c,ea,k _ F H (r9.here s0 rfl)⟩ hs
   ·cases h3
  ·split at h3
   ·rename_i ps e
    cases ea:L2.atI ps i with
    |none=>rw [ea] at h3;cases h3
    |some p=>
     rw [ea] at h3;cases h3
     obtain⟨a,xs,rfl,hq,r⟩:=A9 s0 h1 e
     obtain⟨z,ez,rp⟩:=r.atI ea
     rcases hq with hq|hq
     ·exact b6x value slice pins s σ H _ _ v u Q I rx ry ⟨a,xs,i,z,rfl,rfl,hq,ez,k _ F H (r9.here s0 rp)⟩ hs
     ·exact b8J value slice pins s σ H _ _ v u Q I rx ry ⟨a,xs,i,z,rfl,rfl,hq,ez,k _ F H (r9.here s0 rp)⟩ hs
   ·cases h3
 ·cases h3
theorem m6{a b:AG}{ma mb:M}{pos:Pos}(ha:EE X a ma)(hb:EE X b mb)(hs:b1u b:=by intro _ _;rfl):EE X (.Subscript a b pos) (m2 y6 ma mb):=
 u6 (c0t ixm ha hb hs) fun _ _ _ h=>a9a h
abbrev MA:=a9->Option (List PV)
def tMA(K:AE)(m:MA):TA:=fun σ H Q=>∃F ρ ps,K2 K F H σ ρ/\m ρ=some ps/\∀vs F' H',W6 F H F' H'->j4 K F' ps vs->Q vs H'
abbrev EA(X:Cx)(es:List AG)(m:MA):Prop:=PA X es (tMA X.K m)
def b7:MA:=fun _=>some []
def a0(m:M)(r:MA):MA:=fun ρ=>((m ρ).bind d0.toVal).bind fun p=>(r ρ).bind fun ps=>some (p::ps)
theorem b8:EA X [] b7:=b5a O3 fun σ H Q h0=>t6 h0 fun F ρ ps he hm k=>by
 cases hm
 exact k [] F H (W6.refl he.fh) rfl
theorem a5{e:AG}{es:List AG}{m:M}{r:MA}(ha:EE X e m)(hr:EA X es r)(hs:AN (e::es) X.env=(false,eval e X.env)::AN es X.env:=by rfl):EA X (e::es) (a0 m r):=
 b5a (y3 ha hr hs) fun σ H Q h0=>t6 h0 fun F ρ ps he hm k=>by
  obtain⟨p,e1,hm⟩:=bind_some hm
  obtain⟨r1,e1,e2⟩:=bind_some e1
  obtain⟨qs,e3,hm⟩:=bind_some hm
  cases hm
  refine⟨F,ρ,r1,he,e1,fun v F1 H1 o1=> ?_⟩
  obtain⟨F2,o2⟩:=o1.toVal e2
  exact⟨F2,ρ,qs,he.ext o2.x,e3,fun vs F3 H3 x3 rl=>k _ F3 H3 (o2.x.trans x3) ⟨v,vs,rfl,B5.mono x3.f _ o2.rep,rl⟩⟩
def J3(m:MA):M:=fun ρ=>(m ρ).bind fun ps=>if ps.length<=AO then some (.val (.tuple ps)) else none
def B3(m:MA):M:=fun ρ=>(m ρ).bind fun ps=>if ps.length<=AO then some (.own ps) else none
theorem y4{es:List AG}{m:MA}{x1:Nat}{pos:Pos}(h:EA X es m):EE X (.Tuple es x1 pos) (J3 m):=
 u6 (b5f h) fun σ H Q h0=>t6 h0 fun F ρ r he hm k=>by
  obtain⟨ps,e1,hm⟩:=bind_some hm
  split at hm
  ·rename_i c
   cases hm
   exact⟨F,ρ,ps,he,e1,fun vs F1 H1 x rl=>⟨by rw [rl.length];exact c,fun p hp=>k _ _ _ (r9.trans x (r9.tup x.fh hp rl))⟩⟩
  ·cases hm
theorem n0{es:List AG}{m:MA}{pos:Pos}(h:EA X es m):EE X (.List es pos) (B3 m):=
 u6 (b9j h) fun σ H Q h0=>t6 h0 fun F ρ r he hm k=>by
  obtain⟨ps,e1,hm⟩:=bind_some hm
  split at hm
  ·rename_i c
   cases hm
   exact⟨F,ρ,ps,he,e1,fun vs F1 H1 x rl=>⟨by rw [rl.length];exact c,fun p hp=>k _ _ _ (r9.trans x (r9.lst x.fh hp rl))⟩⟩
  ·cases hm
def spP(K:AE)(n:Nat)(g:List PV->Option d0):Sp:=fun vs H Q _=>∃F ps r,j5 F H/\j4 K F ps vs/\ps.length=n/\g ps=some r/\∀v F' H',r9 K F H F' H' v r->Q v H'
def i6(g:List PV->Option d0)(m:MA):M:=fun ρ=>(m ρ).bind g
theorem b6e{k n:Nat}{f:AB}{fd:FuncData}{ps:List Str}{g:List PV->Option d0}{x:Str}{p pos:Pos}{e:AG}{es:List AG}{m:MA}
 (G:M4 X.prog X.w X.K X.mg X.base CX0 k f fd ps (spP X.K n g)) (hr:D3 k X.A) (hg:Gl X x) (hm:X.mg x=some (.ref f)) (hk:PySem.W.keepIn X.K (.ref f)=true) (hb:Z2 X.K fd ps []) (hn:∀ρ ps,m ρ=some ps->ps.length=n) (ha:EA X (e::es) m)
 (hdb:(x==("__debug__":Str))=false:=by decide) (he:AN (e::es) X.env=(false,eval e X.env)::AN es X.env:=by rfl) (hpl:(backTo pos (AN es X.env)).any (·.1)=false:=by rfl):
 EE X (.Call (.Name x p) (e::es) [] pos) (i6 g m):=
 u6 (b2k G hr hg hm hk hb .nil b7V ha hdb he hpl) fun σ H Q h0=>t6 h0 fun F ρ r he hm k=>by
  obtain⟨qs,e1,hm⟩:=bind_some hm
  refine⟨F,ρ,qs,he,e1,fun vs F1 H1 x rl=> ?_⟩
  show spP X.K n g (vs++[]) H1 Q E0
  rw [Ak]
  exact⟨F1,qs,r,x.fh,rl,hn _ _ e1,hm,fun v F2 H2 o=>k v F2 H2 (r9.trans x o)⟩
theorem d6:∀ρ ps,b7 ρ=some ps->ps.length=0:=fun _ _ h=>by cases h;rfl
theorem a8{m:M}{r:MA}{n:Nat}(h:∀ρ ps,r ρ=some ps->ps.length=n):∀ρ ps,a0 m r ρ=some ps->ps.length=n+1:=fun ρ ps e=>by
 obtain⟨p,e1,e⟩:=bind_some e
 obtain⟨qs,e3,e⟩:=bind_some e
 cases e
 rw [AT,h ρ qs e3]
end
mutual
def a0v(K:AE):Nat->AA->Option PV
 |0,_=>none
 |_+1,.none=>some .none
 |_+1,.bool b=>some (.bool b)
 |_+1,.int i _=>some (.int i)
 |_+1,.str x _=>some (.str x)
 |n+1,.ref a=>match K.lookup a with
  |some ⟨.type "tuple",_,.seq its _,_⟩=>if its.size<=1000 then(a20 K n its.toList).map .tuple else none
  |some ⟨.type "list",none,.seq its _,_⟩=>if its.size<=1000 then(a20 K n its.toList).map .list else none
  |_=>none
 |_+1,_=>none
def a20(K:AE):Nat->List AA->Option (List PV)
 |0,_=>none
 |_+1,[]=>some []
 |n+1,u::us=>(a0v K n u).bind fun p=>(a20 K n us).bind fun ps=>some (p::ps)
end
theorem a6B{n:Nat}(h:n<=1000):n<=AO:=BE (b3B h)
theorem a9p(K:AE):∀(n:Nat),(∀(u:AA) (p:PV),a0v K n u=some p->∃v,l8 v u/\∀H,B5 K H p v)/\(∀(us:List AA) (ps:List PV),a20 K n us=some ps->∃vs,l9 vs us/\∀H,j4 K H ps vs):=by
 intro n
 induction n with
 |zero=>exact⟨fun u p h=>by simp [a0v] at h,fun u p h=>by simp [a20] at h⟩
 |succ n ih=>
  constructor
  ·intro u p h
   cases u with
   |none=>simp only [a0v] at h;cases h;exact⟨.non,rfl,fun _=>rfl⟩
   |bool b=>simp only [a0v] at h;cases h;exact⟨.bl b,rfl,fun _=>rfl⟩
   |int i t=>simp only [a0v] at h;cases h;exact⟨.int i,⟨t,rfl⟩,fun _=>rfl⟩
   |str x t=>simp only [a0v] at h;cases h;exact⟨.str x,⟨t,rfl⟩,fun _=>rfl⟩
   |ref a=>
    simp only [a0v] at h
    split at h
    ·rename_i d its m sl e
     split at h
     ·rename_i c
      cases q:a20 K n its.toList with
      |none=>rw [q] at h;cases h
      |some ps=>
       rw [q] at h;cases h
       obtain⟨vs,h1,h2⟩:=ih.2 _ _ q
       exact⟨.ref a,rfl,fun H=>⟨a,vs,rfl,.inr ⟨_,its,m,e,rfl,rfl,a6B c,h1⟩,h2 H⟩⟩
     ·cases h
    ·rename_i its m sl e
     split at h
     ·rename_i c
      cases q:a20 K n its.toList with
      |none=>rw [q] at h;cases h
      |some ps=>
       rw [q] at h;cases h
       obtain⟨vs,h1,h2⟩:=ih.2 _ _ q
       exact⟨.ref a,rfl,fun H=>⟨a,vs,rfl,.inr ⟨_,its,m,e,rfl,rfl,rfl,a6B c,h1⟩,h2 H⟩⟩
     ·cases h
    ·cases h
   |_=>simp [a0v] at h
  ·intro us ps h
   cases us with
   |nil=>simp only [a20] at h;cases h;exact⟨[],.nil,fun _=>rfl⟩
   |cons u us=>
    simp only [a20] at h
    obtain⟨p,e1,h⟩:=bind_some h
    obtain⟨qs,e2,h⟩:=bind_some h
    cases h
    obtain⟨v,r1,r2⟩:=ih.1 _ _ e1
    obtain⟨vs,r3,r4⟩:=ih.2 _ _ e2
    exact⟨v::vs,.cons r1 r3,fun H=>⟨v,vs,rfl,r2 H,r4 H⟩⟩
section
variable {X:Cx}
theorem a5e{x:Str}{u:AA}{p:PV}{pos:Pos}{n:Nat}(hg:Gl X x)(hm:X.mg x=some u)(ha:a0v X.K n u=some p)(hd:(x==("__debug__":Str))=false:=by decide):EE X (.Name x pos) (mC p):=by
 obtain⟨v,r,h⟩:=(a9p X.K n).1 u p ha
 exact a1r (a5m hg hm r hd) h
def b14:PV->Option m3
 | .int i=>some (.inl i)
 | .str x=>some (.inr x)
 |_=>none
theorem a7q{K:AE}{H:Hp}{p:PV}{k:m3}{v:V}(e:b14 p=some k)(r:B5 K H p v):v=kV k:=by
 cases p with
 |int i=>cases e;cases r;rfl
 |str x=>cases e;cases r;rfl
 |_=>cases e
def a4E:List DictEntry->Option (List (m3×AA))
 |[]=>some []
 |e::es=>match e.key with
  | .int i _=>(a4E es).map fun r=>(.inl i,e.val)::r
  | .str x _=>(a4E es).map fun r=>(.inr x,e.val)::r
  |_=>none
theorem W9{P:AL}{w:AJ}:∀{es:List DictEntry} {kvs:List (m3×AA)},a4E es=some kvs->es.map (·.hash)=kvs.map (fun kv=>b25 w kv.1)->Pairs (l0 P w) es kvs/\∀e∈es,∃k,(l0 P w).is k e.key=true/\e.hash=(l0 P w).hash k
 |[],_,h,_=>by cases h;exact⟨.nil,fun _ h=>nomatch h⟩
 |e::es,kvs,h,hh=>by
  simp only [a4E] at h
  split at h
  ·rename_i i t ek
   cases q:a4E es with
   |none=>rw [q] at h;cases h
   |some r=>
    rw [q] at h;cases h
    simp only [AQ,List.cons.injEq] at hh
    obtain⟨h1,h2⟩:=W9 q hh.2
    have hi:(l0 P w).is (.inl i) e.key=true:=by rw [ek];exact a4M P w i t
    exact⟨.cons hi rfl h1,fun e' he=>(Ag.mp he).elim (fun z=>by subst z;exact⟨_,hi,hh.1⟩) (h2 e')⟩
  ·rename_i x t ek
   cases q:a4E es with
   |none=>rw [q] at h;cases h
   |some r=>
    rw [q] at h;cases h
    simp only [AQ,List.cons.injEq] at hh
    obtain⟨h1,h2⟩:=W9 q hh.2
    have hi:(l0 P w).is (.inr x) e.key=true:=by rw [ek];exact Q5 P w x t
    exact⟨.cons hi rfl h1,fun e' he=>(Ag.mp he).elim (fun z=>by subst z;exact⟨_,hi,hh.1⟩) (h2 e')⟩
  ·cases h
def a0w{κ:Type}(K:AE)(n:Nat):List (κ×AA)->Option (List (κ×PV))
 |[]=>some []
 |(k,u)::r=>(a0v K n u).bind fun p=>(a0w K n r).bind fun t=>some ((k,p)::t)
def S1{κ:Type}[DecidableEq κ](tbl:List (κ×PV))(k:κ):Option PV:=match tbl with
 |[]=>none
 |(k',p)::r=>if k'=k then some p else S1 r k
theorem a7x{K:AE}{n:Nat}{k:m3}:∀{kvs:List (m3×AA)} {tbl:List (m3×PV)} {p:PV},a0w K n kvs=some tbl->S1 tbl k=some p->∃u,valueAt kvs k=some u/\a0v K n u=some p
 |[],_,_,h,e=>by cases h;cases e
 |(k',u)::r,tbl,p,h,e=>by
  simp only [a0w] at h
  obtain⟨q,e1,h⟩:=bind_some h
  obtain⟨t,e2,h⟩:=bind_some h
  cases h
  simp only [S1] at e
  split at e
  ·rename_i c;cases e
   exact⟨u,by simp [valueAt,List.find?_cons,c],e1⟩
  ·rename_i c
   obtain⟨u',h1,h2⟩:=a7x e2 e
   refine⟨u', ?_,h2⟩
   simpa [valueAt,List.find?_cons,c] using h1
structure Tab(P:AL)(w:AJ)(K:AE)(a:AB)(tbl:List (m3×PV)):Prop where
 ex:∃es ep kvs n,K.lookup a=some ⟨.type "dict",none,.dict es ep, #[]⟩/\a4E es.toList=some kvs/\es.toList.map (·.hash)=kvs.map (fun kv=>b25 w kv.1)/\a0w K n kvs=some tbl/\(kvs.map (·.1)).Nodup
def b8Y(tbl:List (m3×PV))(m:M):M:=fun ρ=>(m ρ).bind fun r=>(b14 r.rd).bind fun k=>(S1 tbl k).map .val
theorem b8m{x:Str}{a:AB}{tbl:List (m3×PV)}{i:AG}{m:M}{p pos:Pos}(T:Tab X.prog X.w X.K a tbl)(hg:Gl X x)(hm:X.mg x=some (.ref a))(hi:EE X i m)(hd:(x==("__debug__":Str))=false:=by decide)(hs:b5Z i:=by intro _ _;rfl):
 EE X (.Subscript (.Name x p) i pos) (b8Y tbl m):=by
 intro pins s σ H Q I ⟨F,ρ,r,he,hm',k⟩
 obtain⟨es,ep,kvs,n,l1,l2,l3,l4,l5⟩:=T.ex
 obtain⟨ri,e1,hm'⟩:=bind_some hm'
 obtain⟨ky,e2,hm'⟩:=bind_some hm'
 cases e3:S1 tbl ky with
 |none=>rw [e3] at hm';cases hm'
 |some q=>
  rw [e3] at hm';cases hm'
  obtain⟨u,h1,h2⟩:=a7x l4 e3
  obtain⟨vv,r1,r2⟩:=(a9p X.K n).1 u q h2
  refine b2q PySem.F.slot_dict_getitem.lookup hs (X6 I hg hm ?_ hd)
  refine B8 (hi pins s σ H (fun y H2=>∃F2,W6 F H F2 H2/\y=kV ky) I ⟨F,ρ,ri,he,e1,fun v F1 H1 o1=>⟨F1,o1.x,a7q e2 (o1.rep.rd o1.x.fh)⟩⟩) fun iv s2 ⟨y,H2,I2,ry,F2,x2,ey⟩=> ?_
  subst ey
  have dd:s2.heap.DictOf (l0 X.prog X.w) a kvs:=⟨_,es,ep,I2.kIn a _ l1,⟨rfl,rfl,rfl⟩,rfl,fun e he=>(W9 l2 l3).2 e (by simpa using he),(W9 l2 l3).1,l5⟩
  exact⟨dd.typeIs,wpAny_getItem_of (a9S ry) dd.mapOf h1 ⟨vv,H2,I2.tok _,r1,k vv F2 H2 (r9.val x2 (r2 F2))⟩⟩
def keysOf:List PV->Option (List m3)
 |[]=>some []
 |p::ps=>(b14 p).bind fun k=>(keysOf ps).bind fun ks=>some (k::ks)
theorem a2H{K:AE}{H:Hp}:∀{ps:List PV} {ks:List m3} {vs:List V},keysOf ps=some ks->j4 K H ps vs->vs=ks.map kV
 |[],_,_,h,r=>by cases h;cases r;rfl
 |p::ps,_,_,h,⟨v,t,e,rp,rl⟩=>by
  obtain⟨k,e1,h⟩:=bind_some h
  obtain⟨ks,e2,h⟩:=bind_some h
  cases h
  subst e
  rw [a7q e1 rp,a2H e2 rl]
  rfl
end
section
variable {X:Cx}
abbrev MT:=a9->Option Bool
def tMT(K:AE)(c:MT):TT:=fun σ H Q=>∃F ρ b,K2 K F H σ ρ/\c ρ=some b/\∀F' H',W6 F H F' H'->Q b H'
abbrev ET(X:Cx)(e:AG)(c:MT):Prop:=PT X e (tMT X.K c)
abbrev EW(X:Cx)(e:AG)(c:MT):Prop:=PW X e (tMT X.K c)
def a4g:d0->Option Bool
 | .val (.bool b)=>some b
 |_=>none
def tru(r:d0):Option Bool:=match r.rd with
 | .none=>some false
 | .bool b=>some b
 | .int i=>some (i !=0)
 | .str z=>if z.length<=AO then some ((z.length:Int) !=0) else none
 | .list ps=>some (!ps.isEmpty)
 | .tuple ps=>some (!ps.isEmpty)
 | .dict _=>none
def mtV(m:M):MT:=fun ρ=>(m ρ).bind tru
def mtB(m:M):MT:=fun ρ=>(m ρ).bind a4g
theorem j4.empty{K:AE}{H:Hp}{ps:List PV}{vs:List V}(r:j4 K H ps vs):vs.isEmpty=ps.isEmpty:=by
 cases ps with
 |nil=>cases r;rfl
 |cons p ps=>obtain⟨_,_,e,_⟩:=r;subst e;rfl
theorem b7u{H:Hp}{r:d0}{v:V}{b:Bool}(h:B5 X.K H r.rd v)(e:tru r=some b):b74 X.K v H b:=by
 unfold tru at e
 cases hp:r.rd with
 |none=>rw [hp] at h e;cases h;cases e;exact rfl
 |bool k=>rw [hp] at h e;cases h;cases e;exact rfl
 |int i=>rw [hp] at h e;cases h;cases e;exact rfl
 |str z=>
  rw [hp] at h e;cases h
  dsimp only at e
  split at e
  ·rename_i c;cases e;exact⟨c,rfl⟩
  ·cases e
 |list ps=>rw [hp] at h e;obtain⟨a,xs,rfl,hq,rl⟩:=h;cases e;exact .inl ⟨xs,hq,by rw [rl.empty]⟩
 |tuple ps=>rw [hp] at h e;obtain⟨a,xs,rfl,hq,rl⟩:=h;cases e;exact .inr (.inl ⟨xs,hq.sq,by rw [rl.empty]⟩)
 |dict _=>rw [hp] at e;cases e
theorem a1t{e:AG}{m:M}(h:EE X e m)(he:∀whole,isTrue e X.env whole=(do let v<-whole;standAt e.pos;holding [v] (truthy v)):=by intro _;rfl):ET X e (mtV m):=
 a81 (b5m h he) fun σ H Q h0=>t6 h0 fun F ρ b h1 h2 k=>by
  obtain⟨r,e1,e2⟩:=bind_some h2
  exact⟨F,ρ,r,h1,e1,fun v F1 H1 o=>⟨b,b7u (o.rep.rd o.x.fh) e2,k F1 H1 o.x⟩⟩
theorem a0n{K:AE}{F H:Hp}{r:d0}{v:V}{b:Bool}(h:N2 K F H v r)(e:a4g r=some b):v= .bl b:=by
 unfold a4g at e
 split at e
 ·cases e;exact h
 ·cases e
theorem A1{a b:AG}{ma mb:M}{pos:Pos}{op:CmpOp}{g:d0->d0->Option d0}(ho:OpM X (compareOp op) g)(ha:EE X a ma)(hb:EE X b mb)(hm:behindInMarks op b=false):ET X (.Compare a [op] [b] pos) (mtB (m2 g ma mb)):=
 a81 (b7b ho ha hb hm) fun σ H Q h0=>t6 h0 fun F ρ k h1 h2 q=>by
  obtain⟨r,e1,e2⟩:=bind_some h2
  exact a9a ⟨F,ρ,r,h1,e1,fun v F1 H1 o=>⟨k,a0n o.rep e2,q F1 H1 o.x⟩⟩
def a4N(c:MT):MT:=fun ρ=>(c ρ).map not
theorem a5K{a:AG}{c:MT}{pos:Pos}(ha:ET X a c):ET X (.UnaryOp .Not a pos) (a4N c):=
 a81 (b9v ha) fun σ H Q h0=>t6 h0 fun F ρ k h1 h2 q=>by
  unfold a4N at h2
  cases e:c ρ with
  |none=>rw [e] at h2;cases h2
  |some b=>rw [e] at h2;cases h2;exact⟨F,ρ,b,h1,e,q⟩
def b4U(c d:MT):MT:=fun ρ=>(c ρ).bind fun b=>if b=true then d ρ else some false
def b3i(c d:MT):MT:=fun ρ=>(c ρ).bind fun b=>if b=true then some true else d ρ
theorem b6i{a:AG}{c:MT}{pos:Pos}(ha:ET X a c):EW X (.BoolOp .And [a] pos) c:=b7c ha
theorem a8k{a:AG}{c:MT}{pos:Pos}(ha:ET X a c):EW X (.BoolOp .Or [a] pos) c:=b9x ha
theorem b8q{a b:AG}{rest:List AG}{c d:MT}{pos:Pos}(ha:ET X a c)(hb:EW X (.BoolOp .And (b::rest) pos) d):EW X (.BoolOp .And (a::b::rest) pos) (b4U c d):=
 b5n (b9w ha hb) fun σ H Q h0=>t6 h0 fun F ρ k h1 h2 q=>by
  obtain⟨b,e1,e2⟩:=bind_some h2
  refine⟨F,ρ,b,h1,e1,fun F1 H1 x=> ?_⟩
  cases b with
  |true=>exact a9R ⟨F1,ρ,k,h1.ext x,e2,fun F2 H2 y=>q F2 H2 (x.trans y)⟩
  |false=>cases e2;exact a9Q (q F1 H1 x)
theorem b1P{a b:AG}{rest:List AG}{c d:MT}{pos:Pos}(ha:ET X a c)(hb:EW X (.BoolOp .Or (b::rest) pos) d):EW X (.BoolOp .Or (a::b::rest) pos) (b3i c d):=
 b5n (c0y ha hb) fun σ H Q h0=>t6 h0 fun F ρ k h1 h2 q=>by
  obtain⟨b,e1,e2⟩:=bind_some h2
  refine⟨F,ρ,b,h1,e1,fun F1 H1 x=> ?_⟩
  cases b with
  |false=>exact a9Q ⟨F1,ρ,k,h1.ext x,e2,fun F2 H2 y=>q F2 H2 (x.trans y)⟩
  |true=>cases e2;exact a9R (q F1 H1 x)
def b0Y(m n:M):M:=fun ρ=>(m ρ).bind fun r=>(a4g r).bind fun b=>if b=true then n ρ else some (.val (.bool false))
def mOr(m n:M):M:=fun ρ=>(m ρ).bind fun r=>(a4g r).bind fun b=>if b=true then some (.val (.bool true)) else n ρ
def b6J(m:M):M:=fun ρ=>(m ρ).bind fun r=>(a4g r).bind fun b=>some (.val (.bool (!b)))
theorem a5E{op:BoolOp}{a:AG}{m:M}{pos:Pos}(h:EE X a m):EE X (.BoolOp op [a] pos) m:=b9m h
theorem a5D{a b:AG}{rest:List AG}{m n:M}{pos:Pos}(ha:EE X a m)(hb:EE X (.BoolOp .And (b::rest) pos) n):EE X (.BoolOp .And (a::b::rest) pos) (b0Y m n):=
 u6 (b9h ha hb) fun σ H Q h0=>t6 h0 fun F ρ r h1 h2 q=>by
  obtain⟨r1,e1,h2⟩:=bind_some h2
  obtain⟨b,e2,h2⟩:=bind_some h2
  refine⟨F,ρ,r1,h1,e1,fun v F1 H1 o=>⟨b,a0n o.rep e2, ?_⟩⟩
  cases b with
  |true=>exact a9R ⟨F1,ρ,r,h1.ext o.x,h2,fun w F2 H2 y=>q w F2 H2 (r9.trans o.x y)⟩
  |false=>cases h2;exact a9Q (q _ F1 H1 (r9.val o.x rfl))
theorem c0b{a b:AG}{rest:List AG}{m n:M}{pos:Pos}(ha:EE X a m)(hb:EE X (.BoolOp .Or (b::rest) pos) n):EE X (.BoolOp .Or (a::b::rest) pos) (mOr m n):=
 u6 (c0v ha hb) fun σ H Q h0=>t6 h0 fun F ρ r h1 h2 q=>by
  obtain⟨r1,e1,h2⟩:=bind_some h2
  obtain⟨b,e2,h2⟩:=bind_some h2
  refine⟨F,ρ,r1,h1,e1,fun v F1 H1 o=>⟨b,a0n o.rep e2, ?_⟩⟩
  cases b with
  |false=>exact a9Q ⟨F1,ρ,r,h1.ext o.x,h2,fun w F2 H2 y=>q w F2 H2 (r9.trans o.x y)⟩
  |true=>cases h2;exact a9R (q _ F1 H1 (r9.val o.x rfl))
theorem b4d{a:AG}{m:M}{pos:Pos}(ha:EE X a m):EE X (.UnaryOp .Not a pos) (b6J m):=
 u6 (b9l ha) fun σ H Q h0=>t6 h0 fun F ρ r h1 h2 q=>by
  obtain⟨r1,e1,h2⟩:=bind_some h2
  obtain⟨b,e2,h2⟩:=bind_some h2
  cases h2
  exact⟨F,ρ,r1,h1,e1,fun v F1 H1 o=>⟨b,a0n o.rep e2,q _ F1 H1 (r9.val o.x rfl)⟩⟩
def a8A(g g':d0->d0->Option d0)(ma mb mc:M):M:=fun ρ=>(ma ρ).bind fun x=>(mb ρ).bind fun y=>(g x y).bind fun z=>(a4g z).bind fun b=>if b=true then(mc ρ).bind fun w=>g' y w else some (.val (.bool false))
theorem b3V{ma mb mc:M}{g g':d0->d0->Option d0}{σ:L2.St}{H:Hp}{Q:VK}(h:tM X.K (a8A g g' ma mb mc) σ H Q):b5H (rM2 X.K g) (rM2 X.K g') (tM X.K ma) (tM X.K mb) (tM X.K mc) σ H Q:=by
 obtain⟨F,ρ,r,he,hm,k⟩:=h
 obtain⟨rx,e1,hm⟩:=bind_some hm
 obtain⟨ry,e2,hm⟩:=bind_some hm
 obtain⟨rz,e3,hm⟩:=bind_some hm
 obtain⟨b,e4,hm⟩:=bind_some hm
 refine⟨F,ρ,rx,he,e1,fun v F1 H1 o1=>⟨F1,ρ,ry,he.ext o1.x,e2,fun u F2 H2 o2=>⟨F2,rx,ry,rz,o2.x.fh,o1.rep.ext o2.x,o2.rep,e3,fun z F3 H3 o3=>⟨b,a0n o3.rep e4, ?_⟩⟩⟩⟩
 have x3:=(o1.x.trans o2.x).trans o3.x
 cases b with
 |true=>
  rw [if_pos rfl] at hm
  obtain⟨rw',e5,hm⟩:=bind_some hm
  exact a9R ⟨F3,ρ,rw',he.ext x3,e5,fun w F4 H4 o4=>⟨F4,ry,rw',r,o4.x.fh,(o2.rep.ext o3.x).ext o4.x,o4.rep,hm,fun z F5 H5 o5=>k z F5 H5 (r9.trans (x3.trans o4.x) o5)⟩⟩
 |false=>
  rw [if_neg Ax] at hm
  cases hm
  exact a9Q (k _ F3 H3 (r9.val x3 rfl))
theorem b4c{a b c:AG}{ma mb mc:M}{pos:Pos}{op op':CmpOp}{g g':d0->d0->Option d0}(ho:OpM X (compareOp op) g)(ho':OpM X (compareOp op') g')(ha:EE X a ma)(hb:EE X b mb)(hc:EE X c mc)
 (hm:lastMarks [op,op'] [b,c]=false:=by with_unfolding_all rfl):EE X (.Compare a [op,op'] [b,c] pos) (a8A g g' ma mb mc):=
 u6 (b5c ho ho' ha hb hc hm) fun _ _ _ h=>b3V h
end
inductive Fl where
 |nx (ρ:a9)|rt (r:d0)|bk (ρ:a9)|ct (ρ:a9)
abbrev MS:=a9->Option Fl
structure SOk(K:AE)(F0 H0 F H:Hp)(σ:L2.St)(ρ:a9):Prop where
 x:W6 F0 H0 F H
 e:K2 K F H σ ρ
 nw:∀(i:Nat) (c:Y2) (a:AB),ρ[i]?=some (some (.ow c))->σ[i]?=some (some (.ref a))->H0 a=none
def Fin(K:AE)(F0 H0 F:Hp)(D:M3):Fl->Prop
 | .nx ρ=>∀σ' F' H',j5 F F'->SOk K F0 H0 F' H' σ' ρ->D.nx σ' H'
 | .rt r=>∀v F' H',r9 K F0 H0 F' H' v r->D.rt v H'
 | .bk ρ=>∀σ' F' H',j5 F F'->SOk K F0 H0 F' H' σ' ρ->D.bk σ' H'
 | .ct ρ=>∀σ' F' H',j5 F F'->SOk K F0 H0 F' H' σ' ρ->D.ct σ' H'
theorem Fin.later{K:AE}{F0 H0 F F1:Hp}{D:M3}(s:j5 F F1):∀{fl:Fl},Fin K F0 H0 F D fl->Fin K F0 H0 F1 D fl
 | .nx _,h=>fun σ' F' H' s' so=>h σ' F' H' (s.trans s') so
 | .rt _,h=>h
 | .bk _,h=>fun σ' F' H' s' so=>h σ' F' H' (s.trans s') so
 | .ct _,h=>fun σ' F' H' s' so=>h σ' F' H' (s.trans s') so
def tMS(K:AE)(m:MS):TS:=fun D σ H=>∃F0 H0 F ρ fl,SOk K F0 H0 F H σ ρ/\m ρ=some fl/\Fin K F0 H0 F D fl
theorem C8{K:AE}{m:MS}{D:M3}{σ:L2.St}{H:Hp}{C:Prop}(h:tMS K m D σ H)(k:∀F0 H0 F ρ fl,SOk K F0 H0 F H σ ρ->m ρ=some fl->Fin K F0 H0 F D fl->C):C:=
 h.elim fun a h=>h.elim fun b h=>t6 h (k a b)
abbrev ES(X:Cx)(st:Stmt)(m:MS):Prop:=PS X st (tMS X.K m)
abbrev ESs(X:Cx)(st:List Stmt)(m:MS):Prop:=PSs X st (tMS X.K m)
theorem SOk.ext{K:AE}{F0 H0 F H F' H':Hp}{σ:L2.St}{ρ:a9}(s:SOk K F0 H0 F H σ ρ)(x:W6 F H F' H'):SOk K F0 H0 F' H' σ ρ:=⟨s.x.trans x,s.e.ext x,s.nw⟩
def d0.nb:d0->Bool
 | .bo _=>false
 |_=>true
theorem SOk.set{K:AE}{F0 H0 F H F' H':Hp}{σ:L2.St}{ρ:a9}{v:V}{r:d0}(s:SOk K F0 H0 F H σ ρ)(o:r9 K F H F' H' v r)(hb:r.nb=true)(i:Nat):SOk K F0 H0 F' H' (σ.set i (some v)) (ρ.set i (some r)):=by
 have s1:=s.ext o.x
 have le:=s.e.len
 refine⟨s1.x,⟨s1.e.fh,by simp [le],fun j q e=> ?_,fun j ps e=> ?_,fun j k ps qs a hjk e1 e2 e3 e4=> ?_⟩,fun j ps a e1 e2=> ?_⟩
 ·rw [List.getElem?_set] at e ⊢
  by_cases hij:i=j
  ·subst hij
   rw [if_pos rfl] at e ⊢
   rw [le]
   split at e
   ·rename_i c;cases e;rw [if_pos c];exact⟨v,rfl,o.rep⟩
   ·cases e
  ·rw [if_neg hij] at e ⊢
   exact s1.e.at_ j q e
 ·rw [List.getElem?_set] at e
  by_cases hij:i=j
  ·subst hij
   rw [if_pos rfl] at e
   split at e
   ·cases e;cases hb
   ·cases e
  ·rw [if_neg hij] at e
   exact s1.e.nb j ps e
 ·rw [List.getElem?_set] at e1 e2 e3 e4
  by_cases hij:i=j
  ·subst hij
   rw [if_pos rfl] at e1 e3
   rw [if_neg hjk] at e2 e4
   split at e1
   ·cases e1
    split at e3
    ·cases e3
     have fr:=o.fr ps a rfl rfl
     obtain⟨w,h1,rr⟩:=s.e.at_ k _ e2
     obtain⟨a',xs,h2,_,h3⟩:=a06.at_ rr
     rw [e4] at h1;cases h1
     cases h2
     rw [fr] at h3;cases h3
    ·cases e3
   ·cases e1
  ·rw [if_neg hij] at e1 e3
   by_cases hik:i=k
   ·subst hik
    rw [if_pos rfl] at e2 e4
    split at e2
    ·cases e2
     split at e4
     ·cases e4
      have fr:=o.fr qs a rfl rfl
      obtain⟨w,h1,rr⟩:=s.e.at_ j _ e1
      obtain⟨a',xs,h2,_,h3⟩:=a06.at_ rr
      rw [e3] at h1;cases h1
      cases h2
      rw [fr] at h3;cases h3
     ·cases e4
    ·cases e2
   ·rw [if_neg hik] at e2 e4
    exact s1.e.ap j k ps qs a hjk e1 e2 e3 e4
 ·rw [List.getElem?_set] at e1 e2
  by_cases hij:i=j
  ·subst hij
   rw [if_pos rfl] at e1 e2
   split at e1
   ·cases e1
    split at e2
    ·cases e2;exact s.x.h.free (o.fr ps a rfl rfl)
    ·cases e2
   ·cases e1
  ·rw [if_neg hij] at e1 e2
   exact s.nw j ps a e1 e2
section
variable {X:Cx}
def B4:MS:=fun ρ=>some (.nx ρ)
def k7(m n:MS):MS:=fun ρ=>(m ρ).bind fun fl=>match fl with
 | .nx ρ'=>n ρ'
 |f=>some f
theorem x4:ESs X [] B4:=a5n a80 fun D σ H h0=>C8 h0 fun F0 H0 F ρ fl so e fin=>by
 cases e
 exact fin σ F H (PU.j5.refl F) so
theorem c8{st:Stmt}{rest:List Stmt}{m n:MS}(h1:ES X st m)(h2:ESs X rest n):ESs X (st::rest) (k7 m n):=
 a5n (a0m h1 h2) fun D σ H h0=>C8 h0 fun F0 H0 F ρ fl so e fin=>by
  obtain⟨f1,e1,e⟩:=bind_some e
  cases f1 with
  |nx ρ'=>exact⟨F0,H0,F,ρ,.nx ρ',so,e1,fun σ' F' H' s so'=>⟨F0,H0,F',ρ',fl,so',e,fin.later s⟩⟩
  |rt r=>cases e;exact⟨F0,H0,F,ρ,_,so,e1,fin⟩
  |bk r=>cases e;exact⟨F0,H0,F,ρ,_,so,e1,fin⟩
  |ct r=>cases e;exact⟨F0,H0,F,ρ,_,so,e1,fin⟩
theorem d7{st:Stmt}{m:MS}(h1:ES X st m):ESs X [st] m:=b2m h1
def m9(i:Nat)(m:M):MS:=fun ρ=>(m ρ).bind fun r=>if r.nb=true then some (.nx (ρ.set i (some r))) else none
theorem g7{i:Nat}{x:Str}{e:AG}{m:M}{pos pos':Pos}(hN:X.N.Nodup)(he:EE X e m)(hi:X.N[i]?=some x:=by rfl)(hx:Loc X.env.scope x:=by exact Or.inl rfl)(hs:swapsWith e (some (.Name x pos')) pos.line X.env=pure false:=by rfl)(hf:X.fn x=true\/X.env.scope.names.lookup x=some .local:=by first|exact .inl rfl|exact .inr rfl|assumption):
 ES X (.Assign [.Name x pos'] e pos) (m9 i m):=
 x6 (b5l hN hi hx he hs hf) fun D σ H h0=>C8 h0 fun F0 H0 F ρ fl so e fin=>by
  obtain⟨r,e1,e⟩:=bind_some e
  split at e
  ·rename_i c
   cases e
   exact⟨F,ρ,r,so.e,e1,fun v F' H' o=>fin _ F' H' o.x.f (so.set o c i)⟩
  ·cases e
def A2(m:M):MS:=fun ρ=>(m ρ).bind fun r=>if r.nb=true then some (.rt r) else none
theorem l7{e:AG}{m:M}{pos:Pos}(he:EE X e m):ES X (.Return (some e) pos) (A2 m):=
 x6 (b5k he) fun D σ H h0=>C8 h0 fun F0 H0 F ρ fl so e fin=>by
  obtain⟨r,e1,e⟩:=bind_some e
  split at e
  ·rename_i c
   cases e
   exact⟨F,ρ,r,so.e,e1,fun v F' H' o=>fin v F' H' (r9.trans so.x o)⟩
  ·cases e
def a0X(i:Nat):MS:=fun ρ=>match ρ[i]? with
 |some (some r)=>some (.rt r)
 |_=>none
theorem a0E(i:Nat){x:Str}{p pos:Pos}(h:PE X (.Name x p) (a4n i)):ES X (.Return (some (.Name x p)) pos) (a0X i):=
 x6 (b5k h) fun D σ H h0=>C8 h0 fun F0 H0 F ρ fl so e fin=>by
  unfold a0X at e
  split at e
  ·rename_i r er
   cases e
   obtain⟨v,e1,rr⟩:=so.e.at_ i _ er
   exact⟨v,e1,fin v F H ⟨so.x,rr,fun ps a z1 z2=>by subst z1;subst z2;exact so.nw i ps a er e1⟩⟩
  ·cases e
def V5(c:MT)(m n:MS):MS:=fun ρ=>(c ρ).bind fun b=>if b=true then m ρ else n ρ
theorem J5{c:AG}{a b:List Stmt}{mc:MT}{m n:MS}{pos:Pos}(hc:ET X c mc)(ha:ESs X a m)(hb:ESs X b n):ES X (.If c a b pos) (V5 mc m n):=
 x6 (b7W hc ha hb) fun D σ H h0=>C8 h0 fun F0 H0 F ρ fl so e fin=>by
  obtain⟨b,e1,e⟩:=bind_some e
  refine⟨F,ρ,b,so.e,e1,fun F1 H1 x=> ?_⟩
  cases b with
  |true=>exact a9R ⟨F0,H0,F1,ρ,fl,so.ext x,e,fin.later x.f⟩
  |false=>exact a9Q ⟨F0,H0,F1,ρ,fl,so.ext x,e,fin.later x.f⟩
def setAll{α:Type}:List (Option α)->List Nat->List α->List (Option α)
 |σ,i::is,x::xs=>setAll (σ.set i (some x)) is xs
 |σ,_,_=>σ
def b0O:List Nat->TGs
 |[]=>c0d
 |i::is=>b7O (a9L i) (b0O is)
theorem a7n:∀{is:List Nat} {xs:List V} {σ:L2.St} {H:Hp} {Q:L2.St->Hp->Prop},xs.length=is.length->Q (setAll σ is xs) H->b0O is xs σ H Q
 |[],[],_,_,_,_,q=>⟨rfl,q⟩
 |[],_::_,_,_,_,h,_=>by cases h
 |_::_,[],_,_,_,h,_=>by cases h
 |i::is,x::xs,σ,H,Q,h,q=>⟨x,xs,rfl,a7n (is:=is) (xs:=xs) (by simpa using h) q⟩
theorem SOk.setAll{K:AE}{F0 H0 F H:Hp}:∀{is:List Nat} {xs:List V} {ps:List PV} {σ:L2.St} {ρ:a9},SOk K F0 H0 F H σ ρ->j4 K F ps xs->SOk K F0 H0 F H (PU.setAll σ is xs) (PU.setAll ρ is (ps.map .val))
 |[],xs,ps,σ,ρ,s,r=>by
  have e1:PU.setAll σ [] xs=σ:=by cases xs<;>rfl
  have e2:PU.setAll ρ [] (ps.map d0.val)=ρ:=by cases ps<;>rfl
  rw [e1,e2];exact s
 |i::is,xs,[],σ,ρ,s,r=>by cases r;exact s
 |i::is,xs,p::ps,σ,ρ,s,⟨v,t,e,rp,rl⟩=>by
  subst e
  exact SOk.setAll (is:=is) (s.set (r9.here s.e.fh rp) rfl i) rl
def b3f(is:List Nat)(m:M):MS:=fun ρ=>(m ρ).bind fun r=>match r with
 | .val (.tuple ps)=>if ps.length=is.length then some (.nx (setAll ρ is (ps.map .val))) else none
 |_=>none
theorem b0K{is:List Nat}{es:List AG}{k:Nat}{e:AG}{m:M}{pos tpos:Pos}(hc:X.calm=true)(he:EE X e m)(hg:PGs X es (b0O is))
 (hn:(assignEach es X.env).length=is.length:=by rfl) (hst:(assignEach es X.env).findIdx? (·.1)=none:=by rfl)
 (hs:swapsWithSole [.Tuple es k tpos] e pos.line X.env=pure false:=by rfl) (hw:swappedStores [.Tuple es k tpos] e X.env=pure none:=by rfl)
 (h1:(assignEach [.Tuple es k tpos] X.env).map (·.2)=[assign (.Tuple es k tpos) X.env]:=by rfl):ES X (.Assign [.Tuple es k tpos] e pos) (b3f is m):=
 x6 (b5i he (b9q hc hg hn hst) hs hw h1) fun D σ H h0=>C8 h0 fun F0 H0 F ρ fl so e fin=>by
  obtain⟨r,e1,e⟩:=bind_some e
  split at e
  ·rename_i ps
   split at e
   ·rename_i c
    cases e
    refine⟨F,ρ,_,so.e,e1,fun v F' H' o=> ?_⟩
    obtain⟨a,xs,rfl,hq,rl⟩:=o.rep
    have hl:xs.length=is.length:=by rw [rl.length];exact c
    exact⟨a,xs,rfl,u8 o.x.fh hq.sq,hl,a7n hl (fin _ F' H' o.x.f ((so.ext o.x).setAll rl))⟩
   ·cases e
  ·cases e
def N5(body:MS)(tg:PV->a9->Option a9):List PV->a9->Option Fl
 |[],ρ=>some (.nx ρ)
 |p::ps,ρ=>(tg p ρ).bind fun ρ1=>(body ρ1).bind fun fl=>match fl with
  | .nx ρ'=>N5 body tg ps ρ'
  | .ct ρ'=>N5 body tg ps ρ'
  | .bk ρ'=>some (.nx ρ')
  | .rt r=>some (.rt r)
def d5(i:Nat):PV->a9->Option a9:=fun p ρ=>some (ρ.set i (some (.val p)))
def a9o(K:AE)(g:TG)(tg:PV->a9->Option a9):Prop:=
 ∀F0 H0 F H σ ρ ρ1 p x (Q:L2.St->Hp->Prop),SOk K F0 H0 F H σ ρ->B5 K F p x->tg p ρ=some ρ1->(∀σ',SOk K F0 H0 F H σ' ρ1->Q σ' H)->g x σ H Q
theorem n3{K:AE}(i:Nat):a9o K (a9L i) (d5 i):=fun F0 H0 F H σ ρ ρ1 p x Q so r e k=>by
 cases e
 exact k _ (so.set (r9.here so.e.fh r) rfl i)
theorem b2T{body:MS}{tg:PV->a9->Option a9}{ps:List PV}{p:PV}{ρ:a9}{fl:Fl}(h:N5 body tg (p::ps) ρ=some fl):∃ρ1 f1,tg p ρ=some ρ1/\body ρ1=some f1/\(match f1 with
 | .nx ρ'=>N5 body tg ps ρ'
 | .ct ρ'=>N5 body tg ps ρ'
 | .bk ρ'=>some (.nx ρ')
 | .rt r=>some (.rt r))=some fl:=by
 unfold N5 at h
 obtain⟨ρ1,e1,h⟩:=bind_some h
 obtain⟨f1,e2,h⟩:=bind_some h
 exact⟨ρ1,f1,e1,e2,h⟩
def PvL(K:AE)(F0 H0 F1:Hp)(body:MS)(tg:PV->a9->Option a9)(ps:List PV)(fl:Fl)(k:Nat)(σ:L2.St)(H:Hp):Prop:=
 ∃F ρ,j5 F1 F/\SOk K F0 H0 F H σ ρ/\N5 body tg (ps.drop k) ρ=some fl
theorem a0i{K:AE}{F0 H0 F1:Hp}{body:MS}{tg:PV->a9->Option a9}{g:TG}{ps:List PV}{fl:Fl}{D:M3}{k:Nat}{p:PV}{x:V}{σ:L2.St}{H:Hp}(T:a9o K g tg)(fin:Fin K F0 H0 F1 D fl)(ep:ps[k]?=some p)
 (hp:PvL K F0 H0 F1 body tg ps fl k σ H) (rx:∀F,j5 F1 F->B5 K F p x):
 g x σ H fun σ2 H2=>tMS K body {D with nx:=PvL K F0 H0 F1 body tg ps fl (k+1),ct:=PvL K F0 H0 F1 body tg ps fl (k+1),bk:=D.nx} σ2 H2:=by
 obtain⟨F,ρ,s,so,e⟩:=hp
 have hk:k<ps.length:=(As.mp ep).1
 have hd:ps.drop k=p::ps.drop (k+1):=by
  rw [List.drop_eq_getElem_cons hk]
  congr 1
  exact(As.mp ep).2
 rw [hd] at e
 obtain⟨ρ1,f1,e1,e2,e3⟩:=b2T e
 refine T F0 H0 F H σ ρ ρ1 p x _ so (rx F s) e1 fun σ' so'=>⟨F0,H0,F,ρ1,f1,so',e2, ?_⟩
 cases f1 with
 |nx ρ'=>exact fun σ2 F2 H2 s2 so2=>⟨F2,ρ',s.trans s2,so2,e3⟩
 |ct ρ'=>exact fun σ2 F2 H2 s2 so2=>⟨F2,ρ',s.trans s2,so2,e3⟩
 |bk ρ'=>cases e3;exact fun σ2 F2 H2 s2 so2=>fin σ2 F2 H2 (s.trans s2) so2
 |rt r=>cases e3;exact fin
theorem a1I{K:AE}{F0 H0 F1:Hp}{body:MS}{tg:PV->a9->Option a9}{ps:List PV}{fl:Fl}{D:M3}{σ:L2.St}{H:Hp}(fin:Fin K F0 H0 F1 D fl)
 (hp:PvL K F0 H0 F1 body tg ps fl ps.length σ H):D.nx σ H:=by
 obtain⟨F,ρ,s,so,e⟩:=hp
 rw [List.drop_length] at e
 cases e
 exact fin σ F H s so
abbrev MI:=a9->Option (List PV)
def I0(m:M):MI:=fun ρ=>((m ρ).bind d0.toVal).bind PyData.items?
def c04(K:AE)(tl:TE):TI:=fun σ H R=>tl σ H fun x H1=>∃a,x= .ref a/\(((∃xs,Z3 K H1 a xs)/\R (Itl K a) H1)\/((∃xs,SqT K H1 a xs)/\R (Itt K a) H1))
theorem b1i{tg l:AG}{tl:TE}(hl:PE X l tl):PI X tg l (c04 X.K tl):=by
 intro pins s σ H R I h
 refine B8 (hl pins s σ H _ I h) fun v s1 h0=>j8 h0 fun x H1 I1 r1 q1=> ?_
 obtain⟨a,e,q⟩:=q1
 subst e
 cases r1
 rcases q with⟨⟨xs,hq⟩,q⟩|⟨⟨xs,hq⟩,q⟩
 ·obtain⟨its,rv,p,hz⟩:=I1.list hq
  refine wpAny_pyIter_list p.isList ?_
  refine⟨s1.heap.objs.size,[s1.heap.objs.size],_,_,H1,rfl,I1.kept (t':=s1.toks) fun b o e=>Ab _ e,a7W a _,⟨_,Ao _ rfl,rfl,rfl⟩,fun b hb=> ?_,q⟩
  have e:b=s1.heap.objs.size:=by simpa using hb
  subst e
  exact I1.fpOk (AS _) (I1.hok.fresh (AS _))
 ·obtain⟨its,rv,p,hz⟩:=I1.tuple hq
  refine wpAny_pyIter_tuple (show s1.heap.IsTuple a its.toArray from p) ?_
  refine⟨s1.heap.objs.size,[s1.heap.objs.size],_,_,H1,rfl,I1.kept (t':=s1.toks) fun b o e=>Ab _ e,b1p a _,⟨_,Ao _ rfl,rfl,rfl⟩,fun b hb=> ?_,q⟩
  have e:b=s1.heap.objs.size:=by simpa using hb
  subst e
  exact I1.fpOk (AS _) (I1.hok.fresh (AS _))
def T2(it:MI)(tg:PV->a9->Option a9)(body:MS):MS:=fun ρ=>(it ρ).bind fun ps=>N5 body tg ps ρ
theorem a5I{tg iter:AG}{body:List Stmt}{m:M}{g:TG}{t:PV->a9->Option a9}{b:MS}{pos:Pos}(hp:PassesOwn (model X.prog X.w) X.A X.env X.xe)(hc:X.calm=true)(hi:EE X iter m)(hg:PG X tg g)(T:a9o X.K g t)(hb:ESs X body b)
 (hs:∀x,foldedSetIterable iter X.env x=pure x:=by intro _;rfl):ES X (.For tg iter body [] pos) (T2 (I0 m) t b):=
 x6 (a6n hp hc (b1i hi) hg hb hs) fun D σ H h0=>C8 h0 fun F0 H0 F ρ fl so e fin=>by
  obtain⟨ps,e1,e⟩:=bind_some e
  obtain⟨q,e1,e2⟩:=bind_some e1
  obtain⟨r,e1,e3⟩:=bind_some e1
  refine⟨F,ρ,r,so.e,e1,fun v F' H' o=> ?_⟩
  obtain⟨F1,o1⟩:=o.toVal e3
  have fin1:=fin.later o1.x.f
  have so1:=so.ext o1.x
  obtain⟨a,xs,rfl,hq,rl⟩:=A9 (F:=F1) (H:=F1) (PU.j5.refl F1) (show N2 X.K F1 F1 v (.val q) from o1.rep) e2
  have hlen:=rl.length
  have get:∀k x,xs[k]?=some x->∃p,ps[k]?=some p/\∀F,j5 F1 F->B5 X.K F p x:=fun k x ex=>by
   obtain⟨p,ep,rp⟩:=rl.getV ex
   exact⟨p,ep,fun F s=>B5.mono s _ rp⟩
  rcases hq with hq|hq
  ·refine⟨a,rfl,.inl ⟨⟨xs,x9 o1.x.fh hq⟩,a9G (K:=X.K) (a:=a) (xs:=xs) (PvL X.K F0 H0 F1 b t ps fl) ⟨F1,ρ,PU.j5.refl F1,so1,e⟩ (fun k σ H _ ⟨F,_,s,so2,_⟩=>x9 (s.trans so2.e.fh) hq) (fun k x σ H ex hp=> ?_) (fun σ H hp=> ?_)⟩⟩
   ·obtain⟨p,ep,rp⟩:=get k x ex
    exact a0i T fin1 ep hp rp
   ·rw [hlen] at hp
    exact a1I fin1 hp
  ·refine⟨a,rfl,.inr ⟨⟨xs,u8 o1.x.fh hq⟩,b1T (K:=X.K) (a:=a) (xs:=xs) (PvL X.K F0 H0 F1 b t ps fl) ⟨F1,ρ,PU.j5.refl F1,so1,e⟩ (fun k σ H _ ⟨F,_,s,so2,_⟩=>u8 (s.trans so2.e.fh) hq) (fun k x σ H ex hp=> ?_) (fun σ H hp=> ?_)⟩⟩
   ·obtain⟨p,ep,rp⟩:=get k x ex
    exact a0i T fin1 ep hp rp
   ·rw [hlen] at hp
    exact a1I fin1 hp
def G0(lo hi:Int):List PV:=(AR (hi - lo).toNat).map fun k=> .int (lo+(k:Nat))
theorem b4D:∃f:Int->Bool,∀j,f j=decide (-(2 ^ 62)<=j/\j<2 ^ 62):=⟨_,fun _=>rfl⟩
def inR:Int->Bool:=b4D.choose
theorem b8E(j:Int):inR j=decide (-(2 ^ 62)<=j/\j<2 ^ 62):=b4D.choose_spec j
theorem a0H{j:Int}:inR j=true↔(-(2 ^ 62)<=j/\j<2 ^ 62):=by rw [b8E,decide_eq_true_iff]
def C9(m:MA):MI:=fun ρ=>(m ρ).bind fun ps=>match ps with
 |[.int j]=>if inR j=true then some (G0 0 j) else none
 |_=>none
def b2b(m:MA):MI:=fun ρ=>(m ρ).bind fun ps=>match ps with
 |[.int i,.int j]=>if inR i=true/\inR j=true then some (G0 i j) else none
 |_=>none
theorem a3w{lo hi:Int}{k:Nat}(h:k<(hi - lo).toNat):(G0 lo hi)[k]?=some (.int (lo+k)):=by
 simp [G0,h]
theorem C1(lo hi:Int):(G0 lo hi).length=(hi - lo).toNat:=by simp [G0]
theorem G2{tg a:AG}{body:List Stmt}{m:MA}{g:TG}{t:PV->a9->Option a9}{b:MS}{p rp pos:Pos}(hp:PassesOwn (model X.prog X.w) X.A X.env X.xe)(hc:X.calm=true)(hgl:Gl X "range")(hm:X.mg "range"=none)(ha:EA X [a] m)(hg:PG X tg g)(T:a9o X.K g t)(hb:ESs X body b)
 (hst:AN [a] X.env=[(false,eval a X.env)]:=by rfl) (hs:∀x,foldedSetIterable (.Call (.Name "range" p) [a] [] rp) X.env x=pure x:=by intro _;rfl):ES X (.For tg (.Call (.Name "range" p) [a] [] rp) body [] pos) (T2 (C9 m) t b):=
 x6 (a6n hp hc (a7O hgl hm ha hst) hg hb hs) fun D σ H h0=>C8 h0 fun F0 H0 F ρ fl so e fin=>by
  obtain⟨ps,e1,e⟩:=bind_some e
  obtain⟨qs,e1,e2⟩:=bind_some e1
  refine⟨F,ρ,qs,so.e,e1,fun vs F1 H1 x rl=> ?_⟩
  split at e2
  ·rename_i j
   split at e2
   ·rename_i c
    have c:=a0H.mp c
    cases e2
    obtain⟨v,r,rfl,rv,rr⟩:=rl
    cases rv
    cases rr
    have fin1:=fin.later x.f
    have hz:(j - 0).toNat=j.toNat:=by lia
    refine⟨j,rfl,c.1,c.2,a7k (lo:=0) (n:=j.toNat) (PvL X.K F0 H0 F1 b t (G0 0 j) fl) ⟨F1,ρ,PU.j5.refl F1,so.ext x,e⟩ (fun k σ H hk hp=> ?_) (fun σ H hp=> ?_)⟩
    ·exact a0i T fin1 (a3w (by lia)) hp fun _ _=>rfl
    ·have:j.toNat=(G0 0 j).length:=by rw [C1,hz]
     rw [this] at hp
     exact a1I fin1 hp
   ·cases e2
  ·cases e2
theorem b4g{tg a a2:AG}{body:List Stmt}{m:MA}{g:TG}{t:PV->a9->Option a9}{b:MS}{p rp pos:Pos}(hp:PassesOwn (model X.prog X.w) X.A X.env X.xe)(hc:X.calm=true)(hgl:Gl X "range")(hm:X.mg "range"=none)(ha:EA X [a,a2] m)(hg:PG X tg g)(T:a9o X.K g t)(hb:ESs X body b)
 (hst:AN [a,a2] X.env=[(false,eval a X.env),(false,eval a2 X.env)]:=by rfl) (hst2:AN [a2] X.env=[(false,eval a2 X.env)]:=by rfl) (hs:∀x,foldedSetIterable (.Call (.Name "range" p) [a,a2] [] rp) X.env x=pure x:=by intro _;rfl):
 ES X (.For tg (.Call (.Name "range" p) [a,a2] [] rp) body [] pos) (T2 (b2b m) t b):=
 x6 (a6n hp hc (b3t hgl hm ha hst hst2) hg hb hs) fun D σ H h0=>C8 h0 fun F0 H0 F ρ fl so e fin=>by
  obtain⟨ps,e1,e⟩:=bind_some e
  obtain⟨qs,e1,e2⟩:=bind_some e1
  refine⟨F,ρ,qs,so.e,e1,fun vs F1 H1 x rl=> ?_⟩
  split at e2
  ·rename_i i j
   split at e2
   ·rename_i c
    have c:(-(2 ^ 62)<=i/\i<2 ^ 62)/\ -(2 ^ 62)<=j/\j<2 ^ 62:=⟨a0H.mp c.1,a0H.mp c.2⟩
    cases e2
    obtain⟨v,r,rfl,rv,v2,r2,rfl,rv2,rr⟩:=rl
    cases rv
    cases rv2
    cases rr
    have fin1:=fin.later x.f
    refine⟨i,j,rfl,⟨c.1.1,c.1.2,c.2.1,c.2.2⟩,a7k (lo:=i) (n:=(j - i).toNat) (PvL X.K F0 H0 F1 b t (G0 i j) fl) ⟨F1,ρ,PU.j5.refl F1,so.ext x,e⟩ (fun k σ H hk hp=> ?_) (fun σ H hp=> ?_)⟩
    ·exact a0i T fin1 (a3w hk) hp fun _ _=>rfl
    ·rw [<-C1 i j] at hp
     exact a1I fin1 hp
   ·cases e2
  ·cases e2
def E8(n:Nat)(body:MS)(ps:List PV):Option d0:=(body (ps.map (fun p=>some (d0.val p))++AV n none)).bind fun fl=>match fl with
 | .rt r=>some r
 | .nx _=>some (.val .none)
 |_=>none
end
theorem b0m{K:AE}{F H:Hp}{ps:List PV}{vs:List V}(n:Nat)(s:j5 F H)(r:j4 K F ps vs):SOk K F H F H (vs.map some++AV n none) (ps.map (fun p=>some (d0.val p))++AV n none):=by
 have hl:=r.length
 have key:∀(i:Nat) (q:d0),(ps.map (fun p=>some (d0.val p))++AV n none)[i]?=some (some q)->∃p v,q= .val p/\(vs.map some++AV n none)[i]?=some (some v)/\B5 K F p v:=by
  intro i q e
  by_cases h:i<ps.length
  ·rw [BD (by simpa using h),Al] at e
   rw [BD (by rw [Ac,hl];exact h),Al]
   cases q':ps[i]? with
   |none=>rw [q'] at e;cases e
   |some p=>
    rw [q'] at e
    cases e
    obtain⟨v,h1,h2⟩:=r.get q'
    exact⟨p,v,rfl,by rw [h1];rfl,h2⟩
  ·rw [List.getElem?_append_right (by simpa using h),List.getElem?_replicate] at e
   split at e<;>cases e
 refine⟨W6.refl s,⟨s,by simp [hl],fun i q e=> ?_,fun i qs e=> ?_,fun i j qs _ a _ e=> ?_⟩,fun i qs a e=> ?_⟩
 ·obtain⟨p,v,rfl,h1,h2⟩:=key i q e;exact⟨v,h1,h2⟩
 ·obtain⟨p,v,z,_⟩:=key i _ e;cases z
 ·obtain⟨p,v,z,_⟩:=key i _ e;cases z
 ·obtain⟨p,v,z,_⟩:=key i _ e;cases z
theorem b7N{P:AL}{w:AJ}{K:AE}{mg:Str->Option AA}{base:Heap}{x qual:Str}{st:Stmt}{f:AB}{fd:FuncData}{N ps:List Str}{k:Nat}{m:MS}(F:Fun K x qual st f fd)(S:g5 N ps (c9 st))
 (hb:∀(cdv:AA) (A:AM) (outer:List Env) (s:AC) (H:Hp) (E:XK),D3 k (A.deeper (envOfC qual (c9 st) s.heap.objs.size f cdv))->ESs (a1k CX0 P w K mg base N qual (c9 st) f cdv A outer s H E).nox (z5 st) m):
 M4 P w K mg base CX0 (k+1) f fd ps (spP K ps.length (E8 (N.length - ps.length) m)):=by
 refine F.ok S (fun vs H Q E h=> ?_) (fun cdv A outer s H vs Q E hr h=> ?_)
 ·obtain⟨_,qs,_,_,r,h2,_⟩:=h
  rw [r.length,h2]
 ·obtain⟨F1,qs,r,s1,rl,hl,e,k⟩:=h
  refine⟨_,hb cdv A outer s H E hr, ?_⟩
  unfold E8 at e
  obtain⟨fl,e1,e2⟩:=bind_some e
  have hv:vs.length=ps.length:=by rw [rl.length,hl]
  refine⟨F1,H,F1,_,fl, ?_,e1, ?_⟩
  ·have:=b0m (N.length - ps.length) s1 rl
   unfold L2.a0r
   rw [hv]
   exact this
  ·cases fl with
   |rt q=>cases e2;exact fun v F' H' o=>k v F' H' o
   |nx ρ=>cases e2;exact fun σ' F' H' _ so=>k .non F' H' (r9.val so.x rfl)
   |bk ρ=>cases e2
   |ct ρ=>cases e2
section
variable {X:Cx}
def rC1(K:AE)(g:d0->Option d0):List V->Hp->VK->Prop:=fun xs H Q=>∃F x rx rz,xs=[x]/\j5 F H/\N2 K F H x rx/\g rx=some rz/\∀v F' H',r9 K F H F' H' v rz->Q v H'
def rC2(K:AE)(g:d0->d0->Option d0):List V->Hp->VK->Prop:=fun xs H Q=>∃F x y rx ry rz,xs=[x,y]/\j5 F H/\N2 K F H x rx/\N2 K F H y ry/\g rx ry=some rz/\∀v F' H',r9 K F H F' H' v rz->Q v H'
def m1(g:d0->Option d0)(m:M):M:=fun ρ=>(m ρ).bind g
theorem b44{m:M}{g:d0->Option d0}{σ:L2.St}{H:Hp}{Q:VK}(h:tM X.K (m1 g m) σ H Q):tCB (rC1 X.K g) (b0p (tM X.K m) b7q) σ H Q:=by
 obtain⟨F,ρ,r,he,hm,k⟩:=h
 obtain⟨rx,e1,hm⟩:=bind_some hm
 exact⟨F,ρ,rx,he,e1,fun v F1 H1 o1=>⟨F1,v,rx,r,rfl,o1.x.fh,o1.rep,hm,fun z F2 H2 o2=>k z F2 H2 (r9.trans o1.x o2)⟩⟩
theorem b7w{m n:M}{g:d0->d0->Option d0}{σ:L2.St}{H:Hp}{Q:VK}(h:tM X.K (m2 g m n) σ H Q):tCB (rC2 X.K g) (b0p (tM X.K m) (b0p (tM X.K n) b7q)) σ H Q:=by
 obtain⟨F,ρ,r,he,hm,k⟩:=h
 obtain⟨rx,e1,hm⟩:=bind_some hm
 obtain⟨ry,e2,hm⟩:=bind_some hm
 exact⟨F,ρ,rx,he,e1,fun v F1 H1 o1=>⟨F1,ρ,ry,he.ext o1.x,e2,fun u F2 H2 o2=>⟨F2,v,u,rx,ry,r,rfl,o2.x.fh,o1.rep.ext o2.x,o2.rep,hm,fun z F3 H3 o3=>k z F3 H3 (r9.trans (o1.x.trans o2.x) o3)⟩⟩⟩
theorem S0{id:String}{x:Str}{p pos:Pos}{e:AG}{g:d0->Option d0}{m:M}(hc:E9 X (.builtin id) (rC1 X.K g))(hg:Gl X x)(hm:X.mg x=none)(hv:bootBuiltins x=some (.builtin id))(ha:EE X e m)(hn:x≠"__name__":=by decide)(hdb:(x==("__debug__":Str))=false:=by decide)
 (he:AN [e] X.env=(false,eval e X.env)::AN [] X.env:=by rfl) (hpl:(backTo pos (AN [] X.env)).any (·.1)=false:=by rfl):EE X (.Call (.Name x p) [e] [] pos) (m1 g m):=
 u6 (a1L hc hg hm hv (y3 ha O3 he) hn hdb he hpl) fun _ _ _ h=>b44 h
theorem c0a{id:String}{x:Str}{p pos:Pos}{e e2:AG}{g:d0->d0->Option d0}{m n:M}(hc:E9 X (.builtin id) (rC2 X.K g))(hg:Gl X x)(hm:X.mg x=none)(hv:bootBuiltins x=some (.builtin id))(ha:EE X e m)(hb:EE X e2 n)(hn:x≠"__name__":=by decide)(hdb:(x==("__debug__":Str))=false:=by decide)
 (he:AN [e,e2] X.env=(false,eval e X.env)::AN [e2] X.env:=by rfl) (he2:AN [e2] X.env=(false,eval e2 X.env)::AN [] X.env:=by rfl) (hpl:(backTo pos (AN [e2] X.env)).any (·.1)=false:=by rfl):EE X (.Call (.Name x p) [e,e2] [] pos) (m2 g m n):=
 u6 (a1L hc hg hm hv (y3 ha (y3 hb O3 he2) he) hn hdb he hpl) fun _ _ _ h=>b7w h
theorem a7g{T:String}{x:Str}{p pos:Pos}{e:AG}{g:d0->Option d0}{m:M}(hc:E9 X (.type T) (rC1 X.K g))(hg:Gl X x)(hm:X.mg x=none)(hv:bootBuiltins x=some (.type T))(ha:EE X e m)(hn:x≠"__name__":=by decide)(hdb:(x==("__debug__":Str))=false:=by decide)
 (he:AN [e] X.env=(false,eval e X.env)::AN [] X.env:=by rfl) (hpl:(backTo pos (AN [] X.env)).any (·.1)=false:=by rfl):EE X (.Call (.Name x p) [e] [] pos) (m1 g m):=
 u6 (a7N hc hg hm hv (y3 ha O3 he) hn hdb he hpl) fun _ _ _ h=>b44 h
def Q1(x:d0):Option d0:=match x.rd with
 | .str z=>if z.length<=AO then some (.val (.int z.length)) else none
 |p=>match PyData.items? p with
  |some ps=>some (.val (.int ps.length))
  |none=>none
theorem R1:E9 X (.builtin "len") (rC1 X.K Q1):=by
 intro pins s σ H xs us Q I rv h
 obtain⟨F,x,rx,rz,rfl,s0,h1,h2,k⟩:=h
 unfold Q1 at h2
 split at h2
 ·rename_i z ez
  split at h2
  ·rename_i c
   cases h2
   have rr:=h1.rd s0
   rw [ez] at rr
   cases rr
   exact a8a pins s σ H _ us Q I rv ⟨z,rfl,c,k _ F H (r9.here s0 rfl)⟩
  ·cases h2
 ·split at h2
  ·rename_i ps e
   cases h2
   obtain⟨a,xs,rfl,hq,r⟩:=A9 s0 h1 e
   refine a79 pins s σ H _ us Q I rv ⟨a,xs,rfl,hq, ?_⟩
   rw [r.length]
   exact k _ F H (r9.here s0 rfl)
  ·cases h2
theorem b8j(hc:X.calm=true):E9 X (.builtin "min") (rC2 X.K (gI fun i j=> .int (if j<i then j else i))):=by
 intro pins s σ H xs us Q I rv h
 obtain⟨F,x,y,rx,ry,rz,rfl,s0,h1,h2,h3,k⟩:=h
 obtain⟨i,j,rfl,rfl,rfl⟩:=b1X h3
 cases h1;cases h2
 exact b2G hc pins s σ H _ us Q I rv ⟨i,j,rfl,k _ F H (r9.here s0 rfl)⟩
def Y6(x:d0):Option d0:=match PyData.items? x.rd with
 |some ps=>some (.val (.tuple ps))
 |none=>none
theorem b24{F H:Hp}{v:V}{r:d0}{ps:List PV}(s0:j5 F H)(h:N2 X.K F H v r)(e:PyData.items? r.rd=some ps):∃a xs,v= .ref a/\(Z3 X.K H a xs\/(SqT X.K H a xs/\B5 X.K F (.tuple ps) v))/\j4 X.K F ps xs:=by
 cases r with
 |val p=>
  cases p with
  |list qs=>cases e;obtain⟨a,xs,rfl,hq,r⟩:=h;exact⟨a,xs,rfl,.inl (x9 s0 hq),r⟩
  |tuple qs=>cases e;obtain⟨a,xs,rfl,hq,r⟩:=h;exact⟨a,xs,rfl,.inr ⟨u8 s0 hq.sq,⟨a,xs,rfl,hq,r⟩⟩,r⟩
  |_=>cases e
 |ow c=>cases c<;>cases e;obtain⟨a,xs,rfl,_,hq,r⟩:=h;exact⟨a,xs,rfl,.inl (Z3.of hq),r⟩
 |bo c=>cases c<;>cases e;obtain⟨a,xs,rfl,_,hq,r⟩:=h;exact⟨a,xs,rfl,.inl (Z3.of hq),r⟩
theorem a1j:E9 X (.type "tuple") (rC1 X.K Y6):=by
 intro pins s σ H xs us Q I rv h
 obtain⟨F,x,rx,rz,rfl,s0,h1,h2,k⟩:=h
 unfold Y6 at h2
 split at h2
 ·rename_i ps e
  cases h2
  obtain⟨a,xs,rfl,hq,r⟩:=b24 s0 h1 e
  refine a6P pins s σ H _ us Q I rv ⟨a,xs,rfl, ?_⟩
  rcases hq with hq|⟨hq,rp⟩
  ·exact .inl ⟨hq,fun l hl=>k _ _ _ (r9.tup s0 hl r)⟩
  ·exact .inr ⟨hq,k _ F H (r9.here s0 rp)⟩
 ·cases h2
def b4w(x:d0):Option d0:=match PyData.items? x.rd with
 |some ps=>some (.own ps)
 |none=>none
theorem b58:E9 X (.type "list") (rC1 X.K b4w):=by
 intro pins s σ H xs us Q I rv h
 obtain⟨F,x,rx,rz,rfl,s0,h1,h2,k⟩:=h
 unfold b4w at h2
 split at h2
 ·rename_i ps e
  cases h2
  obtain⟨a,xs,rfl,hq,r⟩:=A9 s0 h1 e
  exact a8b pins s σ H _ us Q I rv ⟨a,xs,rfl,hq,fun l hl=>k _ _ _ (r9.lst s0 hl r)⟩
 ·cases h2
def kindOf:PV->String
 | .none=>"NoneType"
 | .bool _=>"bool"
 | .int _=>"int"
 | .str _=>"str"
 | .list _=>"list"
 | .tuple _=>"tuple"
 | .dict _=>"dict"
def a1z(T:String)(p:PV):Bool:=kindOf p==T||(kindOf p=="bool" && T=="int")
def isFn:PV->Bool
 | .dict ((.str _,_)::_)=>true
 |_=>false
def b0M(T:String)(x:d0):Option d0:=bif isFn x.rd then none else some (.val (.bool (a1z T x.rd)))
def b3J(T:String):Prop:=T="int"\/T="bool"\/T="str"\/T="list"\/T="tuple"\/T="dict"
theorem b28{K:AE}{T:String}(h:b3J T):∀p:PV,PySem.W.kitOne K (.type (kindOf p)) (.type T)=some (a1z T p):=by
 intro p
 rcases h with rfl|rfl|rfl|rfl|rfl|rfl<;>cases p<;>kernel_rfl
theorem a8g{T:String}{e:AG}{m:M}{p p2 pos:Pos}(kt:b3J T)(hg:Gl X "isinstance")(hm:X.mg "isinstance"=none)(ha:EE X e m)(hT:PE X (.Name (AK T) p2) (tC (.ty T)))
 (he:AN [e,.Name (AK T) p2] X.env=(false,eval e X.env)::AN [.Name (AK T) p2] X.env:=by rfl) (he2:AN [.Name (AK T) p2] X.env=(false,eval (.Name (AK T) p2) X.env)::AN [] X.env:=by rfl) (hpl:(backTo pos (AN [.Name (AK T) p2] X.env)).any (·.1)=false:=by rfl)
 (hv:bootBuiltins "isinstance"=some (.builtin "isinstance"):=by rfl):
 EE X (.Call (.Name "isinstance" p) [e,.Name (AK T) p2] [] pos) (m1 (b0M T) m):=by
 have hc:E9 X (.builtin "isinstance") (fun xs H Q=>∃F x rx,xs=[x,.ty T]/\j5 F H/\N2 X.K F H x rx/\isFn rx.rd=false/\Q (.bl (a1z T rx.rd)) H):=by
  intro pins s σ H xs us Q I rv h
  obtain⟨F,x,rx,rfl,s0,h1,nf,q⟩:=h
  obtain⟨u,u2,rfl,ru,ru2⟩:∃u1 u2,us=[u1,u2]/\l8 x u1/\l8 (.ty T) u2:=by
   cases rv with
   |cons p q=>
    cases q with
    |cons p' q'=>
     cases q'
     exact⟨_,_,rfl,p,p'⟩
  cases ru2
  have rr:=h1.rd s0
  have kk:=b28 (K:=X.K) kt rx.rd
  have fin:∀tk,EP X pins σ Q (.bool (a1z T rx.rd)) {s with toks:=tk}:=fun tk=>⟨.bl _,H,I.tok tk,rfl,q⟩
  cases hp:rx.rd with
  |none=>rw [hp] at rr kk fin;cases rr;cases ru;exact PySem.W.kia_one PySem.W.kitx_none I.kIn True.intro kk (fun z=>nomatch z) fin
  |bool b=>rw [hp] at rr kk fin;cases rr;cases ru;exact PySem.W.kia_one PySem.W.kitx_bool I.kIn True.intro kk (fun z=>nomatch z) fin
  |int b=>rw [hp] at rr kk fin;cases rr;obtain⟨t,rfl⟩:=ru;exact PySem.W.kia_one PySem.W.kitx_int I.kIn True.intro kk (fun z=>nomatch z) fin
  |str b=>rw [hp] at rr kk fin;cases rr;obtain⟨t,rfl⟩:=ru;exact PySem.W.kia_one PySem.W.kitx_str I.kIn True.intro kk (fun z=>nomatch z) fin
  |list ps=>
   rw [hp] at rr kk fin
   obtain⟨a,ys,rfl,hq,_⟩:=rr
   cases ru
   obtain⟨its,_,⟨o,n,e1,e2,_⟩,_⟩:=I.list hq
   exact PySem.W.kia_one PySem.W.kitx_list I.kIn ⟨o,e1,e2⟩ kk (fun z=>nomatch z) fin
  |tuple ps=>
   rw [hp] at rr kk fin
   obtain⟨a,ys,rfl,hq,_⟩:=rr
   cases ru
   obtain⟨its,_,⟨o,e1,e2,_⟩,_⟩:=I.tuple hq.sq
   exact PySem.W.kia_one PySem.W.kitx_tuple I.kIn ⟨o,e1,e2⟩ kk (fun z=>nomatch z) fin
  |dict ps=>
   rw [hp] at rr kk fin nf
   rcases rr with⟨a,_,rfl,hq,_⟩|⟨a,_,rfl,hq,_⟩|⟨x,_,rfl,_⟩|⟨x,m,fs,_,hf⟩
   ·cases ru
    obtain⟨_,_,_,_,o,_,_,e1,e2,_⟩:=I.hok a _ hq
    exact PySem.W.kia_one PySem.W.kitx_dict I.kIn ⟨o,e1,e2.1⟩ kk (fun z=>nomatch z) fin
   ·cases ru
    obtain⟨_,_,_,_,o,_,_,e1,e2,_⟩:=I.hok a _ hq
    exact PySem.W.kia_one PySem.W.kitx_dict I.kIn ⟨o,e1,e2.1⟩ kk (fun z=>nomatch z) fin
   ·cases nf
   ·cases ps with
    |nil=>cases hf
    |cons f ps=>obtain⟨k,p⟩:=f;obtain⟨_,_,_,_,z,_⟩:=hf;subst z;cases nf
 exact u6 (a1L hc hg hm hv (y3 ha (y3 hT O3 he2) he) (by decide) (by decide) he hpl) fun σ H Q h0=>t6 h0 fun F ρ r h1 h2 k=>by
  obtain⟨rx,e1,h2⟩:=bind_some h2
  unfold b0M at h2
  cases nf:isFn rx.rd with
  |true=>rw [nf] at h2;cases h2
  |false=>
   rw [nf] at h2
   cases h2
   exact⟨F,ρ,rx,h1,e1,fun v F1 H1 o=>⟨F1,v,rx,rfl,o.x.fh,o.rep,nf,k _ F1 H1 (r9.val o.x rfl)⟩⟩
def a2q(q:PV):List PV->Option Nat
 |[]=>none
 |p::ps=>if PyData.eqv p q=true then some 0 else(a2q q ps).map (· +1)
def U8(x y:d0):Option d0:=match x.rd with
 | .list ps=>if i9 y.rd 50=true/\u4 ps 50=true/\ps.length<=1000 then(a2q y.rd ps).map fun j=> .val (.int (j:Nat)) else none
 |_=>none
theorem a5M{q:PV}:∀{ps:List PV} {j:Nat},a2q q ps=some j->j<ps.length/\(∃p,ps[j]?=some p/\PyData.eqv p q=true)/\∀m p,m<j->ps[m]?=some p->PyData.eqv p q=false
 |[],_,h=>by cases h
 |p::ps,j,h=>by
  unfold a2q at h
  split at h
  ·rename_i c
   cases h
   exact⟨by simp,⟨p,rfl,c⟩,fun m _ hm=>absurd hm (Nat.not_lt_zero m)⟩
  ·rename_i c
   cases e:a2q q ps with
   |none=>rw [e] at h;cases h
   |some k=>
    rw [e] at h;cases h
    obtain⟨h1,⟨p',h2,h3⟩,h4⟩:=a5M e
    refine⟨by simp;lia,⟨p',by simpa using h2,h3⟩,fun m r hm er=> ?_⟩
    cases m with
    |zero=>simp at er;subst er;simpa using c
    |succ m=>exact h4 m r (Nat.lt_of_succ_lt_succ hm) (by simpa using er)
theorem b4V(hu:X.A.units+64<cLine):MtR X "list.index" (fun x xs H Q=>∃F y rx ry rz,xs=[y]/\j5 F H/\N2 X.K F H x rx/\N2 X.K F H y ry/\U8 rx ry=some rz/\∀v F' H',r9 X.K F H F' H' v rz->Q v H'):=by
 intro pins s σ H x xs v us Q I rx rv h
 obtain⟨F,y,ra,rb,rz,rfl,s0,h1,h2,h3,k⟩:=h
 obtain⟨u,rfl,ru⟩:=a01 rv
 unfold U8 at h3
 split at h3
 ·rename_i ps ep
  split at h3
  ·rename_i c
   cases e:a2q rb.rd ps with
   |none=>rw [e] at h3;cases h3
   |some j=>
    rw [e] at h3;cases h3
    obtain⟨g1,⟨p,g2,g3⟩,g4⟩:=a5M e
    have rr:=h1.rd s0
    rw [ep] at rr
    obtain⟨a,xs,rfl,hq,rl⟩:=rr
    cases rx
    obtain⟨its,rv,pl,hz⟩:=I.list hq
    have hlen:its.length=ps.length:=by rw [<-rv.length,rl.length]
    have ei:∀m (hm:m<its.toArray.size) p,ps[m]?=some p->a03 X.K H rb.rd its.toArray[m]=PyData.eqv p rb.rd:=by
     intro m hm p hp
     obtain⟨z,ez,rz⟩:=a2c rv (by simpa using hm)
     obtain⟨p',ep',rp'⟩:=rl.getV ez
     rw [hp] at ep';cases ep'
     have:=a8f I (q:=rb.rd) rz rp' (u9 c.2.1 (BC hp))
     simpa using this
    obtain⟨⟨cls,dd,data,sl⟩,n,ho,hc,hd,hdt⟩:=pl
    simp only at hc hd hdt
    subst hc hd hdt
    refine call_meets PySem.F.slot_list_index ⟨_,ho,rfl⟩ PySem.F.entry_list_index (PySem.F.args_list_index_2 _ _)
     (SeqAt.list_indexAt a its.toArray n _ sl u (a03 X.K H rb.rd) j (by simpa [hlen] using g1) (by have:=c.2.2;lia) ?_ ?_) ⟨ho,a1y I hu c.1 c.2.1 (h2.rd s0) ru rl rv, ?_⟩
    ·rw [ei j _ p g2];exact g3
    ·intro m hm hlt
     have hm':m<ps.length:=by rw [<-hlen];simpa using hm
     rw [ei m hm ps[m] (by simp [hm'])]
     exact g4 m ps[m] hlt (by simp [hm'])
    ·exact⟨.int j,H,I.tok _,⟨_,rfl⟩,k _ F H (r9.here s0 rfl)⟩
  ·cases h3
 ·cases h3
theorem a9C{o e:AG}{m n:M}{apos cpos:Pos}(hu:X.A.units+64<cLine)(ho:EE X o m)(ha:EE X e n)
 (hbase:attributeBase o "index" X.env (eval o X.env)=eval o X.env:=by rfl)
 (hfew:((backTo cpos (AN [e] X.env)).all (fun x=> !x.1)&&(backToKw cpos (keywordEach [] X.env)).all (fun x=>x.1.isSome)
  && decide ([e].length+([]:List Keyword).length+(if([]:List Keyword).isEmpty then 0 else 1)<30))=true:=by rfl)
 (hline:(apos.endLine==cpos.line)=true:=by rfl) (hs:AN [e] X.env=(false,eval e X.env)::AN [] X.env:=by rfl) (hplain:(backTo cpos (AN [] X.env)).any (·.1)=false:=by rfl):
 EE X (.Call (.Attribute o "index" apos) [e] [] cpos) (m2 U8 m n):=
 u6 (b5b PySem.F.plainAttrs_list PySem.F.slot_list_index PySem.F.type_list_index (b4V hu) ho (y3 ha O3 hs) hbase hfew hline hs hplain) fun σ H Q h0=>t6 h0 fun F ρ r he hm k=>by
  obtain⟨rx,e1,hm⟩:=bind_some hm
  obtain⟨ry,e2,hm⟩:=bind_some hm
  refine⟨F,ρ,rx,he,e1,fun v F1 H1 o1=>⟨?_,⟨F1,ρ,ry,he.ext o1.x,e2,fun u F2 H2 o2=>⟨F2,u,rx,ry,r,rfl,o2.x.fh,o1.rep.ext o2.x,o2.rep,hm,fun z F3 H3 o3=>k z F3 H3 (r9.trans (o1.x.trans o2.x) o3)⟩⟩⟩⟩
  unfold U8 at hm
  split at hm
  ·rename_i ps ep
   have rr:=o1.rep.rd o1.x.fh
   rw [ep] at rr
   obtain⟨a,xs,rfl,hq,_⟩:=rr
   exact .inl ⟨rfl,xs,hq⟩
  ·cases hm
theorem SOk.putC{K:AE}{F0 H0 F H:Hp}{σ:L2.St}{ρ:a9}{i:Nat}{c d:Y2}{a:AB}{o:HO}(s:SOk K F0 H0 F H σ ρ)(e:ρ[i]?=some (some (.ow c)))(ea:σ[i]?=some (some (.ref a)))(r:F a=none->a06 K F (t8 H a o) (.ref a) d):
 SOk K F0 H0 F (t8 H a o) σ (ρ.set i (some (.ow d))):=by
 obtain⟨v,h1,rr0⟩:=s.e.at_ i _ e
 obtain⟨a',xs,rfl,fa,ha⟩:=a06.at_ rr0
 rw [ea] at h1;cases h1
 have na:H0 a=none:=s.nw i c a e ea
 have hi:i<ρ.length:=(As.mp e).1
 refine⟨⟨s.x.f,fun b o z=>by rw [g6 (j9 z na)];exact s.x.h _ _ z,fun b o z=>by rw [g6 (j9 z fa)];exact s.x.fh _ _ z,s.x.nw,s.x.nf⟩,⟨fun b o z=>by rw [g6 (j9 z fa)];exact s.e.fh _ _ z,by simp [s.e.len],fun j q ej=> ?_,fun j z ej=> ?_,fun j k z1 z2 c' hjk e1 e2 e3 e4=> ?_⟩,fun j z c' e1 e2=> ?_⟩
 ·rw [List.getElem?_set] at ej
  by_cases hij:i=j
  ·subst hij
   rw [if_pos rfl,if_pos hi] at ej
   cases ej
   exact⟨.ref a,ea,r fa⟩
  ·rw [if_neg hij] at ej
   obtain⟨v,h1,rr⟩:=s.e.at_ j q ej
   refine⟨v,h1, ?_⟩
   cases q with
   |val p=>exact rr
   |bo z=>exact absurd ej (s.e.nb j z)
   |ow z=>
    have key:∀b,v= .ref b->b≠a:=fun b hb hab=>by subst hab;subst hb;exact s.e.ap i j c z b hij e ej ea h1
    cases z with
    |lst z=>
     obtain⟨b,zs,rfl,fb,hb,rz⟩:=rr
     exact⟨b,zs,rfl,fb,by rw [g6 (key b rfl)];exact hb,rz⟩
    |dct z=>
     obtain⟨b,zs,rfl,fb,hb,rz⟩:=rr
     exact⟨b,zs,rfl,fb,by rw [g6 (key b rfl)];exact hb,rz⟩
    |txt z=>
     obtain⟨b,zs,rfl,fb,hb,rz⟩:=rr
     exact⟨b,zs,rfl,fb,by rw [g6 (key b rfl)];exact hb,rz⟩
 ·rw [List.getElem?_set] at ej
  by_cases hij:i=j
  ·subst hij;rw [if_pos rfl,if_pos hi] at ej;cases ej
  ·rw [if_neg hij] at ej;exact s.e.nb j z ej
 ·have own_at:∀(j:Nat) (z:Y2),(ρ.set i (some (d0.ow d)))[j]?=some (some (d0.ow z))->∃z':Y2,ρ[j]?=some (some (d0.ow z')):=fun j z h=>by
   rw [List.getElem?_set] at h
   by_cases hij:i=j
   ·subst hij;exact⟨c,e⟩
   ·rw [if_neg hij] at h;exact⟨z,h⟩
  obtain⟨y1,h1⟩:=own_at j z1 e1
  obtain⟨y2,h2⟩:=own_at k z2 e2
  exact s.e.ap j k y1 y2 c' hjk h1 h2 e3 e4
 ·rw [List.getElem?_set] at e1
  by_cases hij:i=j
  ·subst hij;rw [ea] at e2;cases e2;exact na
  ·rw [if_neg hij] at e1;exact s.nw j z c' e1 e2
theorem SOk.put{K:AE}{F0 H0 F H:Hp}{σ:L2.St}{ρ:a9}{i:Nat}{ps qs:List PV}{a:AB}{ys:List V}(s:SOk K F0 H0 F H σ ρ)(e:ρ[i]?=some (some (.own ps)))(ea:σ[i]?=some (some (.ref a)))(r:j4 K F qs ys):
 SOk K F0 H0 F (t8 H a (.lst ys)) σ (ρ.set i (some (.own qs))):=s.putC e ea fun fa=>⟨a,ys,rfl,fa,j7,r⟩
theorem SOk.putD{K:AE}{F0 H0 F H:Hp}{σ:L2.St}{ρ:a9}{i:Nat}{ps qs:List (List m3×PV)}{a:AB}{ys:List (List m3×V)}(s:SOk K F0 H0 F H σ ρ)(e:ρ[i]?=some (some (.dct ps)))(ea:σ[i]?=some (some (.ref a)))(r:C7 K F qs ys):
 SOk K F0 H0 F (t8 H a (.dT ys)) σ (ρ.set i (some (.dct qs))):=s.putC e ea fun fa=>⟨a,ys,rfl,fa,j7,r⟩
def S9(i:Nat)(m:M):MS:=fun ρ=>(m ρ).bind fun r=>r.toVal.bind fun p=>match ρ[i]? with
 |some (some (.ow (.lst ps)))=>if ps.length<AO then some (.nx (ρ.set i (some (.own (ps++[p]))))) else none
 |_=>none
theorem a13(i:Nat){x:Str}{p apos cpos pos:Pos}{e:AG}{m:M}(hx:PE X (.Name x p) (a4n i))(ha:EE X e m)
 (hbase:attributeBase (.Name x p) "append" X.env (eval (.Name x p) X.env)=eval (.Name x p) X.env:=by rfl)
 (hfew:((backTo cpos (AN [e] X.env)).all (fun x=> !x.1)&&(backToKw cpos (keywordEach [] X.env)).all (fun x=>x.1.isSome)
  && decide ([e].length+([]:List Keyword).length+(if([]:List Keyword).isEmpty then 0 else 1)<30))=true:=by rfl)
 (hline:(apos.endLine==cpos.line)=true:=by rfl) (hs:AN [e] X.env=(false,eval e X.env)::AN [] X.env:=by rfl) (hplain:(backTo cpos (AN [] X.env)).any (·.1)=false:=by rfl)
 (hsw:swapsWith (.Call (.Attribute (.Name x p) "append" apos) [e] [] cpos) none pos.line X.env=pure false:=by rfl):
 ES X (.Expr (.Call (.Attribute (.Name x p) "append" apos) [e] [] cpos) pos) (S9 i m):=
 x6 (a8Z (b5b PySem.F.plainAttrs_list PySem.F.slot_list_append PySem.F.type_list_append a7I hx (y3 ha O3 hs) hbase hfew hline hs hplain) hsw) fun D σ H h0=>C8 h0 fun F0 H0 F ρ fl so e fin=>by
  obtain⟨r,e1,e⟩:=bind_some e
  obtain⟨q,e2,e⟩:=bind_some e
  split at e
  ·rename_i ps eo
   split at e
   ·rename_i c
    cases e
    obtain⟨v,h1,a,xs,rfl,fa,ha',rl⟩:=so.e.at_ i _ eo
    refine⟨.ref a,h1,.inl ⟨rfl,xs,Z3.of ha'⟩,F,ρ,r,so.e,e1,fun w F1 H1 o=> ?_⟩
    obtain⟨F2,o2⟩:=o.toVal e2
    have so2:=so.ext o2.x
    refine⟨a,xs,w,rfl,rfl,o.x.h _ _ ha',by rw [rl.length];exact c, ?_⟩
    exact fin σ F2 _ o2.x.f (so2.put eo h1 ((j4.mono o2.x.f _ rl).append ⟨w,[],rfl,o2.rep,rfl⟩))
   ·cases e
  ·cases e
def b8W(i:Nat)(g:d0->d0->Option d0)(m:M):MS:=fun ρ=>match ρ[i]? with
 |some (some (.val x))=>(m ρ).bind fun y=>(g (.val x) y).bind fun z=>if z.nb=true then some (.nx (ρ.set i (some z))) else none
 |_=>none
theorem b8o{i:Nat}{x:Str}{e:AG}{m:M}{g:d0->d0->Option d0}{op:Operator}{pos pos':Pos}(hN:X.N.Nodup)(he:EE X e m)(ho:OpM X (inplaceOp op) g)(hi:X.N[i]?=some x:=by rfl)(hx:Loc X.env.scope x:=by exact Or.inl rfl)(hf:X.fn x=true\/X.env.scope.names.lookup x=some .local:=by first|exact .inl rfl|exact .inr rfl|assumption):
 ES X (.AugAssign (.Name x pos') op e pos) (b8W i g m):=
 x6 (b9r hN hi hx he (ti:=rM2 X.K g) ho hf) fun D σ H h0=>C8 h0 fun F0 H0 F ρ fl so e fin=>by
  unfold b8W at e
  split at e
  ·rename_i p ep
   obtain⟨y,e1,e⟩:=bind_some e
   obtain⟨z,e2,e⟩:=bind_some e
   split at e
   ·rename_i c
    cases e
    obtain⟨v,h1,rv⟩:=so.e.at_ i _ ep
    exact⟨v,h1,F,ρ,y,so.e,e1,fun u F1 H1 o=>⟨F1,.val p,y,z,o.x.fh,rv.ext o.x,o.rep,e2,fun t F2 H2 o2=>fin _ F2 H2 (o.x.f.trans o2.x.f) ((so.ext o.x).set o2 c i)⟩⟩
   ·cases e
  ·cases e
def a43(i:Nat)(n:MS):MS:=fun ρ=>match ρ[i]? with
 |some (some (.ow (.lst ps)))=>n (ρ.set i (some (.val (.list ps))))
 |_=>n ρ
theorem SOk.frz{K:AE}{F0 H0 F H:Hp}{σ:L2.St}{ρ:a9}{i:Nat}{ps:List PV}(s:SOk K F0 H0 F H σ ρ)(e:ρ[i]?=some (some (.own ps))):∃F',j5 F F'/\SOk K F0 H0 F' H σ (ρ.set i (some (.val (.list ps)))):=by
 obtain⟨v,h1,a,xs,rfl,fa,ha,rl⟩:=s.e.at_ i _ e
 have na:H0 a=none:=s.nw i _ a e h1
 have hi:i<ρ.length:=(As.mp e).1
 have up:j5 F (t8 F a (.lst xs)):=Q6 fa
 have fh:j5 (t8 F a (.lst xs)) H:=fun b o z=>by
  by_cases hb:b=a
  ·subst hb;rw [j7] at z;cases z;exact ha
  ·rw [g6 hb] at z;exact s.e.fh _ _ z
 refine⟨t8 F a (.lst xs),up,⟨⟨s.x.f.trans up,s.x.h,fh,fun b o z y t=>by rw [g6 (j9 y na)];exact s.x.nw b o z y t,b4Z s.x.nf⟩,⟨fh,by simp [s.e.len],fun j q ej=> ?_,fun j z ej=> ?_,fun j k z1 z2 c hjk e1 e2 e3 e4=> ?_⟩,fun j z c e1 e2=> ?_⟩⟩
 ·rw [List.getElem?_set] at ej
  by_cases hij:i=j
  ·subst hij
   rw [if_pos rfl,if_pos hi] at ej
   cases ej
   exact⟨.ref a,h1,a,xs,rfl,Z3.of j7,j4.mono up _ rl⟩
  ·rw [if_neg hij] at ej
   obtain⟨v,h2,rr⟩:=s.e.at_ j q ej
   refine⟨v,h2, ?_⟩
   cases q with
   |val p=>exact B5.mono up p rr
   |bo z=>exact absurd ej (s.e.nb j z)
   |ow z=>
    have key:∀b,v= .ref b->b≠a:=fun b hb hab=>by subst hab;subst hb;exact s.e.ap i j _ z b hij e ej h1 h2
    cases z with
    |lst z=>
     obtain⟨b,zs,rfl,fb,hb,rz⟩:=rr
     exact⟨b,zs,rfl,by rw [g6 (key b rfl)];exact fb,hb,j4.mono up _ rz⟩
    |dct z=>
     obtain⟨b,zs,rfl,fb,hb,rz⟩:=rr
     exact⟨b,zs,rfl,by rw [g6 (key b rfl)];exact fb,hb,C7.mono up _ rz⟩
    |txt z=>
     obtain⟨b,zs,rfl,fb,hb,rz⟩:=rr
     exact⟨b,zs,rfl,by rw [g6 (key b rfl)];exact fb,hb,C7.mono up _ rz⟩
 ·rw [List.getElem?_set] at ej
  by_cases hij:i=j
  ·subst hij;rw [if_pos rfl,if_pos hi] at ej;cases ej
  ·rw [if_neg hij] at ej;exact s.e.nb j z ej
 ·have own_at:∀(j:Nat) (z:Y2),(ρ.set i (some (d0.val (.list ps))))[j]?=some (some (d0.ow z))->ρ[j]?=some (some (d0.ow z)):=fun j z h=>by
   rw [List.getElem?_set] at h
   by_cases hij:i=j
   ·subst hij;rw [if_pos rfl,if_pos hi] at h;cases h
   ·rw [if_neg hij] at h;exact h
  exact s.e.ap j k z1 z2 c hjk (own_at j z1 e1) (own_at k z2 e2) e3 e4
 ·rw [List.getElem?_set] at e1
  by_cases hij:i=j
  ·subst hij;rw [if_pos rfl,if_pos hi] at e1;cases e1
  ·rw [if_neg hij] at e1;exact s.nw j z c e1 e2
theorem a5J(i:Nat){st:Stmt}{n:MS}(h:ES X st n):ES X st (a43 i n):=x6 h fun D σ H h0=>C8 h0 fun F0 H0 F ρ fl so e fin=>by
 unfold a43 at e
 split at e
 ·rename_i ps eo
  obtain⟨F',s,so'⟩:=so.frz eo
  exact⟨F0,H0,F',_,fl,so',e,fin.later s⟩
 ·exact⟨F0,H0,F,ρ,fl,so,e,fin⟩
end
def b9G(K:AE)(n:Nat)(a:AB):Option (List (m3×PV)):=match K.lookup a with
 |some ⟨.type "dict",none,.dict es _,⟨[]⟩⟩=>(a4E es.toList).bind (a0w K n)
 |_=>none
def a8t(K:AE)(a:AB):List Int:=match K.lookup a with
 |some ⟨_,_,.dict es _,_⟩=>es.toList.map (·.hash)
 |_=>[]
theorem a21{κ:Type}{K:AE}{n:Nat}:∀{kvs:List (κ×AA)} {tbl:List (κ×PV)},a0w K n kvs=some tbl->tbl.map (·.1)=kvs.map (·.1)
 |[],_,h=>by cases h;rfl
 |(k,u)::r,tbl,h=>by
  simp only [a0w] at h
  obtain⟨q,e1,h⟩:=bind_some h
  obtain⟨t,e2,h⟩:=bind_some h
  cases h
  rw [AQ,AQ,a21 e2]
theorem b4S{κ α β:Type}{γ:Type}(f:κ->γ):∀{l:List (κ×α)} {m:List (κ×β)},l.map (·.1)=m.map (·.1)->l.map (fun x=>f x.1)=m.map (fun x=>f x.1):=fun {l m} h=>by
 have h1:l.map (fun x=>f x.1)=(l.map (·.1)).map f:=by simp [Aw,Function.comp_def]
 have h2:m.map (fun x=>f x.1)=(m.map (·.1)).map f:=by simp [Aw,Function.comp_def]
 rw [h1,h2,h]
theorem b9I{P:AL}{w:AJ}{K:AE}{a:AB}{tbl:List (m3×PV)}(n:Nat)(t:b9G K n a=some tbl)(h:a8t K a=tbl.map (fun kv=>b25 w kv.1))(nd:(tbl.map (·.1)).Nodup):Tab P w K a tbl:=by
 unfold b9G at t
 split at t
 ·rename_i es ep e
  obtain⟨kvs,e1,e2⟩:=bind_some t
  have hk:=a21 e2
  refine⟨es,ep,kvs,n,e,e1, ?_,e2,by rw [<-hk];exact nd⟩
  unfold a8t at h
  rw [e] at h
  rw [<-b4S (b25 w) hk]
  exact h
 ·cases t
def w6(P:AL)(w:AJ)(K:AE)(mg:Str->Option AA)(base:Heap)(x:Str)(ps:List Str)(k:Nat)(g:List PV->Option d0):Prop:=
 ∃f fd,M4 P w K mg base CX0 k f fd ps (spP K ps.length g)/\mg x=some (.ref f)/\PySem.W.keepIn K (.ref f)=true/\Z2 K fd ps []
section
variable {X:Cx}
theorem i7{k k':Nat}{ps:List Str}{g:List PV->Option d0}{x:Str}{p pos:Pos}{e:AG}{es:List AG}{m:MA}
 (d:w6 X.prog X.w X.K X.mg X.base x ps k g) (hr:D3 k' X.A) (hk:k<=k') (hg:Gl X x) (hn:∀ρ qs,m ρ=some qs->qs.length=ps.length) (ha:EA X (e::es) m)
 (hdb:(x==("__debug__":Str))=false:=by decide) (he:AN (e::es) X.env=(false,eval e X.env)::AN es X.env:=by rfl) (hpl:(backTo pos (AN es X.env)).any (·.1)=false:=by rfl):
 EE X (.Call (.Name x p) (e::es) [] pos) (i6 g m):=by
 obtain⟨f,fd,G,h1,h2,h3⟩:=d
 exact b6e G (hr.mono hk) hg h1 h2 h3 hn ha hdb he hpl
end
def b0l(K:AE):Sp:=fun vs H Q _=>∃(a:AB) (ns:List Int),vs=[.ref a]/\Z3 K H a (ns.map V.int)/\ns.length<=63/\∀H',Q (.bl true) H'
theorem a7R{K:AE}{H:Hp}:∀ns:List Int,j4 K H (ns.map PyData.int) (ns.map V.int)
 |[]=>rfl
 |n::ns=>⟨.int n,_,rfl,rfl,a7R ns⟩
theorem b6C{K:AE}{g:List PV->Option d0}(h:∀ns:List Int,ns.length<=63->g [.list (ns.map .int)]=some (.val (.bool true))):∀vs H Q E,b0l K vs H Q E->spP K 1 g vs H Q E:=
 fun vs H Q E ⟨a,ns,e,hs,hl,k⟩=>by
  subst e
  exact⟨H,[.list (ns.map .int)],_,PU.j5.refl H,⟨.ref a,[],rfl,⟨a,_,rfl,hs,a7R ns⟩,rfl⟩,rfl,h ns hl,fun v F' H' o=>by
   have:v= .bl true:=o.rep
   subst this
   exact k H'⟩
theorem c1t{l:PySem.W.OpenLaw}{q:AL}{loose:List Str}{XP:(Str->Option AA)->Heap->Prop}{YP:AJ->Heap->Prop}{d:DefRec}{K:Params->AE}{x:Str}{k:Nat}(hk:k<=40)(hn:l.most=some 63)(hdf:d.params.defaults=[])
 (hY:∀(w:AJ) (h:Heap),YP w h->(K w.params).In h)
 (F:∀(w:AJ) (mg:Str->Option AA) (fa:AB) (h:Heap),(K w.params).In h->h.Ns mainGlobals mg->mg d.name=some (.ref fa)->
  ∃fd:FuncData,(∀(s:AC) (u:AA),BindsTo s fd ⟨[u],[]⟩ [(x,u)])/\∀base:Heap,(K w.params).In base->base.Ns mainGlobals mg->M4 l.prog w (K w.params) mg base CX0 k fa fd [x] (b0l (K w.params))):
 PySem.W.WalkO q loose XP YP l.row.toRowW d [] (fun f vs=>PySem.call f vs):=
 L2.b7z (n:=63) (k:=40) (x:=x) (CX:=fun _=>CX0) (sp:=fun w=>b0l (K w.params)) hn (by decide) hdf ⟨rfl,by decide,by decide⟩ hY (fun w mg fa h a b c=>let ⟨fd,h1,h2⟩:=F w mg fa h a b c;⟨fd,h1,fun base x y=>(h2 base x y).mono hk⟩) (fun _ _ a ns hl _ hS=>⟨a,ns,rfl,hS,hl,fun _=>rfl⟩) fun _ _ _ _ _ z=>z
def b6o(x y:d0):Option d0:=M5 a4X (fun i j=> .int (i*j)) x y
theorem b47{X:Cx}:OpM X (binaryOp .Mult) b6o:=b6Z
theorem v4(i j:Int):E5 (.val (.int i)) (.val (.int j))=some (.val (.int (i+j))):=Eq.trans rfl rfl
theorem b4r{i j:Str}(h:i.length+j.length<=AO):E5 (.val (.str i)) (.val (.str j))=some (.val (.str (i++j))):=by simp [E5,h]
theorem a30(f:Int->Int->PV)(i j:Int):gI f (.val (.int i)) (.val (.int j))=some (.val (f i j)):=Eq.trans rfl rfl
theorem a15{C:Int->Int->Prop}[∀i j,Decidable (C i j)](f:Int->Int->PV){i j:Int}(h:C i j):M5 C f (.val (.int i)) (.val (.int j))=some (.val (f i j)):=by
 show(if okC C i j=true then some (d0.val (f i j)) else none)=_
 rw [if_pos (a18.mpr h)]
theorem b8A{i j:Int}(h: -18446744073709551616<i/\i<18446744073709551616):b6o (.val (.int i)) (.val (.int j))=some (.val (.int (i*j))):=a15 _ (.inl (by lia))
theorem b8B{i j:Int}(h: -18446744073709551616<j/\j<18446744073709551616):b6o (.val (.int i)) (.val (.int j))=some (.val (.int (i*j))):=a15 _ (.inr (by lia))
theorem n4{f:Int->Int->PV}{i j:Int}(h:0<j):M5 (fun _ j=>0<j) f (.val (.int i)) (.val (.int j))=some (.val (f i j)):=a15 _ h
theorem z6{f:Int->Int->PV}{i j:Int}(h:0<j/\j<1073741824):M5 a02 f (.val (.int i)) (.val (.int j))=some (.val (f i j)):=a15 _ h
theorem b4y{f:Int->Int->PV}{i j:Int}(h:(0<=j/\j<=1000000)/\i.natAbs<18446744073709551616):M5 b2y f (.val (.int i)) (.val (.int j))=some (.val (f i j)):=a15 _ ⟨h.1.1,h.1.2,h.2⟩
theorem b8y{x y:d0}(h:i9 x.rd 50=true/\i9 y.rd 50=true):gEq x y=some (.val (.bool (PyData.eqv x.rd y.rd))):=by simp [gEq,h]
theorem b8C{x y:d0}(h:i9 x.rd 50=true/\i9 y.rd 50=true):gNe x y=some (.val (.bool (!PyData.eqv x.rd y.rd))):=by simp [gNe,h]
theorem a31(ps:List PV):Q1 (.val (.list ps))=some (.val (.int ps.length)):=Eq.trans rfl rfl
theorem b4v(ps:List PV):Q1 (.val (.tuple ps))=some (.val (.int ps.length)):=Eq.trans rfl rfl
theorem a5R(ps:List PV):Q1 (.own ps)=some (.val (.int ps.length)):=Eq.trans rfl rfl
theorem a5Q(ps:List PV):Q1 (.bor ps)=some (.val (.int ps.length)):=Eq.trans rfl rfl
theorem a9J{ps:List PV}{i:Int}{p:PV}(h:L2.atI ps i=some p):y6 (.val (.list ps)) (.val (.int i))=some (.val p):=by simp [y6,d0.rd,Y2.rd,PyData.items?,h]
theorem a3e{ps:List PV}{i:Int}{p:PV}(h:L2.atI ps i=some p):y6 (.val (.tuple ps)) (.val (.int i))=some (.val p):=by simp [y6,d0.rd,Y2.rd,PyData.items?,h]
theorem b6m{ps:List PV}{i:Int}{p:PV}(h:L2.atI ps i=some p):y6 (.own ps) (.val (.int i))=some (.val p):=by simp [y6,d0.rd,Y2.rd,PyData.items?,h]
theorem a1w(p:PV)(ps:List PV):y6 (.val (.tuple (p::ps))) (.val (.int 0))=some (.val p):=by
 refine a3e ?_
 have h:(0:Int)<(((p::ps).length:Nat):Int):=by simp only [AT];lia
 unfold L2.atI L2.ixN
 rw [if_pos (by decide),if_pos h]
 rfl
theorem a3f(p q:PV)(ps:List PV):y6 (.val (.tuple (p::q::ps))) (.val (.int 1))=some (.val q):=by
 refine a3e ?_
 have h:(1:Int)<(((p::q::ps).length:Nat):Int):=by simp only [AT];lia
 unfold L2.atI L2.ixN
 rw [if_pos (by decide),if_pos h]
 rfl
theorem a5O(p q r:PV)(ps:List PV):y6 (.val (.tuple (p::q::r::ps))) (.val (.int 2))=some (.val r):=by
 refine a3e ?_
 have h:(2:Int)<(((p::q::r::ps).length:Nat):Int):=by simp only [AT];lia
 unfold L2.atI L2.ixN
 rw [if_pos (by decide),if_pos h]
 rfl
theorem b4t(p q r t:PV)(ps:List PV):y6 (.val (.tuple (p::q::r::t::ps))) (.val (.int 3))=some (.val t):=by
 refine a3e ?_
 have h:(3:Int)<(((p::q::r::t::ps).length:Nat):Int):=by simp only [AT];lia
 unfold L2.atI L2.ixN
 rw [if_pos (by decide),if_pos h]
 rfl
theorem g9(g:d0->d0->Option d0)(ma mb:M)(ρ:a9):m2 g ma mb ρ=(ma ρ).bind fun x=>(mb ρ).bind fun y=>g x y:=Eq.trans rfl rfl
theorem n6(g:d0->Option d0)(ma:M)(ρ:a9):m1 g ma ρ=(ma ρ).bind g:=Eq.trans rfl rfl
theorem g0(p:PV)(ρ:a9):mC p ρ=some (.val p):=Eq.trans rfl rfl
theorem b9(p:PV)(ρ:a9):a7 0 (some (.val p)::ρ)=some (.val p):=Eq.trans rfl rfl
theorem L9(p:List PV)(ρ:a9):a7 0 (some (.own p)::ρ)=some (.bor p):=Eq.trans rfl rfl
theorem d4(n:Nat)(r:Option d0)(ρ:a9):a7 (n+1) (r::ρ)=a7 n ρ:=Eq.trans rfl rfl
theorem b6(ρ:a9):b7 ρ=some []:=Eq.trans rfl rfl
theorem b0(m:M)(r:MA)(ρ:a9):a0 m r ρ=((m ρ).bind d0.toVal).bind fun p=>(r ρ).bind fun ps=>some (p::ps):=Eq.trans rfl rfl
theorem b5(p:PV):(d0.val p).toVal=some p:=Eq.trans rfl rfl
theorem J7(p:List PV):(d0.own p).toVal=some (.list p):=Eq.trans rfl rfl
theorem p0(m:MA)(ρ:a9):J3 m ρ=(m ρ).bind fun ps=>if ps.length<=AO then some (.val (.tuple ps)) else none:=Eq.trans rfl rfl
theorem k4(m:MA)(ρ:a9):B3 m ρ=(m ρ).bind fun ps=>if ps.length<=AO then some (.own ps) else none:=Eq.trans rfl rfl
theorem e7(g:List PV->Option d0)(m:MA)(ρ:a9):i6 g m ρ=(m ρ).bind g:=Eq.trans rfl rfl
def b51(i:Nat)(ρ:a9)(r:d0):Option Fl:=if r.nb=true then some (.nx (ρ.set i (some r))) else none
theorem f7(i:Nat)(m:M)(ρ:a9):m9 i m ρ=(m ρ).bind (b51 i ρ):=Eq.trans rfl rfl
theorem t5(i:Nat)(ρ:a9)(p:PV):b51 i ρ (.val p)=some (.nx (ρ.set i (some (.val p)))):=Eq.trans rfl rfl
theorem D5(i:Nat)(ρ:a9)(p:List PV):b51 i ρ (.own p)=some (.nx (ρ.set i (some (.own p)))):=Eq.trans rfl rfl
def b5p(r:d0):Option Fl:=if r.nb=true then some (.rt r) else none
theorem f8(m:M)(ρ:a9):A2 m ρ=(m ρ).bind b5p:=Eq.trans rfl rfl
theorem v0(p:PV):b5p (.val p)=some (.rt (.val p)):=Eq.trans rfl rfl
theorem a0M(p:List PV):b5p (.own p)=some (.rt (.own p)):=Eq.trans rfl rfl
def b9B(n:MS):Fl->Option Fl
 | .nx ρ=>n ρ
 |f=>some f
theorem f9(m n:MS)(ρ:a9):k7 m n ρ=(m ρ).bind (b9B n):=Eq.trans rfl rfl
theorem h9(n:MS)(ρ:a9):b9B n (.nx ρ)=n ρ:=Eq.trans rfl rfl
theorem a2a(n:MS)(r:d0):b9B n (.rt r)=some (.rt r):=Eq.trans rfl rfl
def ifK(m n:MS)(ρ:a9)(b:Bool):Option Fl:=if b=true then m ρ else n ρ
theorem o8(c:MT)(m n:MS)(ρ:a9):V5 c m n ρ=(c ρ).bind (ifK m n ρ):=Eq.trans rfl rfl
theorem a3k(m n:MS)(ρ:a9):ifK m n ρ true=m ρ:=Eq.trans rfl rfl
theorem X5(m n:MS)(ρ:a9):ifK m n ρ false=n ρ:=Eq.trans rfl rfl
theorem o9(ρ:a9):B4 ρ=some (.nx ρ):=Eq.trans rfl rfl
def b5t:Fl->Option d0
 | .rt r=>some r
 | .nx _=>some (.val .none)
 |_=>none
theorem f6(n:Nat)(b:MS)(ps:List PV):E8 n b ps=(b (ps.map (fun p=>some (d0.val p))++AV n none)).bind b5t:=Eq.trans rfl rfl
theorem j0(r:d0):b5t (.rt r)=some r:=Eq.trans rfl rfl
theorem a0K(m:M)(ρ:a9):mtV m ρ=(m ρ).bind tru:=Eq.trans rfl rfl
theorem r6(m:M)(ρ:a9):mtB m ρ=(m ρ).bind a4g:=Eq.trans rfl rfl
theorem v7(b:Bool):a4g (.val (.bool b))=some b:=Eq.trans rfl rfl
theorem a6G(b:Bool):tru (.val (.bool b))=some b:=Eq.trans rfl rfl
theorem O2(c:MT)(ρ:a9):a4N c ρ=(c ρ).map not:=Eq.trans rfl rfl
def orK(d:MT)(ρ:a9)(b:Bool):Option Bool:=if b=true then some true else d ρ
def b79(d:MT)(ρ:a9)(b:Bool):Option Bool:=if b=true then d ρ else some false
theorem a1K(c d:MT)(ρ:a9):b3i c d ρ=(c ρ).bind (orK d ρ):=Eq.trans rfl rfl
theorem a7H(c d:MT)(ρ:a9):b4U c d ρ=(c ρ).bind (b79 d ρ):=Eq.trans rfl rfl
theorem a97(d:MT)(ρ:a9):orK d ρ false=d ρ:=Eq.trans rfl rfl
theorem b8b(d:MT)(ρ:a9):b79 d ρ true=d ρ:=Eq.trans rfl rfl
theorem b8a(d:MT)(ρ:a9):b79 d ρ false=some false:=Eq.trans rfl rfl
def b93(n:M)(ρ:a9)(r:d0):Option d0:=(a4g r).bind fun b=>if b=true then n ρ else some (.val (.bool false))
def orR(n:M)(ρ:a9)(r:d0):Option d0:=(a4g r).bind fun b=>if b=true then some (.val (.bool true)) else n ρ
def c0l(r:d0):Option d0:=(a4g r).bind fun b=>some (.val (.bool (!b)))
theorem G3(m n:M)(ρ:a9):b0Y m n ρ=(m ρ).bind (b93 n ρ):=Eq.trans rfl rfl
theorem b2a(m n:M)(ρ:a9):mOr m n ρ=(m ρ).bind (orR n ρ):=Eq.trans rfl rfl
theorem a90(m:M)(ρ:a9):b6J m ρ=(m ρ).bind c0l:=Eq.trans rfl rfl
theorem a5y(n:M)(ρ:a9):b93 n ρ (.val (.bool true))=n ρ:=Eq.trans rfl rfl
theorem c0r(n:M)(ρ:a9):orR n ρ (.val (.bool true))=some (.val (.bool true)):=Eq.trans rfl rfl
theorem c0q(n:M)(ρ:a9):orR n ρ (.val (.bool false))=n ρ:=Eq.trans rfl rfl
theorem b41(b:Bool):c0l (.val (.bool b))=some (.val (.bool (!b))):=Eq.trans rfl rfl
def c0j:d0->Option d0
 | .val (.int i)=>some (.val (.int (-i)))
 |_=>none
theorem a3o(m:M)(ρ:a9):a9Z m ρ=(m ρ).bind c0j:=Eq.trans rfl rfl
theorem a8H(i:Int):c0j (.val (.int i))=some (.val (.int (-i))):=Eq.trans rfl rfl
theorem U9(T:String)(p:PV):b0M T (.val p)=bif isFn p then none else some (.val (.bool (a1z T p))):=Eq.trans rfl rfl
theorem a5W(i:Int):isFn (.int i)=false:=Eq.trans rfl rfl
theorem b4G(i:Str):isFn (.str i)=false:=Eq.trans rfl rfl
theorem b21(i:Bool):isFn (.bool i)=false:=Eq.trans rfl rfl
theorem b22:isFn .none=false:=Eq.trans rfl rfl
theorem b4F(ps:List PV):isFn (.list ps)=false:=Eq.trans rfl rfl
theorem a5B{α:Type}(a b:α):(bif false then a else b)=b:=Eq.trans rfl rfl
theorem b5o(p:PV):(d0.val p).rd=p:=Eq.trans rfl rfl
def c0Q(tbl:List (m3×PV))(r:d0):Option d0:=(b14 r.rd).bind fun k=>(S1 tbl k).map .val
theorem b4R(tbl:List (m3×PV))(m:M)(ρ:a9):b8Y tbl m ρ=(m ρ).bind (c0Q tbl):=Eq.trans rfl rfl
theorem b9H(tbl:List (m3×PV))(x:Str):c0Q tbl (.val (.str x))=(S1 tbl (.inr x)).map .val:=Eq.trans rfl rfl
def b9O(is:List Nat)(ρ:a9):d0->Option Fl
 | .val (.tuple ps)=>if ps.length=is.length then some (.nx (setAll ρ is (ps.map .val))) else none
 |_=>none
theorem L8(is:List Nat)(m:M)(ρ:a9):b3f is m ρ=(m ρ).bind (b9O is ρ):=Eq.trans rfl rfl
theorem b5M(i j:Nat)(ρ:a9)(p q:PV):b9O [i,j] ρ (.val (.tuple [p,q]))=some (.nx ((ρ.set i (some (.val p))).set j (some (.val q)))):=Eq.trans rfl rfl
theorem b9P(i j k:Nat)(ρ:a9)(p q r:PV):b9O [i,j,k] ρ (.val (.tuple [p,q,r]))=some (.nx (((ρ.set i (some (.val p))).set j (some (.val q))).set k (some (.val r)))):=Eq.trans rfl rfl
theorem v5(it:MI)(tg:PV->a9->Option a9)(body:MS)(ρ:a9):T2 it tg body ρ=(it ρ).bind fun ps=>N5 body tg ps ρ:=Eq.trans rfl rfl
def b7Y:List PV->Option (List PV)
 |[.int j]=>if inR j=true then some (G0 0 j) else none
 |_=>none
theorem C5(m:MA)(ρ:a9):C9 m ρ=(m ρ).bind b7Y:=Eq.trans rfl rfl
theorem P4{j:Int}(h: -4611686018427387904<=j/\j<4611686018427387904):b7Y [.int j]=some (G0 0 j):=by
 show(if inR j=true then some (G0 0 j) else none)=_
 rw [if_pos (a0H.mpr (by lia))]
def b7Z:List PV->Option (List PV)
 |[.int i,.int j]=>if inR i=true/\inR j=true then some (G0 i j) else none
 |_=>none
theorem b3d(m:MA)(ρ:a9):b2b m ρ=(m ρ).bind b7Z:=Eq.trans rfl rfl
theorem b7f{i j:Int}(h:(-4611686018427387904<=i/\i<4611686018427387904)/\ -4611686018427387904<=j/\j<4611686018427387904):b7Z [.int i,.int j]=some (G0 i j):=by
 show(if inR i=true/\inR j=true then some (G0 i j) else none)=_
 rw [if_pos ⟨a0H.mpr (by lia),a0H.mpr (by lia)⟩]
theorem b4x(i j:Int):gNe (.val (.int i)) (.val (.int j))=some (.val (.bool (!(i==j)))):=Eq.trans rfl rfl
theorem b1W(i j:Int):gEq (.val (.int i)) (.val (.int j))=some (.val (.bool (i==j))):=Eq.trans rfl rfl
theorem a9H{p:PV}(h:i9 p 50=true):gEq (.val p) (.val p)=some (.val (.bool true)):=by
 rw [b8y (x:= .val p) (y:= .val p) ⟨h,h⟩,b5o,a5H p 50 h]
theorem a3h{p:PV}(h:i9 p 50=true):gNe (.val p) (.val p)=some (.val (.bool false)):=by
 rw [b8C (x:= .val p) (y:= .val p) ⟨h,h⟩,b5o,a5H p 50 h]
 rfl
theorem sz(n:Nat):(n<=AO)=(n<=16777216):=by rw [sizeLine_eq]
theorem b2V{ps:List PV}{q:PV}{j:Nat}(h:i9 q 50=true/\u4 ps 50=true/\ps.length<=1000)(hj:a2q q ps=some j):U8 (.bor ps) (.val q)=some (.val (.int (j:Nat))):=by
 simp [U8,d0.rd,Y2.rd,h,hj]
end PU
namespace L2
open PySem PySem.Spec PyProof.Rows
theorem C2:∀(names:List (Str×NameKind)) (n:Nat) (acc:List (Str×AB)),cellsFrom n names acc=cellsFrom n names []++acc
 |[],_,_=>rfl
 |(x,k)::r,n,acc=>by
  unfold cellsFrom
  split
  ·rw [C2 r (n+1) ((x,n)::acc),C2 r (n+1) [(x,n)],List.append_assoc];rfl
  ·exact C2 r n acc
theorem K5:∀{names:List (Str×NameKind)} {n:Nat} {x:Str} {c:AB},(x,c)∈cellsFrom n names []->n<=c/\(x,NameKind.cell)∈names
 |[],_,_,_,h=>nomatch h
 |(y,k)::r,n,x,c,h=>by
  unfold cellsFrom at h
  split at h
  ·rename_i hk
   rw [C2] at h
   rcases BB.mp h with h|h
   ·obtain⟨a,b⟩:=K5 h
    exact⟨by lia,An _ b⟩
   ·have e:(x,c)=(y,n):=by simpa using h
    cases e
    have:k= .cell:=by simpa using hk
    subst this
    exact⟨AS _,Aq⟩
  ·obtain⟨a,b⟩:=K5 h
   exact⟨a,An _ b⟩
theorem a55{α:Type}:∀{l:List (Str×α)} {x:Str},(∀c,(x,c)∉l)->l.lookup x=none:=fun {l x} h=>by
 cases e:l.lookup x with
 |none=>rfl
 |some c=>exact absurd (PySem.mem_of_lookup e) (h c)
theorem a2r{α:Type}:∀{l r:List (Str×α)} {x:Str},l.lookup x=none->(l++r).lookup x=r.lookup x
 |[],_,_,_=>rfl
 |(y,v)::l,r,x,h=>by
  rw [Aa,List.lookup_cons]
  rw [List.lookup_cons] at h
  cases e:x==y with
  |true=>rw [e] at h;cases h
  |false=>rw [e] at h;exact a2r h
def R9(cells:List (Str×AB)):List (Str×NameKind)->List (Str×AB)->List (Str×AB)
 |[],acc=>acc
 |(x,k)::r,acc=>if k== .free then R9 cells r ((x,(cells.lookup x).getD 0)::acc) else R9 cells r acc
theorem a3Q{cells:List (Str×AB)}:∀{names:List (Str×NameKind)} {acc:List (Str×AB)} {x:Str} {c:AB},(x,c)∈R9 cells names acc->(x,c)∈acc\/((x,NameKind.free)∈names/\c=(cells.lookup x).getD 0)
 |[],_,_,_,h=> .inl h
 |(y,k)::r,acc,x,c,h=>by
  unfold R9 at h
  split at h
  ·rename_i hk
   rcases a3Q h with h|⟨h1,h2⟩
   ·rcases Ag.mp h with e|h
    ·cases e
     have:k= .free:=by simpa using hk
     subst this
     exact .inr ⟨Aq,rfl⟩
    ·exact .inl h
   ·exact .inr ⟨An _ h1,h2⟩
  ·rcases a3Q h with h|⟨h1,h2⟩
   ·exact .inl h
   ·exact .inr ⟨An _ h1,h2⟩
theorem a1i{cells:List (Str×AB)}:∀{names:List (Str×NameKind)} {acc:List (Str×AB)} {x:Str},x∉names.map (·.1)->(R9 cells names acc).lookup x=acc.lookup x
 |[],_,_,_=>rfl
 |(y,k)::r,acc,x,h=>by
  have h':¬(x=y)/\x∉r.map (·.1):=by simpa using h
  unfold R9
  split
  ·rw [a1i h'.2,List.lookup_cons]
   have e:(x==y)=false:=by simpa using h'.1
   rw [e]
  ·exact a1i h'.2
theorem a0y{cells:List (Str×AB)}:∀{names:List (Str×NameKind)} {acc:List (Str×AB)} {x:Str},(names.map (·.1)).Nodup->names.lookup x=some .free->(R9 cells names acc).lookup x=some ((cells.lookup x).getD 0)
 |[],_,_,_,h=>by cases h
 |(y,k)::r,acc,x,nd,h=>by
  have nd':y∉r.map (·.1)/\(r.map (·.1)).Nodup:=List.nodup_cons.mp nd
  rw [List.lookup_cons] at h
  unfold R9
  cases e:x==y with
  |true=>
   rw [e] at h
   have hk:k= .free:=by simpa using h
   subst hk
   have exy:x=y:=by simpa using e
   subst exy
   rw [if_pos (show(NameKind.free==NameKind.free)=true from rfl),a1i nd'.1,List.lookup_cons,e]
  |false=>
   rw [e] at h
   split
   ·exact a0y nd'.2 h
   ·exact a0y nd'.2 h
theorem Y4{env:Env}(f:Str×NameKind->List (Str×AB)->Sem (ForInStep (List (Str×AB))))(hf:∀x k cs,f (x,k) cs=if k== .free then(do let c<-cellOf env x;pure (.yield ((x,c)::cs))) else pure (.yield cs)):
 ∀(names:List (Str×NameKind)) (acc:List (Str×AB)),(∀x∈names,x.2= .free->(env.cells.lookup x.1).isSome=true)->forIn names acc f=pure (R9 env.cells names acc)
 |[],acc,_=>rfl
 |(x,k)::r,acc,h=>by
  rw [List.forIn_cons,hf]
  unfold R9
  have hr:=fun y hy=>h y (An _ hy)
  split
  ·rename_i hk
   have:=h (x,k) Aq (by simpa using hk)
   obtain⟨c,hc⟩:=Option.isSome_iff_exists.mp this
   unfold cellOf
   rw [hc]
   show forIn r ((x,c)::acc) f=_
   exact Y4 f hf r _ hr
  ·exact Y4 f hf r acc hr
theorem a6Q{scope:Scope}{env:Env}(h:∀x∈scope.names,x.2= .free->(env.cells.lookup x.1).isSome=true):closureFor scope env=pure (R9 env.cells scope.names []):=by
 unfold closureFor
 have e:=Y4 (env:=env) (fun(x:Str×NameKind) (cs:List (Str×AB))=>if x.2== .free then(do let c<-cellOf env x.1;pure (.yield ((x.1,c)::cs))) else pure (.yield cs)) (fun _ _ _=>rfl) scope.names [] h
 show(forIn scope.names [] _>>=fun r=>pure r)=_
 refine Eq.trans (congrArg (· >>=fun r=>pure r) (Eq.trans (congrArg (forIn scope.names []) ?_) e)) rfl
 funext x cs
 cases x with
 |mk n k=>cases k<;>rfl
theorem a1M{env:Env}{x:Str}:∀{names:List (Str×NameKind)},(names.map fun(p:Str×NameKind)=>if(p.2==NameKind.free && env.scope.kind== .function && env.kindOf p.1==some .cell) then(p.1,NameKind.cell) else(p.1,p.2)).lookup x
 =(names.lookup x).map fun k=>if(k==NameKind.free && env.scope.kind== .function && env.kindOf x==some .cell) then NameKind.cell else k
 |[]=>rfl
 |(n,k)::r=>by
  rw [AQ]
  have ih:= @a1M env x r
  show List.lookup x ((if(k==NameKind.free && env.scope.kind== .function && env.kindOf n==some .cell)=true then(n,NameKind.cell) else(n,k))::_)=_
  cases hx:x==n with
  |true=>
   have e:x=n:=by simpa using hx
   subst e
   by_cases c:(k==NameKind.free && env.scope.kind== .function && env.kindOf x==some .cell)=true
   ·rw [if_pos c,List.lookup_cons,hx,List.lookup_cons,hx];exact congrArg some (if_pos c).symm
   ·rw [if_neg c,List.lookup_cons,hx,List.lookup_cons,hx];exact congrArg some (if_neg c).symm
  |false=>
   by_cases c:(k==NameKind.free && env.scope.kind== .function && env.kindOf n==some .cell)=true
   ·rw [if_pos c,List.lookup_cons,hx,List.lookup_cons,hx];exact ih
   ·rw [if_neg c,List.lookup_cons,hx,List.lookup_cons,hx];exact ih
def J4(scope:Scope)(C:AB)(env:Env):Env:=
 {scope:=relabel scope env,locals:=C,globals:=env.globals,cells:=cellsFrom (C+1) scope.names (R9 env.cells scope.names []),qual:=env.qual,func:=none,code:=env.code,frame:=env.frame,builtins:=env.builtins}
def hid(ys:List Str)(x:Str):Str:=if ys.contains x=true then AK "0"++x else x
def D7(X:Cx)(N0:List Str)(scope:Scope)(ys:List Str)(C:AB)(fp:List AB)(pins:List (AB×Obj))(s₃:AC)(H₃:Hp):Cx:=
 {X with N:=N0++ys,s₀:=s₃,H₀:=H₃,env:=J4 scope C X.env,outer:=X.stack,ex:=fp,fn:=fun x=>scope.names.lookup x==some .cell,pn:=X.pn++pins}
theorem U0{scope:Scope}{C:AB}{env:Env}{x:Str}:(J4 scope C env).kindOf x=(scope.names.lookup x).map fun k=>if(k==NameKind.free && env.scope.kind== .function && env.kindOf x==some .cell) then NameKind.cell else k:=
 a1M
structure N1(N N0 ys:List Str)(env:Env)(scope:Scope):Prop where
 eq:N0=N.map (hid ys)
 kind:scope.kind= .function
 nd:(scope.names.map (·.1)).Nodup
 fr:∀x∈scope.names,x.2= .free->env.kindOf x.1=some .cell\/env.kindOf x.1=some .free
 ou:∀x∈N,(ys.contains x=true->scope.names.lookup (hid ys x)=none)/\(ys.contains x=false->scope.names.lookup x=none\/scope.names.lookup x=some .free\/scope.names.lookup x=some .globalImplicit)
theorem B0{α:Type}:∀{l:List (Str×α)} {x:Str} {v:α},(l.map (·.1)).Nodup->(x,v)∈l->l.lookup x=some v
 |[],_,_,_,h=>nomatch h
 |(y,w)::r,x,v,nd,h=>by
  have nd':y∉r.map (·.1)/\(r.map (·.1)).Nodup:=List.nodup_cons.mp nd
  rw [List.lookup_cons]
  rcases Ag.mp h with e|h
  ·cases e;simp
  ·have:x≠y:=fun e=>nd'.1 (by rw [<-e];exact Aj.mpr ⟨_,h,rfl⟩)
   have e:(x==y)=false:=by simpa using this
   rw [e]
   exact B0 nd'.2 h
section
variable {M:Model}{A:AM}{E:AA->AC->Prop}{s:AC}
theorem a2i{scope:Scope}{globals:AB}{cl:List (Str×AB)}{qual:Str}{env:Env}{builtins:AB}{Q:Env->AC->Prop}
 (h:Q (newEnv scope s.heap.objs.size globals (cellsFrom (s.heap.objs.size+1) scope.names cl) qual none .none (some env) builtins) {s with heap:=pushCells (s.heap.push {cls:= .type "dict",data:= .dict #[]}) scope.names}):
 AF M A (newFunctionEnv scope globals cl [] qual none .none (some env) builtins) Q E s:=by
 simp only [newFunctionEnv,Option.isSome_some,if_true]
 refine AD (wpAny_alloc ?_)
 refine AD (wpAny_layCells _ (fun name kind cells=>by cases hkc:kind==NameKind.cell<;>simp [hkc]) _ _ _ _ ?_)
 rw [show({s with heap:=s.heap.push {cls:= .type "dict",data:= .dict #[]}}:AC).heap.objs.size=s.heap.objs.size+1 from Heap.size_push ..]
 exact AD (AI (AI h))
end
section
variable {prog:AL}{w:AJ}{A:AM}{R:Result->AC->Prop}{s:AC}
theorem a2d{elt target iter:AG}{ifs:List AG}{scope:Scope}{pos:Pos}{it acc:AA}{env:Env}(I:Nat->AC->Prop)
 (turn:∀n s,I n s->AF (model prog w) A (pyNext it) (fun r s₁=>match r with
  |none=>R (.ok .next) s₁
  |some v=>AF (model prog w) A (letOwnedTupleGo target it v) (fun _ s₁'=>AF (model prog w) A (assign target env v) (fun _ s₂=>
   AF (model prog w) A (forIn ifs true fun c r=>if r=true then do let ok<-isTrue c env (eval c env);pure (ForInStep.yield ok) else pure (ForInStep.yield r)) (fun ok s₃=>
    if ok=true then AF (model prog w) A (eval elt env) (fun x s₄=>
     AF (model prog w) A (call (.builtin "list.append") [acc,x]) (fun _ s₅=>∃m,m<n/\I m s₅) (fun _ _=>False) s₄) (fun _ _=>False) s₃
    else ∃m,m<n/\I m s₃) (fun _ _=>False) s₂) (fun _ _=>False) s₁') (fun _ _=>False) s₁) (fun _ _=>False) s)
 (n:Nat) (h:I n s):
 codeAny (model prog w) A (.compLoop (.ListComp elt [⟨target,iter,ifs,0⟩] scope pos) 0 it acc env) R s:=by
 refine codeAny_loop rfl I (fun n s hI=> ?_) n h
 show AF _ A ((compTurn (.ListComp elt [⟨target,iter,ifs,0⟩] scope pos) 0 it acc env).onRaise (fun x=>do noteFrame x env;theTreesLotGoes x)) _ _ s
 refine wpAny_noted ?_
 rw [compTurn_list]
 refine AD (wpAny_standAt (AD (wpAny_mono (turn n s hI) (fun r s₁ h₁=> ?_) fun _ _ h'=>h'.elim)))
 cases r with
 |none=>exact AI h₁
 |some v=>
  refine AD (wpAny_mono h₁ (fun _ s₁' h₁'=> ?_) fun _ _ h'=>h'.elim)
  refine AD (wpAny_mono h₁' (fun _ s₂ h₂=>AD (wpAny_mono h₂ (fun ok s₃ h₃=> ?_) fun _ _ h'=>h'.elim)) fun _ _ h'=>h'.elim)
  cases ok with
  |false=>exact AI ⟨rfl,h₃⟩
  |true=>
   exact AD (AD (wpAny_mono h₃ (fun x s₄ h₄=>AD (wpAny_mono h₄ (fun _ s₅ h₅=>AI (AI ⟨rfl,h₅⟩)) fun _ _ h'=>h'.elim)) fun _ _ h'=>h'.elim))
end
def PCs(X:Cx)(ifs:List AG)(t:TT):Prop:=
 ∀(pins:List (AB×Obj)) (s:AC) (σ:St) (H:Hp) (Q:Bool->Hp->Prop),e9 X pins σ H s->t σ H Q->
  AF (model X.prog X.w) X.A (forIn ifs true fun c r=>if r=true then do let ok<-isTrue c X.env (eval c X.env);pure (ForInStep.yield ok) else pure (ForInStep.yield r)) (TP X pins σ Q) X.xe s
def c0P:TT:=fun _ H Q=>Q true H
theorem b62{X:Cx}:PCs X [] c0P:=fun pins s σ H Q I h=>wpAny_tests_nil ⟨H,I,h⟩
theorem b63{X:Cx}{c:AG}{t:TT}(h:PT X c t):PCs X [c] t:=fun pins s σ H Q I hq=>wpAny_tests_one (h pins s σ H Q I hq)
def b2r(wi:TI)(g:TG)(tc:TT)(te:TE)(k:Nat):TE:=fun σ H Q=>wi σ H fun J H1=>∀D,H1 D=none->∃W:Nat->Nat->List V->Hp->Prop,(∃m,W 0 m [] (t8 H1 D (.lst [])))/\∀i m xs H2,W i m xs H2->H2 D=some (.lst xs)->
 (J.stop i H2/\Q (.ref D) H2)\/(J.go i H2/\∀x H3,J.yld i H2 x H3->g x (σ++AV k none) H3 fun σ4 H4=>(∀(j:Nat) v,(σ++AV k none)[j]?=some (some v)->σ4[j]?=some (some v))/\tc σ4 H4 fun b H5=>if b=true then te σ4 H5 fun v H6=>H6 D=some (.lst xs)/\xs.length<AO/\∃m',m'<m/\W (i+1) m' (xs++[v]) (t8 H6 D (.lst (xs++[v])))
  else H5 D=some (.lst xs)/\∃m',m'<m/\W (i+1) m' xs H5)
section
variable {X:Cx}{elt iter tg:AG}{ifs:List AG}{scope:Scope}{N0 ys:List Str}{wi:TI}{g:TG}{tc:TT}{te:TE}{pos:Pos}
theorem a0G{pins:List (AB×Obj)}{σ:St}{H:Hp}{s:AC}(I:e9 X pins σ H s)(S:N1 X.N N0 ys X.env scope){x:Str}(h:(x,NameKind.free)∈scope.names):∃c,X.env.cells.lookup x=some c:=I.ok.has x (S.fr _ h rfl)
theorem b0I{pins:List (AB×Obj)}{σ:St}{H:Hp}{s:AC}{fp:List AB}(S:N1 X.N N0 ys X.env scope)(I:e9 X pins σ H s)(hf:∀b∈fp,a73 X pins H b)(ho:∀b∈fp,∃o,s.heap.get? b=some o/\∀v,o.data≠.cell v):
 e9 (D7 X N0 scope ys s.heap.objs.size fp pins s H) [] (σ++AV ys.length none) H {s with heap:=pushCells (s.heap.push {cls:= .type "dict",data:= .dict #[]}) scope.names}:=by
 have up:∀b o,s.heap.get? b=some o->(pushCells (s.heap.push {cls:= .type "dict",data:= .dict #[]}) scope.names).get? b=some o:=fun b o e=>pushCells_keeps _ _ b o (Ab _ e)
 have okc:=cellsFrom_ok scope.names (s.heap.push {cls:= .type "dict",data:= .dict #[]}) (s.heap.objs.size+1) [] ⟨fun _ _ hm=>(nomatch hm),List.Pairwise.nil⟩ (by rw [Heap.size_push];exact AS _)
 rw [Heap.size_push] at okc
 have cel:∀x c,(J4 scope s.heap.objs.size X.env).cells.lookup x=some c->((x,c)∈cellsFrom (s.heap.objs.size+1) scope.names []/\(x,NameKind.cell)∈scope.names/\s.heap.objs.size<c)\/(X.env.cells.lookup x=some c/\(x,NameKind.free)∈scope.names):=fun x c e=>by
  have m:=PySem.mem_of_lookup e
  have m:(x,c)∈cellsFrom (s.heap.objs.size+1) scope.names (R9 X.env.cells scope.names []):=m
  rw [C2] at m
  rcases BB.mp m with m|m
  ·obtain⟨h1,h2⟩:=K5 m
   exact .inl ⟨m,h2,h1⟩
  ·rcases a3Q m with m|⟨m,e⟩
   ·exact nomatch m
   ·obtain⟨c',hc'⟩:=a0G I S m
    rw [hc'] at e
    exact .inr ⟨by rw [hc',e];rfl,m⟩
 have celLt:∀x c,X.env.cells.lookup x=some c->c<s.heap.objs.size:=fun x c e=>let ⟨_,h⟩:=I.cell x c e;h.lt
 have fpLt:∀b∈fp,b<s.heap.objs.size:=fun b hb=>let ⟨_,e,_⟩:=ho b hb;Af e
 have cellNo:∀x,(x,NameKind.cell)∉scope.names->(cellsFrom (s.heap.objs.size+1) scope.names []).lookup x=none:=fun x hx=>a55 fun c m=>hx (K5 m).2
 have look:∀x,(x,NameKind.free)∈scope.names->(J4 scope s.heap.objs.size X.env).cells.lookup x=X.env.cells.lookup x:=fun x m=>by
  have hl:=B0 S.nd m
  have hn:(x,NameKind.cell)∉scope.names:=fun z=>by
   have:=B0 S.nd z
   rw [hl] at this;cases this
  show(cellsFrom (s.heap.objs.size+1) scope.names (R9 X.env.cells scope.names [])).lookup x=_
  rw [C2,a2r (cellNo x hn),a0y S.nd hl]
  obtain⟨c,hc⟩:=a0G I S m
  rw [hc];rfl
 have kindF:∀x,scope.names.lookup x=some .free->X.env.kindOf x=some .cell\/X.env.kindOf x=some .free:=fun x h=>S.fr _ (PySem.mem_of_lookup h) rfl
 refine⟨⟨I.mod,S.kind,I.ok.glob,I.ok.blt,AS _,fun x y c h1 h2=> ?_,fun x h=> ?_,fun x c h1 h2=> ?_,I.ok.hd,I.ok.frames,.inl rfl,fun b hb=> ?_,I.bs,Nat.le_trans I.ok.bsz I.sz,fun b o e hb=> ?_,fun b hb hz=> ?_,I.stack,I.stkFree⟩,
  rfl,I.bare,Un.kept up,⟨fun _=>none, ?_,fun i x v h1 h2 h3=> ?_⟩,fun x c e=> ?_,I.hok.fresh (AS _),fun x c e=> ?_,fun p hp=> ?_,I.hok.kept up, ?_⟩
 ·rcases cel x c h1 with⟨a1,b1,c1⟩|⟨a1,b1⟩
  ·rcases cel y c h2 with⟨a2,b2,c2⟩|⟨a2,b2⟩
   ·exact name_of_addr okc.apart a1 a2
   ·exact absurd (Nat.lt_trans c1 (celLt y c a2)) (Nat.lt_irrefl _)
  ·rcases cel y c h2 with⟨a2,b2,c2⟩|⟨a2,b2⟩
   ·exact absurd (Nat.lt_trans c2 (celLt x c a1)) (Nat.lt_irrefl _)
   ·exact I.ok.inj x y c a1 a2
 ·have hk:(J4 scope s.heap.objs.size X.env).kindOf x=some .cell\/(J4 scope s.heap.objs.size X.env).kindOf x=some .free:=h
  rw [U0] at hk
  cases e:scope.names.lookup x with
  |none=>rw [e] at hk;rcases hk with z|z<;>cases z
  |some k=>
   rw [e] at hk
   have hk':k= .cell\/k= .free:=by
    by_cases c:(k==NameKind.free && X.env.scope.kind== .function && X.env.kindOf x==some .cell)=true
    ·have:(k==NameKind.free)=true:=by
      rw [Bool.and_eq_true,Bool.and_eq_true] at c;exact c.1.1
     exact .inr (by simpa using this)
    ·simp only [Av] at hk
     rw [if_neg c] at hk
     rcases hk with z|z
     ·cases z;exact .inl rfl
     ·cases z;exact .inr rfl
   rcases hk' with rfl|rfl
   ·have q:=PySem.W.cellsFrom_some (x:=x) scope.names (s.heap.objs.size+1) (R9 X.env.cells scope.names []) (.inl e)
    exact Option.isSome_iff_exists.mp q
   ·obtain⟨c,hc⟩:=a0G I S (PySem.mem_of_lookup e)
    exact⟨c,by show(J4 scope s.heap.objs.size X.env).cells.lookup x=_;rw [look x (PySem.mem_of_lookup e)];exact hc⟩
 ·rcases cel x c h2 with⟨_,_,c1⟩|⟨_,b1⟩
  ·exact BE c1
  ·have h1':(scope.names.lookup x==some .cell)=true:=h1
   rw [B0 S.nd b1] at h1'
   cases h1'
 ·refine⟨Ai (fpLt b hb),fun x c e z=> ?_⟩
  rcases cel x c e with⟨_,_,c1⟩|⟨a1,_⟩
  ·rw [z] at c1;exact absurd (Nat.lt_trans c1 (fpLt b hb)) (Nat.lt_irrefl _)
  ·exact(hf b hb).2.2.2.2.1 x c a1 z
 ·have hb:b∈fp:=hb
  rcases(hf b hb).2.2.2.1 with z|z
  ·exact I.ok.noex b o e z
  ·have h1:=(I.ok.bs b o e).1
   have:=Af h1
   exact absurd (Au this z) (Nat.lt_irrefl _)
 ·have hb:b∈fp:=hb
  have hz:b∈frs X.stack:=hz
  rcases Ag.mp (I.stkSub b hz) with z|z
  ·exact(hf b hb).2.1 z
  ·exact(hf b hb).2.2.1 z
 ·exact(Heap.Ns.new s.heap (.type "dict")).keeps (pushCells_keeps _ _)
 ·have h1:(N0++ys)[i]?=some x:=h1
  rw [S.eq] at h1
  have hi:i<σ.length:=by
   by_cases hi:i<σ.length
   ·exact hi
   ·rw [List.getElem?_append_right (by lia),List.getElem?_replicate] at h2
    split at h2<;>cases h2
  rw [BD hi] at h2
  rw [BD (by rw [Ac,<-I.len];exact hi),Al] at h1
  have hvis:Vis (J4 scope s.heap.objs.size X.env).scope x:=h3
  have hkn:scope.names.lookup x=none->False:=fun z=>by
   have hk:∀k,(J4 scope s.heap.objs.size X.env).kindOf x=some k->scope.names.lookup x≠none:=fun k z e=>by
    rw [U0,e] at z;cases z
   rcases hvis with e|e|e<;>exact absurd z (hk _ e)
  have h1:X.N[i]?=some x/\ys.contains x=false:=by
   cases e0:X.N[i]? with
   |none=>rw [e0] at h1;cases h1
   |some x0=>
    rw [e0] at h1
    have h1:hid ys x0=x:=Option.some.inj h1
    have ho:=S.ou x0 (BC e0)
    cases hc:ys.contains x0 with
    |true=>exact(hkn (by rw [<-h1];exact ho.1 hc)).elim
    |false=>
     have hx:x0=x:=by rw [<-h1];unfold hid;rw [if_neg (by rw [hc];exact Ax)]
     subst hx
     exact⟨rfl,hc⟩
  obtain⟨h1,hys⟩:=h1
  have hfree:scope.names.lookup x=some .free:=by
   have hk:∀k,(J4 scope s.heap.objs.size X.env).kindOf x=some k->scope.names.lookup x≠none:=fun k z e=>by
    rw [U0,e] at z;cases z
   rcases(S.ou x (BC h1)).2 hys with z|z|z
   ·rcases hvis with e|e|e<;>exact absurd z (hk _ e)
   ·exact z
   ·have hg:(J4 scope s.heap.objs.size X.env).kindOf x=some .globalImplicit:=by
     rw [U0,z];rfl
    rcases hvis with e|e|e
    ·have e:(J4 scope s.heap.objs.size X.env).kindOf x=some .local:=e
     rw [hg] at e;cases e
    ·have e:(J4 scope s.heap.objs.size X.env).kindOf x=some .cell:=e
     rw [hg] at e;cases e
    ·have e:(J4 scope s.heap.objs.size X.env).kindOf x=some .free:=e
     rw [hg] at e;cases e
  obtain⟨m,hn,hl⟩:=I.loc
  have hv:Vis X.env.scope x:=by
   rcases kindF x hfree with z|z
   ·exact .inr (.inl z)
   ·exact .inr (.inr z)
  obtain⟨u,r,l⟩:=hl i x v h1 h2 hv
  refine⟨u,r, ?_⟩
  rcases l with⟨k,_⟩|⟨k,c,e,z⟩
  ·rcases kindF x hfree with q|q<;>rw [q] at k<;>cases k
  ·refine .inr ⟨?_,c,by show(J4 scope s.heap.objs.size X.env).cells.lookup x=_;rw [look x (PySem.mem_of_lookup hfree)];exact e,z.keeps up⟩
   show(J4 scope s.heap.objs.size X.env).kindOf x=some .cell\/(J4 scope s.heap.objs.size X.env).kindOf x=some .free
   rw [U0,hfree]
   by_cases cc:((NameKind.free==NameKind.free)&& X.env.scope.kind== .function && X.env.kindOf x==some .cell)=true
   ·exact .inl (congrArg some (if_pos cc))
   ·exact .inr (congrArg some (if_neg cc))
 ·rcases cel x c e with⟨a1,_,_⟩|⟨a1,_⟩
  ·exact⟨none,(okc.empty x c a1).1⟩
  ·obtain⟨v,z⟩:=I.cell x c a1
   exact⟨v,z.keeps up⟩
 ·rcases cel x c e with⟨_,_,c1⟩|⟨a1,_⟩
  ·exact I.hok.fresh (BE c1)
  ·exact I.freeC x c a1
 ·have hp:p∈(X.pn++pins)++[]:=hp
  rw [Ak] at hp
  obtain⟨e,n,ne,nf,d⟩:=I.pin p hp
  refine⟨up _ _ e,n,Ai (Af e),fun hz=> ?_,d⟩
  have hz:p.1∈frs X.stack:=hz
  rcases Ag.mp (I.stkSub p.1 hz) with z|z
  ·exact ne z
  ·exact nf z
 ·show(σ++AV ys.length none).length=(N0++ys).length
  rw [Ar,List.length_replicate,Ar,S.eq,Ac,I.len]
end
section
variable {X:Cx}{elt iter tg:AG}{ifs:List AG}{scope:Scope}{N0 ys:List Str}{wi:TI}{g:TG}{tc:TT}{te:TE}{pos:Pos}
def b3I(X:Cx)(pins:List (AB×Obj))(C:AB):Prop:=C≠X.env.locals/\X.s₀.heap.objs.size<=C/\(∀x c,X.env.cells.lookup x=some c->c≠C)/\∀p∈X.pn++pins,p.1≠C
theorem a7d{pos':Pos}{use:Option (AA->Sem Unit)}{QQ:AA->AC->Prop}(hx:∀e s,X.xe e s->False)(hc:X.calm=true)(S:N1 X.N N0 ys X.env scope)(hi:PI X tg iter wi)
 (hg:∀C fp pins s H,PG (D7 X N0 scope ys C fp pins s H) tg g) (ht:∀C fp pins s H,PCs (D7 X N0 scope ys C fp pins s H) ifs tc) (he:∀C fp pins s H,PE (D7 X N0 scope ys C fp pins s H) elt te)
 (hs:∀x,foldedSetIterable iter X.env x=pure x) {pins:List (AB×Obj)} {s:AC} {σ:St} {H:Hp} {Q:VK} (I:e9 X pins σ H s) (h:b2r wi g tc te ys.length σ H Q)
 (fin:∀D C s' H' m,e9 X pins σ H' s'->s'.heap.Ns C m->H' C=none->b3I X pins C->Q (.ref D) H'->compPost (model X.prog X.w) X.A X.xe use QQ (.ref D) C (.ok .next) s'):
 AF (model X.prog X.w) X.A (comprehension (.ListComp elt [⟨tg,iter,ifs,0⟩] scope pos) scope X.env pos' (newList []) false (eval iter X.env) use) QQ X.xe s:=by
 have hcl:closureFor scope X.env=pure (R9 X.env.cells scope.names []):=a6Q fun x hx' hk=>by
  obtain⟨c,e⟩:=a0G (ys:=ys) I S (x:=x.1) (by rw [<-hk];exact hx')
  rw [e];rfl
 refine wpAny_comprehension_free (use:=use) rfl hs hcl S.kind (fun x hx' hk=>B0 S.nd (by rw [<-hk];exact hx')) (B8 (hi pins s σ H _ I h) fun v s1 h1=>B8 h1 fun itv s2 h2=> ?_)
 obtain⟨it,fp,tn,J,H2,e,I2,T,st2,f2,hW⟩:=h2
 subst e
 have hfr:=I2.hok.fresh (AS _)
 obtain⟨W,⟨m0,w0⟩,turn⟩:=hW s2.heap.objs.size hfr
 have fpLt:∀b∈fp,b<s2.heap.objs.size:=fun b hb=>let ⟨_,e,_⟩:=T.obj _ _ st2 b hb;Af e
 refine wpAny_newObj_type ?_
 have I3:e9 X pins σ (t8 H2 s2.heap.objs.size (.lst [])) {s2 with heap:=s2.heap.push {cls:= .type "list",data:= .seq ([]:List AA).toArray}}:=
  I2.laid (t':=s2.toks) (fun b o e=>Ab _ e) (AS _) ⟨by decide,[],0,.nil,Ao _ rfl⟩
 have up3:∀b o,s2.heap.get? b=some o->(s2.heap.push {cls:= .type "list",data:= .seq ([]:List AA).toArray}).get? b=some o:=fun b o e=>Ab _ e
 have st3:tn 0 (s2.heap.push {cls:= .type "list",data:= .seq ([]:List AA).toArray}):=T.keep _ _ _ st2 fun b _ o e=>up3 b o e
 have f3:∀b∈fp,a73 X pins (t8 H2 s2.heap.objs.size (.lst [])) b:=fun b hb=>⟨by rw [g6 (Ai (fpLt b hb))];exact(f2 b hb).1,(f2 b hb).2⟩
 generalize hs3:({s2 with heap:=s2.heap.push {cls:= .type "list",data:= .seq ([]:List AA).toArray}}:AC)=s3 at I3
 have hs3h:s3.heap=s2.heap.push {cls:= .type "list",data:= .seq ([]:List AA).toArray}:=by rw [<-hs3]
 rw [<-hs3h] at st3 up3
 refine a2i ?_
 have I4:=b0I S I3 f3 (T.obj _ _ st3)
 generalize hs4:({s3 with heap:=pushCells (s3.heap.push {cls:= .type "dict",data:= .dict #[]}) scope.names}:AC)=s4 at I4 ⊢
 have hs4h:s4.heap=pushCells (s3.heap.push {cls:= .type "dict",data:= .dict #[]}) scope.names:=by rw [<-hs4]
 have st4:tn 0 s4.heap:=T.keep _ _ _ st3 fun b _ o e=>by rw [hs4h];exact pushCells_keeps _ _ b o (Ab _ e)
 generalize hX:D7 X N0 scope ys s3.heap.objs.size fp pins s3 (t8 H2 s2.heap.objs.size (.lst []))=Y at I4
 have Yp:Y.prog=X.prog:=by rw [<-hX];rfl
 have Yw:Y.w=X.w:=by rw [<-hX];rfl
 have YK:Y.K=X.K:=by rw [<-hX];rfl
 have YA:Y.A=X.A:=by rw [<-hX];rfl
 have Yc:Y.calm=true:=by rw [<-hX];exact hc
 have Yx:Y.xe=X.xe:=by rw [<-hX];rfl
 have YL:Y.env.locals=s3.heap.objs.size:=by rw [<-hX];rfl
 have Yf:Y.fs=frs X.stack:=by rw [<-hX];rfl
 have Ye:Y.ex=fp:=by rw [<-hX];rfl
 have Yn:Y.pn=X.pn++pins:=by rw [<-hX];rfl
 have Ys:Y.s₀=s3:=by rw [<-hX];rfl
 have YH:Y.H₀=t8 H2 s2.heap.objs.size (.lst []):=by rw [<-hX];rfl
 have YE:Y.env=J4 scope s3.heap.objs.size X.env:=by rw [<-hX];rfl
 have hgY:PG Y tg g:=by rw [<-hX];exact hg _ _ _ _ _
 have htY:PCs Y ifs tc:=by rw [<-hX];exact ht _ _ _ _ _
 have heY:PE Y elt te:=by rw [<-hX];exact he _ _ _ _ _
 have nlen:(σ++AV ys.length none).length=Y.N.length:=I4.len
 have exf:=I4.ok.exf
 have exfs:=I4.ok.exfs
 have stat:∀{H':Hp},(∀b∈fp,H' b=none)->∀b∈fp,a73 Y [] H' b:=fun {H'} hn b hb=>by
  have hb':b∈Y.ex:=by rw [Ye];exact hb
  refine⟨hn b hb,(exf b hb').1,exfs b hb',.inl hb',(exf b hb').2,fun p hp=> ?_⟩
  rw [Ak,Yn] at hp
  exact(f2 b hb).2.2.2.2.2 p hp
 have TY:b0y Y.prog Y.w Y.K tg J fp it tn:=by rw [Yp,Yw,YK];exact T
 have noX:∀e s,Y.xe e s->False:=fun e s h=>hx e s (by rw [<-Yx];exact h)
 have loop:∀R:Result->AC->Prop,(∀s' H' m,e9 X pins σ H' s'->s'.heap.Ns s3.heap.objs.size m->H' s3.heap.objs.size=none->b3I X pins s3.heap.objs.size->Q (.ref s2.heap.objs.size) H'->R (.ok .next) s')->
  codeAny (model X.prog X.w) X.A (.compLoop (.ListComp elt [⟨tg,iter,ifs,0⟩] scope pos) 0 (.ref it) (.ref s2.heap.objs.size) (J4 scope s3.heap.objs.size X.env)) R s4:=by
  intro R hR
  refine a2d (fun n s'=>∃i xs H' σ',e9 Y [] σ' H' s'/\(∀(j:Nat) v,(σ++AV ys.length none)[j]?=some (some v)->σ'[j]?=some (some v))/\tn i s'.heap/\(∀b∈fp,H' b=none)/\H' s2.heap.objs.size=some (.lst xs)/\W i n xs H') ?_ m0
   ⟨0,[],_,_,I4,fun _ _ e=>e,st4,fun b hb=>(f3 b hb).1,j7,w0⟩
  rintro n s5 ⟨i,xs,H5,σ5,I5,k5,st5,fr5,hD5,w5⟩
  have I5:e9 Y [] (σ++AV ys.length none) H5 s5:=I5.weak (by rw [nlen,I5.len]) k5
  rw [<-Yp,<-Yw,<-YA]
  rcases turn i n xs H5 w5 hD5 with⟨stop,q⟩|⟨go,step⟩
  ·refine wpAny_mono (TY.done Y rfl rfl rfl Yc i [] s5 _ H5 (fun _ _=>False) I5 (stat fr5) st5 stop) (fun r s6 ⟨hr,I6⟩=> ?_) fun _ _ z=>z
   subst hr
   obtain⟨m,hn,_⟩:=I6.loc
   have un:=I6.base
   rw [Yf,Ye,Ys,YH] at un
   rw [YL] at hn
   have hfC:=I6.free
   rw [YL] at hfC
   refine hR s6 H5 m (I3.call' (ch:=fp) (by rw [I6.os,Ys]) un (by have z:=I6.hok;rw [Yp,Yw] at z;exact z) I6.bare fun b hb=>⟨(f3 b hb).2.2.2.1,(f3 b hb).2.1,(f3 b hb).2.2.2.2.1,(f3 b hb).2.2.2.2.2⟩) hn hfC ⟨Nat.ne_of_gt I3.lt,I3.sz,fun x c e=> ?_,fun p hp=> ?_⟩ q
   ·obtain⟨v,z⟩:=I3.cell x c e
    exact Ai z.lt
   ·exact Ai (Af (I3.pin p hp).1)
  ·refine wpAny_mono (TY.item Y rfl rfl rfl Yc i [] s5 _ H5 (fun _ _=>False) I5 (stat fr5) st5 go) (fun r s6 ⟨u,hr,h6⟩=> ?_) fun _ _ z=>z
   subst hr
   dsimp only
   refine wpAny_mono h6 (fun _ s7 ⟨x,H7,I7,r7,y7,st7,fr7⟩=> ?_) fun _ _ z=>z
   have I7':=I7.pinned (stat fr7) (T.obj _ _ st7)
   rw [<-YE]
   have keepT:∀{σ8:St} {H8:Hp} {s8:AC},e9 Y ([]++a6m fp s7.heap) σ8 H8 s8->tn (i+1) s8.heap/\∀b∈fp,H8 b=none:=fun {σ8 H8 s8} I8=>by
    refine⟨T.keep _ _ _ st7 fun b hb o e=>(I8.pin (b,o) (BA _ (BA _ (a0J hb e)))).1,fun b hb=> ?_⟩
    obtain⟨o,e,d⟩:=T.obj _ _ st7 b hb
    exact(I8.pin (b,o) (BA _ (BA _ (a0J hb e)))).2.1
   refine wpAny_mono (hgY _ s7 _ H7 x u _ I7' r7 (step x H7 y7)) (fun _ s8 h0=>j8 h0 fun σ8 H8 I8 k8 q8=> ?_) fun e s z=>noX e s z
   refine wpAny_mono (htY _ s8 σ8 H8 _ I8 q8) (fun b s9 ⟨H9,I9,q9⟩=> ?_) fun e s z=>noX e s z
   cases b with
   |false=>
    rw [if_neg Ax] at q9 ⊢
    obtain⟨hD9,m',lt,w9⟩:=q9
    obtain⟨t9,n9⟩:=keepT I9
    exact⟨m',lt,i+1,xs,H9,σ8,I9.pins_of (fun p hp=>nomatch hp),k8,t9,n9,hD9,w9⟩
   |true=>
    rw [if_pos rfl] at q9 ⊢
    refine wpAny_mono (heY _ s9 σ8 H9 _ I9 q9) (fun y s10 ⟨v,H10,I10,r10,hD10,hz,m',lt,w10⟩=> ?_) fun e s z=>noX e s z
    refine wpAny_mono (a7I _ s10 σ8 H10 (.ref s2.heap.objs.size) [v] (.ref s2.heap.objs.size) [y] (fun _ H'=>H'=t8 H10 s2.heap.objs.size (.lst (xs++[v]))) I10 rfl (.cons r10 .nil) ⟨_,xs,v,rfl,rfl,hD10,hz,rfl⟩) (fun _ s11 h0=>j8 h0 fun _ H11 I11 _ e11=> ?_) fun e s z=>noX e s z
    subst e11
    obtain⟨t11,n11⟩:=keepT I11
    exact⟨m',lt,i+1,xs++[v],_,σ8,I11.pins_of (fun p hp=>nomatch hp),k8,t11,n11,j7,w10⟩
 show codeAny _ _ (.compStart _ 0 _ _ (J4 scope s3.heap.objs.size X.env)) _ _
 refine codeAny_compStart_list (loop _ fun s' H' m a b c d e=>fin _ _ s' H' m a b c d e) (T.self _ 0 _ _ _ st4 (loop _ fun s' H' m a b c d e=>fin _ _ s' H' m a b c d e))
end
section
variable {X:Cx}{elt iter tg:AG}{ifs:List AG}{scope:Scope}{N0 ys:List Str}{wi:TI}{g:TG}{tc:TT}{te:TE}{pos:Pos}
theorem b65(hx:∀e s,X.xe e s->False)(hc:X.calm=true)(S:N1 X.N N0 ys X.env scope)(hi:PI X tg iter wi)
 (hg:∀C fp pins s H,PG (D7 X N0 scope ys C fp pins s H) tg g) (ht:∀C fp pins s H,PCs (D7 X N0 scope ys C fp pins s H) ifs tc) (he:∀C fp pins s H,PE (D7 X N0 scope ys C fp pins s H) elt te)
 (hs:∀x,foldedSetIterable iter X.env x=pure x:=by intro _;rfl):PE X (.ListComp elt [⟨tg,iter,ifs,0⟩] scope pos) (b2r wi g tc te ys.length):=by
 intro pins s σ H Q I h
 rw [eval_ListComp]
 refine a7d hx hc S hi hg ht he hs I h fun D C s' H' m I' hn hC gone q=>⟨m,hn,fun h' hs'=>⟨.ref D,H', ?_,rfl,q⟩⟩
 obtain⟨g1,g2,g3,g4⟩:=gone
 exact I'.turned (t':=s'.toks) (fun b o hb e=>hs'.extBut b o hb e) hC g1 (.inr g2) g3 g4
theorem b7a{i:Nat}{y:Str}{py spos:Pos}(hx:∀e s,X.xe e s->False)(hc:X.calm=true)(S:N1 X.N N0 ys X.env scope)(hi:PI X tg iter wi)
 (hg:∀C fp pins s H,PG (D7 X N0 scope ys C fp pins s H) tg g) (ht:∀C fp pins s H,PCs (D7 X N0 scope ys C fp pins s H) ifs tc) (he:∀C fp pins s H,PE (D7 X N0 scope ys C fp pins s H) elt te)
 (hN:X.N.Nodup) (hiy:X.N[i]?=some y) (hy:X.env.scope.names.lookup y=some .local)
 (hsw:swapsWith (.ListComp elt [⟨tg,iter,ifs,0⟩] scope pos) (some (.Name y py)) spos.line X.env=pure true)
 (hs:∀x,foldedSetIterable iter X.env x=pure x:=by intro _;rfl):PS X (.Assign [.Name y py] (.ListComp elt [⟨tg,iter,ifs,0⟩] scope pos) spos) (fun D σ H=>b2r wi g tc te ys.length σ H fun v H'=>D.nx (σ.set i (some v)) H'):=by
 intro pins s σ H D I h
 rw [exec_Assign_Name_used _ _ _ _ hsw]
 refine AD (wpAny_standAt (AD ?_))
 show AF _ X.A (do let _<-comprehension (.ListComp elt [⟨tg,iter,ifs,0⟩] scope pos) scope X.env _ (newList []) false (eval iter X.env) (some (assign (.Name y py) X.env))) _ _ s
 refine AD (wpAny_mono (a7d (QQ:=fun _ s'=>SP X pins D .next s') hx hc S hi hg ht he hs I h fun L C s' H' m I' hn hC gone q=> ?_) (fun _ s' hq=>AI (AI hq)) fun _ _ e=>e)
 obtain⟨g1,g2,g3,g4⟩:=gone
 show AF _ X.A (assign (.Name y py) X.env (.ref L)) _ _ _
 refine wpAny_assign_Name (a7U (v:= .ref L) I' hN hiy (.inl hy) rfl (fun s2 I2 ⟨a,sb,ha⟩=> ?_) (.inr hy))
 have hCa:C≠a:=by
  rcases ha with z|z
  ·rw [z];exact g1
  ·exact fun e=>g3 y a z e.symm
 refine⟨m,hn.sameBut sb hCa,fun h' hs'=>⟨_,H',I2.turned (t':=s2.toks) (fun b o hb e=>hs'.extBut b o hb e) hC g1 (.inr g2) g3 g4,q⟩⟩
end
end L2
namespace PU
open PySem PySem.Spec PyProof.Rows L2
def a2p(c:MT)(elt:M)(tg:PV->a9->Option a9)(ρ:a9):List PV->Option (List PV)
 |[]=>some []
 |p::ps=>(tg p ρ).bind fun ρ1=>(c ρ1).bind fun b=>if b=true then((elt ρ1).bind d0.toVal).bind fun q=>(a2p c elt tg ρ ps).bind fun r=>some (q::r) else a2p c elt tg ρ ps
def M7:MT:=fun _=>some true
def B1(k:Nat)(it:MI)(tg:PV->a9->Option a9)(c:MT)(elt:M):M:=fun ρ=>(it ρ).bind fun ps=>if ps.length<=AO then(a2p c elt tg (ρ++AV k none) ps).bind fun r=>some (.own r) else none
def a61(K:AE)(n:Nat)(g:TG)(tg:PV->a9->Option a9):Prop:=
 ∀F H σ ρ ρ1 p x (Q:L2.St->Hp->Prop),K2 K F H σ ρ->B5 K F p x->tg p ρ=some ρ1->(∀σ',K2 K F H σ' ρ1->(∀(j:Nat),j<n->σ'[j]?=σ[j]?)->Q σ' H)->g x σ H Q
theorem K2.set{K:AE}{F H:Hp}{σ:L2.St}{ρ:a9}{p:PV}{x:V}(e:K2 K F H σ ρ)(r:B5 K F p x)(i:Nat):K2 K F H (σ.set i (some x)) (ρ.set i (some (.val p))):=by
 refine⟨e.fh,by simp [e.len],fun j q h=> ?_,fun j ps h=> ?_,fun j k ps qs a hjk h1 h2 h3 h4=> ?_⟩
 ·rw [List.getElem?_set] at h ⊢
  by_cases hij:i=j
  ·subst hij
   rw [if_pos rfl] at h ⊢
   rw [e.len]
   split at h
   ·rename_i c;cases h;rw [if_pos c];exact⟨x,rfl,r⟩
   ·cases h
  ·rw [if_neg hij] at h ⊢;exact e.at_ j q h
 ·rw [List.getElem?_set] at h
  by_cases hij:i=j
  ·subst hij
   rw [if_pos rfl] at h
   split at h<;>cases h
  ·rw [if_neg hij] at h;exact e.nb j ps h
 ·have get:∀(j:Nat) (ps:Y2),(ρ.set i (some (d0.val p)))[j]?=some (some (d0.ow ps))->i≠j/\ρ[j]?=some (some (d0.ow ps)):=fun j ps h=>by
   rw [List.getElem?_set] at h
   by_cases hij:i=j
   ·subst hij
    rw [if_pos rfl] at h
    split at h<;>cases h
   ·rw [if_neg hij] at h;exact⟨hij,h⟩
  obtain⟨n1,h1⟩:=get j ps h1
  obtain⟨n2,h2⟩:=get k qs h2
  rw [List.getElem?_set_ne n1] at h3
  rw [List.getElem?_set_ne n2] at h4
  exact e.ap j k ps qs a hjk h1 h2 h3 h4
theorem u0{K:AE}{n i:Nat}(h:n<=i):a61 K n (a9L i) (d5 i):=fun F H σ ρ ρ1 p x Q e r q k=>by
 cases q
 exact k _ (e.set r i) fun j hj=>by rw [List.getElem?_set_ne (by lia)]
theorem K2.more{K:AE}{F H:Hp}{σ:L2.St}{ρ:a9}(e:K2 K F H σ ρ)(k:Nat):K2 K F H (σ++AV k none) (ρ++AV k none):=by
 have key:∀(j:Nat) (q:d0),(ρ++AV k none)[j]?=some (some q)->ρ[j]?=some (some q)/\(σ++AV k none)[j]?=σ[j]?:=fun j q h=>by
  by_cases hj:j<ρ.length
  ·rw [BD hj] at h
   rw [BD (by rw [e.len];exact hj)]
   exact⟨h,rfl⟩
  ·rw [List.getElem?_append_right (by lia),List.getElem?_replicate] at h
   split at h<;>cases h
 refine⟨e.fh,by simp [e.len],fun j q h=> ?_,fun j ps h=>e.nb j ps (key j _ h).1,fun j k' ps qs a hjk h1 h2 h3 h4=> ?_⟩
 ·obtain⟨h1,h2⟩:=key j q h
  rw [h2];exact e.at_ j q h1
 ·obtain⟨a1,b1⟩:=key j _ h1
  obtain⟨a2,b2⟩:=key k' _ h2
  rw [b1] at h3
  rw [b2] at h4
  exact e.ap j k' ps qs a hjk a1 a2 h3 h4
def WC(K:AE)(F H:Hp)(D:AB)(c:MT)(elt:M)(tg:PV->a9->Option a9)(ρ:a9)(ps r:List PV)(i m:Nat)(xs:List V)(H':Hp):Prop:=
 ∃F' done rest,i<=ps.length/\m=ps.length - i/\W6 F H F' H'/\F' D=none/\j4 K F' done xs/\done.length<=i/\a2p c elt tg ρ (ps.drop i)=some rest/\done++rest=r
theorem b2K{K:AE}{F H:Hp}{D:AB}{c:MT}{elt:M}{tg:PV->a9->Option a9}{g:TG}{σ:L2.St}{ρ:a9}{k:Nat}{ps r:List PV}{i m:Nat}{xs:List V}{H':Hp}{p:PV}{x:V}
 (T:a61 K ρ.length g tg) (en:K2 K F H σ ρ) (hD:H D=none) (hsz:ps.length<=AO) (W:WC K F H D c elt tg (ρ++AV k none) ps r i m xs H') (hx:H' D=some (.lst xs)) (ep:ps[i]?=some p) (rx:B5 K F p x):
 g x (σ++AV k none) H' fun σ4 H4=>(∀(j:Nat) v,(σ++AV k none)[j]?=some (some v)->σ4[j]?=some (some v))/\tMT K c σ4 H4 fun b H5=>if b=true then tM K elt σ4 H5 fun v H6=>H6 D=some (.lst xs)/\xs.length<AO/\∃m',m'<m/\WC K F H D c elt tg (ρ++AV k none) ps r (i+1) m' (xs++[v]) (t8 H6 D (.lst (xs++[v])))
  else H5 D=some (.lst xs)/\∃m',m'<m/\WC K F H D c elt tg (ρ++AV k none) ps r (i+1) m' xs H5:=by
 obtain⟨F',done,rest,hi,hm,ex,fD,rl,dl,hc,hr⟩:=W
 have hk:i<ps.length:=(As.mp ep).1
 have hd:ps.drop i=p::ps.drop (i+1):=by
  rw [List.drop_eq_getElem_cons hk]
  congr 1
  exact(As.mp ep).2
 rw [hd] at hc
 unfold a2p at hc
 obtain⟨ρ1,e1,hc⟩:=bind_some hc
 obtain⟨b,e2,hc⟩:=bind_some hc
 have en':=(en.ext ex).more k
 refine T F' H' _ _ ρ1 p x _ en' (B5.mono ex.f _ rx) e1 fun σ4 en4 keep=>⟨fun j v e=> ?_, ?_⟩
 ·by_cases hj:j<ρ.length
  ·rw [keep j hj];exact e
  ·rw [List.getElem?_append_right (by rw [en.len];lia),List.getElem?_replicate] at e
   split at e<;>cases e
 refine⟨F',ρ1,b,en4,e2,fun F5 H5 x5=> ?_⟩
 have ex5:=ex.trans x5
 have fD5:F5 D=none:=x5.nw D _ fD hx (fun _ h=>nomatch h)
 cases b with
 |false=>
  rw [if_neg Ax] at hc
  refine a9Q ⟨x5.h _ _ hx,ps.length - (i+1),by lia,F5,done,rest,by lia,rfl,ex5,fD5,j4.mono x5.f _ rl,by lia,hc,hr⟩
 |true=>
  rw [if_pos rfl] at hc
  obtain⟨q,e3,hc⟩:=bind_some hc
  obtain⟨rt,e4,hc⟩:=bind_some hc
  cases hc
  obtain⟨re,e5,e6⟩:=bind_some e3
  refine a9R ⟨F5,ρ1,re,en4.ext x5,e5,fun v F6 H6 o6=> ?_⟩
  obtain⟨F7,o7⟩:=o6.toVal e6
  have hx6:H6 D=some (.lst xs):=o6.x.h _ _ (x5.h _ _ hx)
  have fD7:F7 D=none:=o7.x.nw D _ fD5 (x5.h _ _ hx) (fun _ h=>nomatch h)
  have ex7:=ex5.trans o7.x
  have hlen:=rl.length
  refine⟨hx6,by lia,ps.length - (i+1),by lia,F7,done++[q],rt,by lia,rfl,⟨ex7.f,fun a o z=> ?_,fun a o z=> ?_,ex7.nw,ex7.nf⟩,fD7,j4.append (j4.mono (x5.f.trans o7.x.f) _ rl) ⟨v,[],rfl,o7.rep,rfl⟩,by simp;lia,e4,by rw [List.append_assoc];exact hr⟩
  ·rw [g6 (j9 z hD)];exact ex7.h _ _ z
  ·rw [g6 (j9 z fD7)];exact ex7.fh _ _ z
theorem b30{K:AE}{F H:Hp}{D:AB}{c:MT}{elt:M}{tg:PV->a9->Option a9}{ρ:a9}{ps r:List PV}{m:Nat}{xs:List V}{H':Hp}(hD:H D=none)(W:WC K F H D c elt tg ρ ps r ps.length m xs H')(hx:H' D=some (.lst xs)):∃F',r9 K F H F' H' (.ref D) (.own r):=by
 obtain⟨F',done,rest,hi,hm,ex,fD,rl,dl,hc,hr⟩:=W
 rw [List.drop_length] at hc
 cases hc
 rw [Ak] at hr
 subst hr
 exact⟨F',ex,⟨D,xs,rfl,fD,hx,rl⟩,fun _ _ _ e=>by cases e;exact hD⟩
structure Src(K:AE)(F0 F H:Hp)(J:It)(ps:List PV):Prop where
 st:∀i H',j5 H H'->ps.length<=i->J.stop i H'
 go:∀i p H',j5 H H'->ps[i]?=some p->J.go i H'
 yd:∀i p x H' H'',j5 H H'->ps[i]?=some p->J.yld i H' x H''->H''=H'/\B5 K F p x
def SI(K:AE)(mi:MI)(wi:TI):Prop:=∀F H σ ρ ps (R:It->Hp->Prop),K2 K F H σ ρ->mi ρ=some ps->(∀F1 H1 J,W6 F H F1 H1->Src K F F1 H1 J ps->R J H1)->wi σ H R
abbrev EI(X:Cx)(tg iter:AG)(mi:MI):Prop:=∃wi,PI X tg iter wi/\SI X.K mi wi
section
variable {X:Cx}{tg:AG}
def A6(m:M):MI:=fun ρ=>(m ρ).bind fun r=>PyData.items? r.rd
theorem a3W{l:AG}{m:M}(h:EE X l m):EI X tg l (A6 m):=⟨_,b1i h,fun F H σ ρ ps R en e k=>by
 obtain⟨r,e1,e2⟩:=bind_some e
 refine⟨F,ρ,r,en,e1,fun v F1 H1 o1=> ?_⟩
 obtain⟨a,xs,rfl,hq,rl⟩:=A9 o1.x.fh o1.rep e2
 have hlen:=rl.length
 rcases hq with hq|hq
 ·refine⟨a,rfl,.inl ⟨⟨xs,hq⟩,k F1 H1 _ o1.x ⟨fun i H2 s h=>⟨xs,x9 s hq,by lia⟩,fun i p H2 s h=> ?_,fun i p x H2 H3 s h y=> ?_⟩⟩⟩
  ·obtain⟨v,ev,_⟩:=rl.get h
   exact⟨xs,v,x9 s hq,ev⟩
  ·obtain⟨v,ev,rv⟩:=rl.get h
   obtain⟨e,y⟩:=y
   have:=y xs (x9 s hq)
   rw [ev] at this;cases this
   exact⟨e,rv⟩
 ·refine⟨a,rfl,.inr ⟨⟨xs,hq⟩,k F1 H1 _ o1.x ⟨fun i H2 s h=>⟨xs,u8 s hq,by lia⟩,fun i p H2 s h=> ?_,fun i p x H2 H3 s h y=> ?_⟩⟩⟩
  ·obtain⟨v,ev,_⟩:=rl.get h
   exact⟨xs,v,u8 s hq,ev⟩
  ·obtain⟨v,ev,rv⟩:=rl.get h
   obtain⟨e,y⟩:=y
   have:=y xs (u8 s hq)
   rw [ev] at this;cases this
   exact⟨e,rv⟩⟩
theorem b7h{K:AE}{F0 F H:Hp}{lo hi:Int}:Src K F0 F H (Itr lo (hi - lo).toNat) (G0 lo hi):=by
 have hl:=C1 lo hi
 refine⟨fun i H2 s h=> ?_,fun i p H2 s h=> ?_,fun i p x H2 H3 s h y=> ?_⟩
 ·show(hi - lo).toNat<=i;lia
 ·have:=(As.mp h).1
  show i<(hi - lo).toNat;lia
 ·have hi':=(As.mp h).1
  rw [a3w (by lia)] at h
  cases h
  obtain⟨e,y⟩:=y
  exact⟨e,y⟩
theorem a0C{a:AG}{m:MA}{p rp:Pos}(hgl:Gl X "range")(hm:X.mg "range"=none)(ha:EA X [a] m)(hst:AN [a] X.env=[(false,eval a X.env)]:=by rfl):EI X tg (.Call (.Name "range" p) [a] [] rp) (C9 m):=⟨_,a7O hgl hm ha hst,fun F H σ ρ ps R en e k=>by
 obtain⟨qs,e1,e2⟩:=bind_some e
 refine⟨F,ρ,qs,en,e1,fun vs F1 H1 x rl=> ?_⟩
 split at e2
 ·rename_i j
  split at e2
  ·rename_i c
   have c:=a0H.mp c
   cases e2
   obtain⟨v,r,rfl,rv,rr⟩:=rl
   cases rv
   cases rr
   have hz:(j - 0).toNat=j.toNat:=by lia
   refine⟨j,rfl,c.1,c.2,k F1 H1 _ x ?_⟩
   have z:=b7h (K:=X.K) (F0:=F) (F:=F1) (H:=H1) (lo:=0) (hi:=j)
   rw [hz] at z
   exact z
  ·cases e2
 ·cases e2⟩
abbrev EC(X:Cx)(ifs:List AG)(c:MT):Prop:=PCs X ifs (tMT X.K c)
theorem U5:EC X [] M7:=fun pins s σ H Q I ⟨F,ρ,b,en,e,k⟩=>by
 cases e
 exact b62 pins s σ H Q I (k F H (W6.refl en.fh))
theorem b4b{c:AG}{mc:MT}(h:ET X c mc):EC X [c] mc:=b63 h
theorem a7e{mi:MI}{wi:TI}{g:TG}{c:MT}{elt:M}{t:PV->a9->Option a9}{N:List Str}{k:Nat}(hi:SI X.K mi wi)(T:∀n,n=N.length->a61 X.K n g t){σ:L2.St}{H:Hp}{Q:VK}(hl:σ.length=N.length)(h:tM X.K (B1 k mi t c elt) σ H Q):b2r wi g (tMT X.K c) (tM X.K elt) k σ H Q:=by
 obtain⟨F,ρ,r,en,e,kk⟩:=h
 obtain⟨ps,e1,e⟩:=bind_some e
 split at e
 ·rename_i hsz
  obtain⟨rs,e2,e⟩:=bind_some e
  cases e
  refine hi F H σ ρ ps _ en e1 fun F1 H1 J x1 S D hD=> ?_
  have en1:=en.ext x1
  have T':a61 X.K ρ.length g t:=T _ (by rw [<-en.len,hl])
  refine⟨WC X.K F1 H1 D c elt t (ρ++AV k none) ps rs,⟨ps.length,F1,[],rs,Nat.zero_le _,rfl,W6.layH x1.fh hD,x1.fh.free hD,rfl,AS _,e2,rfl⟩,fun i m xs H2 W hx=> ?_⟩
  have W':=W
  obtain⟨F',done,rest,hi',hm,ex,fD,rl,dl,hc,hr⟩:=W'
  have sF:j5 H1 H2:=ex.h
  by_cases hlt:i<ps.length
  ·refine .inr ⟨S.go i ps[i] H2 sF (by simp [hlt]),fun x H3 y=> ?_⟩
   obtain⟨e3,rx⟩:=S.yd i ps[i] x H2 H3 sF (by simp [hlt]) y
   subst e3
   exact b2K T' en1 hD hsz W hx (by simp [hlt]) rx
  ·have e3:i=ps.length:=by lia
   subst e3
   refine .inl ⟨S.st _ H2 sF (AS _), ?_⟩
   obtain⟨F2,o⟩:=b30 hD W hx
   exact kk _ F2 H2 (r9.trans x1 o)
 ·cases e
theorem G9{elt iter:AG}{ifs:List AG}{scope:Scope}{N0 ys:List Str}{mi:MI}{g:TG}{c:MT}{m:M}{t:PV->a9->Option a9}{pos:Pos}(hx:∀e s,X.xe e s->False)(hc:X.calm=true)(S:N1 X.N N0 ys X.env scope)(hi:EI X tg iter mi)
 (hg:∀C fp pins s H,PG (D7 X N0 scope ys C fp pins s H) tg g) (T:∀n,n=X.N.length->a61 X.K n g t) (ht:∀C fp pins s H,EC (D7 X N0 scope ys C fp pins s H) ifs c) (he:∀C fp pins s H,EE (D7 X N0 scope ys C fp pins s H) elt m)
 (hs:∀x,foldedSetIterable iter X.env x=pure x:=by intro _;rfl):EE X (.ListComp elt [⟨tg,iter,ifs,0⟩] scope pos) (B1 ys.length mi t c m):=by
 obtain⟨wi,h1,h2⟩:=hi
 intro pins s σ H Q I h
 exact b65 hx hc S h1 hg ht he hs pins s σ H Q I (a7e (N:=X.N) h2 T I.len h)
theorem b6g{i:Nat}{y:Str}{elt iter:AG}{ifs:List AG}{scope:Scope}{N0 ys:List Str}{mi:MI}{g:TG}{c:MT}{m:M}{t:PV->a9->Option a9}{pos py spos:Pos}(hN:X.N.Nodup)(hx:∀e s,X.xe e s->False)(hc:X.calm=true)(S:N1 X.N N0 ys X.env scope)(hi:EI X tg iter mi)
 (hg:∀C fp pins s H,PG (D7 X N0 scope ys C fp pins s H) tg g) (T:∀n,n=X.N.length->a61 X.K n g t) (ht:∀C fp pins s H,EC (D7 X N0 scope ys C fp pins s H) ifs c) (he:∀C fp pins s H,EE (D7 X N0 scope ys C fp pins s H) elt m)
 (hiy:X.N[i]?=some y:=by rfl) (hy:X.env.scope.names.lookup y=some .local:=by rfl) (hsw:swapsWith (.ListComp elt [⟨tg,iter,ifs,0⟩] scope pos) (some (.Name y py)) spos.line X.env=pure true:=by rfl)
 (hs:∀x,foldedSetIterable iter X.env x=pure x:=by intro _;rfl):ES X (.Assign [.Name y py] (.ListComp elt [⟨tg,iter,ifs,0⟩] scope pos) spos) (m9 i (B1 ys.length mi t c m)):=by
 obtain⟨wi,h1,h2⟩:=hi
 intro pins s σ H D I ⟨F0,H0,F,ρ,fl,so,e,fin⟩
 obtain⟨r,e1,e⟩:=bind_some e
 split at e
 ·rename_i c
  cases e
  exact b7a hx hc S h1 hg ht he hN hiy hy hsw hs pins s σ H D I (a7e (N:=X.N) h2 T I.len ⟨F,ρ,r,so.e,e1,fun v F' H' o=>fin _ F' H' o.x.f (so.set o c i)⟩)
 ·cases e
end
def Z1:List PV->Option (List Str)
 |[]=>some []
 | .str x::r=>(Z1 r).map (x::·)
 |_=>none
theorem a6E:∀xs:List Str,Z1 (xs.map .str)=some xs
 |[]=>rfl
 |x::xs=>by rw [AQ];simp only [Z1,a6E xs,Av]
theorem a0R{K:AE}{H:Hp}:∀{ps:List PV} {ys:List Str} {xs:List V} {us:List AA},Z1 ps=some ys->j4 K H ps xs->l9 xs us->StrsAre us ys
 |[],_,_,_,h,r,v=>by cases h;cases r;cases v;exact .nil
 |p::ps,ys,_,_,h,⟨x,r,e,hp,t⟩,v=>by
  subst e
  cases p with
  |str z=>
   simp only [Z1] at h
   cases q:Z1 ps with
   |none=>rw [q] at h;cases h
   |some zs=>
    rw [q] at h;cases h
    cases hp
    cases v with
    |cons a b=>
     obtain⟨tk,rfl⟩:=a
     exact .cons z tk (a0R q t b)
  |_=>simp [Z1] at h
def V0(x y:d0):Option d0:=match x with
 | .val (.str z)=>(match PyData.items? y.rd with
   |some ps=>(Z1 ps).bind fun ys=>if(ys.map (·.length)).sum+ys.length*z.length<=16777216 then some (.val (.str (Txt.join z ys))) else none
   |none=>none)
 |_=>none
section
variable {X:Cx}
theorem b6M:MtR X "str.join" (fun x xs H Q=>∃F y rx ry rz,xs=[y]/\j5 F H/\N2 X.K F H x rx/\N2 X.K F H y ry/\V0 rx ry=some rz/\∀v F' H',r9 X.K F H F' H' v rz->Q v H'):=by
 intro pins s σ H x xs v us Q I rx rv h
 obtain⟨F,y,ra,rb,rz,rfl,s0,h1,h2,h3,k⟩:=h
 obtain⟨u,rfl,ru⟩:=a01 rv
 unfold V0 at h3
 split at h3
 ·rename_i z
  split at h3
  ·rename_i ps e
   obtain⟨ys,e2,h3⟩:=bind_some h3
   split at h3
   ·rename_i c
    cases h3
    cases h1
    obtain⟨t,rfl⟩:=rx
    obtain⟨a,xs,rfl,hq,r⟩:=A9 s0 h2 e
    cases ru
    rcases hq with hq|hq
    ·obtain⟨its,rv,pl,hz⟩:=I.list hq
     exact join_list pl.isList (by simpa using a0R e2 r rv) c fun t' k'=>⟨.str _,H,I.tok _,⟨_,rfl⟩,k _ F H (r9.here s0 rfl)⟩
    ·obtain⟨its,rv,pl,hz⟩:=I.tuple hq
     exact join_tuple pl (by simpa using a0R e2 r rv) c fun t' k'=>⟨.str _,H,I.tok _,⟨_,rfl⟩,k _ F H (r9.here s0 rfl)⟩
   ·cases h3
  ·cases h3
 ·cases h3
theorem a3c{o e:AG}{m n:M}{apos cpos:Pos}(ho:EE X o m)(ha:EE X e n)
 (hbase:attributeBase o "join" X.env (eval o X.env)=eval o X.env:=by rfl)
 (hfew:((backTo cpos (AN [e] X.env)).all (fun x=> !x.1)&&(backToKw cpos (keywordEach [] X.env)).all (fun x=>x.1.isSome)
  && decide ([e].length+([]:List Keyword).length+(if([]:List Keyword).isEmpty then 0 else 1)<30))=true:=by rfl)
 (hline:(apos.endLine==cpos.line)=true:=by rfl) (hs:AN [e] X.env=(false,eval e X.env)::AN [] X.env:=by rfl) (hplain:(backTo cpos (AN [] X.env)).any (·.1)=false:=by rfl):
 EE X (.Call (.Attribute o "join" apos) [e] [] cpos) (m2 V0 m n):=
 u6 (b5b PySem.F.plainAttrs_str PySem.F.slot_str_join PySem.F.type_str_join b6M ho (y3 ha O3 hs) hbase hfew hline hs hplain) fun σ H Q h0=>t6 h0 fun F ρ r he hm k=>by
  obtain⟨rx,e1,hm⟩:=bind_some hm
  obtain⟨ry,e2,hm⟩:=bind_some hm
  refine⟨F,ρ,rx,he,e1,fun v F1 H1 o1=>⟨?_,⟨F1,ρ,ry,he.ext o1.x,e2,fun u F2 H2 o2=>⟨F2,u,rx,ry,r,rfl,o2.x.fh,o1.rep.ext o2.x,o2.rep,hm,fun z F3 H3 o3=>k z F3 H3 (r9.trans (o1.x.trans o2.x) o3)⟩⟩⟩⟩
  unfold V0 at hm
  split at hm
  ·cases o1.rep;rfl
  ·cases hm
end
def cut{α:Type}(xs:List α)(lo hi:Option Int):List α:=(xs.drop (HT.sIx xs.length 0 lo)).take (HT.sIx xs.length xs.length hi - HT.sIx xs.length 0 lo)
theorem a26(n d:Nat)(hd:d<=n)(o:Option Int):(match o with|none=>(d:Int)|some i=>max 0 (min (if i<0 then i+n else i) n))=((HT.sIx n d o:Nat):Int):=by
 cases o with
 |none=>rfl
 |some i=>unfold HT.sIx;dsimp only;split<;>lia
theorem b6a(n:Nat)(lo hi:Option Int):Builtin.Str.strSliceIndices lo hi 1 n=(AR (HT.sIx n n hi - HT.sIx n 0 lo)).map (HT.sIx n 0 lo+·):=by
 have h1:=a26 n 0 (Nat.zero_le _) lo
 have h2:=a26 n n (AS _) hi
 have key:∀a b:Int,a=((HT.sIx n 0 lo:Nat):Int)->b=((HT.sIx n n hi:Nat):Int)->sliceRange a b 1=(AR (HT.sIx n n hi - HT.sIx n 0 lo)).map (HT.sIx n 0 lo+·):=fun a b ha hb=>by rw [ha,hb,sliceRange_one]
 refine key _ _ ?_ ?_
 ·cases lo with
  |none=>rfl
  |some i=>exact h1
 ·cases hi with
  |none=>rfl
  |some i=>exact h2
theorem b7m(z:Str)(lo hi:Option Int):Txt.slice z lo hi=⟨(cut z.cps.toList lo hi).toArray⟩:=by
 have hz:z.cps.toList.length=z.length:=by simp [Str.length]
 unfold Txt.slice
 rw [b6a,pick_run z.cps]
 split
 ·rename_i c
  have c':HT.sIx z.length z.length hi - HT.sIx z.length 0 lo=z.length:=by
   simpa using c
  have hle:=HT.sIx_le z.length z.length (AS _) hi
  unfold cut
  rw [hz,c']
  have:HT.sIx z.length 0 lo=0\/z.length=0:=by lia
  cases z with
  |mk a=>
   congr 1
   rcases this with h|h
   ·rw [h,List.drop_zero]
    have:a.toList.length=(⟨a⟩:Str).length:=hz
    rw [<-this,List.take_length]
   ·have h0:a.toList=[]:=List.length_eq_zero_iff.mp (by rw [<-h];exact hz)
    have:a= #[]:=by
     apply Array.ext'
     rw [h0]
    subst this
    simp
 ·unfold cut
  rw [hz]
theorem a6W(items:Array AA)(lo hi:Option Int):slicePick items lo hi none=(cut items.toList lo hi).toArray:=by
 have hz:items.toList.length=items.size:=by simp
 unfold slicePick cut
 rw [hz]
 have key:∀a b:Int,a=((HT.sIx items.size 0 lo:Nat):Int)->b=((HT.sIx items.size items.size hi:Nat):Int)->(List.filterMap (items[·]?) (sliceRange a b 1)).toArray=((items.toList.drop (HT.sIx items.size 0 lo)).take (HT.sIx items.size items.size hi - HT.sIx items.size 0 lo)).toArray:=fun a b ha hb=>by rw [ha,hb,sliceRange_one,pick_run]
 refine key _ _ ?_ ?_
 ·cases lo with
  |none=>rfl
  |some i=>exact a26 items.size 0 (Nat.zero_le _) (some i)
 ·cases hi with
  |none=>rfl
  |some i=>exact a26 items.size items.size (AS _) (some i)
theorem j4.cut{K:AE}{H:Hp}{ps:List PV}{xs:List V}(r:j4 K H ps xs)(lo hi:Option Int):j4 K H (PU.cut ps lo hi) (PU.cut xs lo hi):=by
 unfold PU.cut
 rw [r.length]
 exact(r.drop _).take _
theorem b6b{α:Type}(xs:List α)(lo hi:Option Int):(cut xs lo hi).length<=xs.length:=by
 unfold cut
 rw [List.length_take,List.length_drop];lia
theorem a2f{prog:AL}{w:AJ}{A:AM}{E:AA->AC->Prop}{s:AC}{t sl:AB}{items:Array AA}{vl vu:AA}{lo hi:Option Int}{Q:AA->AC->Prop}(ht:IsTup s.heap t items)(hs:s.heap.IsSliceOf sl vl vu .none)(pl:IsPart vl lo)(pu:IsPart vu hi)
 (hw:HT.sIx items.size 0 lo=0/\HT.sIx items.size items.size hi=items.size)
 (h:Q (.ref t) s):AF (model prog w) A (getItem (.ref t) (.ref sl)) Q E s:=by
 obtain⟨os,hos,hcs,hds⟩:=id hs
 have hTs:s.TypeIs (.ref sl) "slice":=⟨os,hos,hcs⟩
 unfold getItem
 try with_reducible refine wpAny_holding ?_
 first|refine AD (AI ?_)|skip
 refine AD (wpAny_sequenceKey ht.typeIs (by decide) ?_)
 refine AD (wpAny_callSpecial?_slot (name:=AK "__getitem__") ht.typeIs PyProof.Rows.slot_tuple_getitem
  (wpAny_call_entry PyProof.Rows.slot_tuple_getitem ht.typeIs entry_tuple_getitem ?_ (args_tuple_getitem _ _)))
 show AF _ _ (Builtin.Tuple.tupleItemsOf (.ref t)>>=_) _ _ s
 refine AD (tupleItemsOf_ ht ?_)
 refine AD (wpAny_typeOf hTs ?_)
 rw [if_pos (by decide)]
 refine AD (HT.sliceApplied_gen hs pl pu ?_)
 have hno:(((HT.sIx items.size 0 lo:Nat):Int)==0 &&(1:Int)==1 &&(HT.sIx items.size items.size hi - HT.sIx items.size 0 lo)==items.size)=true:=by
  rw [hw.1,hw.2];simp
 show AF _ _ (if(((HT.sIx items.size 0 lo:Nat):Int)==0 &&(1:Int)==1 &&(HT.sIx items.size items.size hi - HT.sIx items.size 0 lo)==items.size)=true then _ else _) _ _ s
 rw [if_pos hno]
 refine AD (AD (m:=typeOf (.ref t)) (wpAny_typeOf ht.typeIs (AI ?_)))
 rw [if_pos (by decide)]
 wp_walk
 exact⟨_,rfl,AI h⟩
theorem b7l{X:Cx}:SlR X (fun x lo hi H Q=>∃a xs,x= .ref a/\SqT X.K H a xs/\(HT.sIx xs.length 0 lo=0/\HT.sIx xs.length xs.length hi=xs.length)/\Q (.ref a) H):=by
 intro pins s σ H x v vl vu lo hi sl Q I rx hs pl pu h
 obtain⟨a,xs,rfl,hx,hw,q⟩:=h
 cases rx
 obtain⟨its,r,ht,hz⟩:=I.tuple hx
 have hlen:its.toArray.size=xs.length:=by rw [Am];exact r.length.symm
 refine⟨"tuple",_,PyProof.Rows.slot_tuple_getitem.lookup,ht.typeIs, ?_⟩
 exact a2f ht hs pl pu (by rw [hlen];exact hw) ⟨.ref a,H,I,rfl,q⟩
theorem b2L{α:Type}{xs:List α}{lo hi:Option Int}(h:HT.sIx xs.length 0 lo=0/\HT.sIx xs.length xs.length hi=xs.length):cut xs lo hi=xs:=by
 unfold cut
 rw [h.1,h.2,List.drop_zero,Nat.sub_zero,List.take_length]
section
variable {X:Cx}
theorem b0T{h:Heap}{sl:AB}{vl vu:AA}{lo hi:Option Int}(hs:h.IsSliceOf sl vl vu .none)(pl:IsPart vl lo)(pu:IsPart vu hi):∃l u:Option (Int×Tok),h.IsSlice sl l u none/\l.map (·.1)=lo/\u.map (·.1)=hi:=by
 obtain⟨o,ho,hc,hd⟩:=hs
 cases pl with
 |none=>
  cases pu with
  |none=>exact⟨none,none,⟨o,ho,hc,hd⟩,rfl,rfl⟩
  |int j t=>exact⟨none,some (j,t),⟨o,ho,hc,hd⟩,rfl,rfl⟩
 |int i t=>
  cases pu with
  |none=>exact⟨some (i,t),none,⟨o,ho,hc,hd⟩,rfl,rfl⟩
  |int j t'=>exact⟨some (i,t),some (j,t'),⟨o,ho,hc,hd⟩,rfl,rfl⟩
theorem b9D:SlR X (fun x lo hi H Q=>∃z,x= .str z/\z.length<=AO/\Q (.str (Txt.slice z lo hi)) H):=by
 intro pins s σ H x v vl vu lo hi sl Q I rx hs pl pu h
 obtain⟨z,rfl,hz,q⟩:=h
 obtain⟨t,rfl⟩:=rx
 obtain⟨l,u,hs',e1,e2⟩:=b0T hs pl pu
 subst e1 e2
 exact⟨"str",_,PySem.F.slot_str_getitem.lookup,typeIs_str _ _ _,wpAny_getItem_str_slice hs' rfl (post_val_or_str ⟨Nat.le_trans (Txt.slice_le z _ _) hz,fun t' k=>⟨.str _,H,I.tok _,⟨_,rfl⟩,q⟩⟩)⟩
theorem b9C:SlR X (fun x lo hi H Q=>∃a xs,x= .ref a/\Z3 X.K H a xs/\∀p,H p=none->Q (.ref p) (t8 H p (.lst (PU.cut xs lo hi)))):=by
 intro pins s σ H x v vl vu lo hi sl Q I rx hs pl pu h
 obtain⟨a,xs,rfl,hx,q⟩:=h
 cases rx
 obtain⟨its,r,pl',hz⟩:=I.list hx
 have hlen:=r.length
 refine⟨"list",_,list_getitem_lookup,pl'.isList.typeIs, ?_⟩
 refine wpAny_getItem_list_slice pl'.isList hs pl pu .none (by simp) ?_ (by rw [Am];lia)
 rw [a6W]
 refine⟨.ref s.heap.objs.size,_,I.laid (t':=s.toks) (o:= .lst (PU.cut xs lo hi)) (fun b ob q=>Ab _ q) (AS _) ?_,rfl,q _ (I.hok.fresh (AS _))⟩
 refine⟨Nat.le_trans (b6b xs lo hi) hz,PU.cut its lo hi,0, ?_,Ao _ rfl⟩
 unfold PU.cut
 rw [hlen]
 exact(r.drop _).take _
def gSl(x:d0)(lo hi:Option Int):Option d0:=match x with
 | .val (.str z)=>if z.length<=AO then some (.val (.str ⟨(cut z.cps.toList lo hi).toArray⟩)) else none
 | .val (.tuple ps)=>some (.val (.tuple (cut ps lo hi)))
 | .val (.list ps)=>some (.own (cut ps lo hi))
 | .ow (.lst ps)=>some (.own (cut ps lo hi))
 | .bo (.lst ps)=>some (.own (cut ps lo hi))
 |_=>none
def rSl(K:AE):V->Option Int->Option Int->Hp->VK->Prop:=fun x lo hi H Q=>∃F rx rz,j5 F H/\N2 K F H x rx/\gSl rx lo hi=some rz/\∀v F' H',r9 K F H F' H' v rz->Q v H'
theorem slm:SlR X (rSl X.K):=by
 intro pins s σ H x v vl vu lo hi sl Q I rx hs pl pu h
 obtain⟨F,ra,rz,s0,h1,h2,k⟩:=h
 have lst:∀ps,PyData.items? ra.rd=some ps->(∃a xs,x= .ref a/\Z3 X.K H a xs/\j4 X.K F ps xs)->rz= .own (cut ps lo hi)->∃T id,typeLookup (.type T) "__getitem__"=pure (some (.builtin id))/\s.TypeIs v T/\AF (model X.prog X.w) X.A (getItem v (.ref sl)) (EP X pins σ Q) X.xe s:=fun ps e ⟨a,xs,e1,hq,rl⟩ e2=>by
  subst e2
  exact b9C pins s σ H x v vl vu lo hi sl Q I rx hs pl pu ⟨a,xs,e1,hq,fun p hp=>k _ _ _ (r9.lst s0 hp (rl.cut lo hi))⟩
 unfold gSl at h2
 split at h2
 ·rename_i z
  split at h2
  ·rename_i c
   cases h2
   cases h1
   refine b9D pins s σ H _ v vl vu lo hi sl Q I rx hs pl pu ⟨z,rfl,c, ?_⟩
   rw [b7m]
   exact k _ F H (r9.here s0 rfl)
  ·cases h2
 ·rename_i ps
  cases h2
  by_cases c:HT.sIx ps.length 0 lo=0/\HT.sIx ps.length ps.length hi=ps.length
  ·obtain⟨a,xs,rfl,hq,rl⟩:=h1
   have hlen:=rl.length
   refine b7l pins s σ H _ v vl vu lo hi sl Q I rx hs pl pu ⟨a,xs,rfl,u8 s0 hq.sq,by rw [hlen];exact c, ?_⟩
   rw [b2L c] at k
   exact k _ F H (r9.here s0 ⟨a,xs,rfl,hq,rl⟩)
  ·obtain⟨a,xs,rfl,hq,rl⟩:=h1
   have hlen:=rl.length
   refine b9E pins s σ H _ v vl vu lo hi sl Q I rx hs pl pu ⟨a,xs,rfl,u8 s0 hq.sq,by rw [hlen];exact c,fun p hp=> ?_⟩
   exact k _ _ _ (r9.tup s0 hp (rl.cut lo hi))
 ·rename_i ps
  cases h2
  obtain⟨a,xs,e1,hq,rl⟩:=h1
  exact lst ps rfl ⟨a,xs,e1,x9 s0 hq,rl⟩ rfl
 ·rename_i ps
  cases h2
  obtain⟨a,xs,e1,_,hq,rl⟩:=h1
  exact lst ps rfl ⟨a,xs,e1,Z3.of hq,rl⟩ rfl
 ·rename_i ps
  cases h2
  obtain⟨a,xs,e1,_,hq,rl⟩:=h1
  exact lst ps rfl ⟨a,xs,e1,Z3.of hq,rl⟩ rfl
 ·cases h2
abbrev MO:=a9->Option (Option Int)
def tMO(K:AE)(m:MO):TO:=fun σ H Q=>∃F ρ o,K2 K F H σ ρ/\m ρ=some o/\∀F' H',W6 F H F' H'->Q o H'
abbrev EO(X:Cx)(e:Option AG)(m:MO):Prop:=PO X e (tMO X.K m)
def V7:MO:=fun _=>some none
def b11:d0->Option (Option Int)
 | .val (.int i)=>some (some i)
 |_=>none
def V8(m:M):MO:=fun ρ=>(m ρ).bind b11
theorem X0:EO X none V7:=fun pins s σ H Q I ⟨F,ρ,o,en,e,k⟩=>by
 cases e
 exact b67 pins s σ H Q I (k F H (W6.refl en.fh))
theorem X1{e:AG}{m:M}(h:EE X e m):EO X (some e) (V8 m):=fun pins s σ H Q I ⟨F,ρ,o,en,e1,k⟩=>by
 obtain⟨r,e2,e3⟩:=bind_some e1
 refine b68 h pins s σ H Q I ⟨F,ρ,r,en,e2,fun v F1 H1 o1=> ?_⟩
 unfold b11 at e3
 split at e3
 ·cases e3
  exact⟨_,o1.rep,k F1 H1 o1.x⟩
 ·cases e3
def V6(m:M)(lo hi:MO):M:=fun ρ=>(m ρ).bind fun r=>(lo ρ).bind fun l=>(hi ρ).bind fun h=>gSl r l h
theorem Q0{e:AG}{lo hi:Option AG}{m:M}{ml mh:MO}{pos p2:Pos}(he:EE X e m)(hl:EO X lo ml)(hh:EO X hi mh):EE X (.Subscript e (.Slice lo hi none p2) pos) (V6 m ml mh):=
 u6 (b5e slm he hl hh) fun σ H Q h0=>t6 h0 fun F ρ r en e k=>by
  obtain⟨ra,e1,e⟩:=bind_some e
  obtain⟨l,e2,e⟩:=bind_some e
  obtain⟨h,e3,e⟩:=bind_some e
  exact⟨F,ρ,ra,en,e1,fun v F1 H1 o1=>⟨F1,ρ,l,en.ext o1.x,e2,fun F2 H2 x2=>⟨F2,ρ,h,(en.ext o1.x).ext x2,e3,fun F3 H3 x3=>⟨F3,ra,r,x3.fh,(o1.rep.ext x2).ext x3,e,fun z F4 H4 o4=>k z F4 H4 (r9.trans ((o1.x.trans x2).trans x3) o4)⟩⟩⟩⟩
end
def Its(x:Str):It:=⟨fun i _=>i<x.cps.size,fun i H v H'=>H'=H/\∃c,x.cps[i]?=some c/\v= .str ⟨#[c]⟩,fun i _=>x.cps.size<=i⟩
theorem b0r{P:AL}{w:AJ}{K:AE}{tg:AG}(b:Bool)(it:AB)(x:Str)(t:Tok):b0y P w K tg (Its x) [it] it (fun i h=>h.IsStrIter it (if b then "str_ascii_iterator" else "str_iterator") x t i) where
 mem:=by simp
 obj:=fun i h st c hb=>by
  have e:c=it:=by simpa using hb
  subst e
  obtain⟨o,e,c,d⟩:=st
  exact⟨o,e,fun v z=>by rw [d] at z;cases z⟩
 keep:=fun i h h' st k=>let ⟨o,e,r⟩:=st;⟨o,k it (by simp) o e,r⟩
 item:=by
  intro X hP hw hK hc i pins s σ H E I hf st hg
  subst hP hw hK
  obtain⟨f0,f1,f2,f3,f4,f5⟩:=hf it (by simp)
  have hg:i<x.cps.size:=hg
  have hx:x.cps[i]?=some x.cps[i]:=by simp [hg]
  have fin:∀h':Heap,h'.IsStrIter it (if b then "str_ascii_iterator" else "str_iterator") x t (i+1)->Heap.SameBut it s.heap h'->∃u,some (Value.str ⟨#[x.cps[i]]⟩ s.toks)=some u/\
   AF (model X.prog X.w) X.A (letOwnedTupleGo tg (.ref it) u) (fun _ s2=>∃y H',e9 X pins σ H' s2/\l8 y u/\(Its x).yld i H y H'/\s2.heap.IsStrIter it (if b then "str_ascii_iterator" else "str_iterator") x t (i+1)/\∀b∈[it],H' b=none) E {s with heap:=h',toks:=s.toks+1}:=fun h' st' sb=>by
   have I1:e9 X pins σ H {s with heap:=h',toks:=s.toks+1}:=I.turned (fun b o hb e=>(sb.2 b hb).trans e) f0 f1 f3 f4 f5
   obtain⟨o,e,c,d⟩:=id st'
   refine⟨_,rfl,b1Y (s:={s with heap:=h',toks:=s.toks+1}) (n:=if b then "str_ascii_iterator" else "str_iterator") e c d (by cases b<;>decide) ⟨.str ⟨#[x.cps[i]]⟩,H,I1,⟨_,rfl⟩,⟨rfl,_,hx,rfl⟩,st',fun b hb=>(hf b hb).1⟩⟩
  cases b with
  |true=>exact wpAny_pyNext_ascii_item st hx fun h' a b=>fin h' a b
  |false=>exact wpAny_pyNext_wide_item st hx fun h' a b=>fin h' a b
 done:=by
   intro X hP hw hK hc i pins s σ H E I hf st hg
   subst hP hw hK
   obtain⟨f0,f1,f2,f3,f4,f5⟩:=hf it (by simp)
   have hg:x.cps.size<=i:=hg
   have hx:x.cps[i]?=none:=by simp [hg]
   cases b with
   |true=>exact wpAny_pyNext_ascii_end (I.ok.hd hc) st hx fun h' eb=>⟨rfl,I.turned (t':=s.toks) (fun b o hb e=>eb b o hb e) f0 f1 f3 f4 f5⟩
   |false=>exact wpAny_pyNext_wide_end (I.ok.hd hc) st hx fun h' eb=>⟨rfl,I.turned (t':=s.toks) (fun b o hb e=>eb b o hb e) f0 f1 f3 f4 f5⟩
 self:=fun _ _ _ _ _ st h=>by
  cases b with
  |true=>exact wpAny_pyIter_striter_ascii st h
  |false=>exact wpAny_pyIter_striter_wide st h
section
variable {X:Cx}{tg:AG}
structure b91(K:AE)(F:Hp)(J:It)(ps:List PV):Prop where
 st:∀i H',j5 F H'->ps.length<=i->J.stop i H'
 go:∀i p H',j5 F H'->ps[i]?=some p->J.go i H'
 yd:∀i p x H' H'',j5 F H'->ps[i]?=some p->J.yld i H' x H''->H''=H'/\B5 K F p x
def SIF(K:AE)(mi:MI)(wi:TI):Prop:=∀F H σ ρ ps (R:It->Hp->Prop),K2 K F H σ ρ->mi ρ=some ps->(∀F1 H1 J,W6 F H F1 H1->b91 K F1 J ps->R J H1)->wi σ H R
abbrev EIF(X:Cx)(tg iter:AG)(mi:MI):Prop:=∃wi,PI X tg iter wi/\SIF X.K mi wi
theorem b4o{K:AE}{F:Hp}{J:It}{ps:List PV}{g:TG}{tb:TS}{D:M3}{σ:L2.St}{H:Hp}(S:b91 K F J ps)(Pv:Nat->L2.St->Hp->Prop)(h0:Pv 0 σ H)(hl:∀i σ H,Pv i σ H->j5 F H)
 (hs:∀i p x σ H,ps[i]?=some p->B5 K F p x->Pv i σ H->g x σ H fun σ2 H2=>tb {D with nx:=Pv (i+1),ct:=Pv (i+1),bk:=D.nx} σ2 H2) (hd:∀σ H,Pv ps.length σ H->D.nx σ H):
 ∃W:Nat->Nat->L2.St->Hp->Prop,(∃m,W 0 m σ H)/\∀i m σ H,W i m σ H->
  (J.stop i H/\D.nx σ H)\/(J.go i H/\∃N:L2.St->Hp->Prop,(∀σ' H',N σ' H'->∃m',m'<m/\W (i+1) m' σ' H')/\∀x H',J.yld i H x H'->g x σ H' fun σ2 H2=>tb {D with nx:=N,ct:=N,bk:=D.nx} σ2 H2):=by
 refine⟨fun i m σ H=>m=ps.length - i/\i<=ps.length/\Pv i σ H,⟨ps.length,by simp,Nat.zero_le _,h0⟩, ?_⟩
 rintro i m σ H ⟨rfl,hi,p⟩
 have q:=hl i σ H p
 by_cases hlt:i<ps.length
 ·have e:ps[i]?=some ps[i]:=by simp [hlt]
  refine .inr ⟨S.go i ps[i] H q e,Pv (i+1),fun σ' H' p'=>⟨ps.length - (i+1),by lia,rfl,hlt,p'⟩,fun x H' y=> ?_⟩
  obtain⟨e2,rx⟩:=S.yd i ps[i] x H H' q e y
  subst e2
  exact hs i ps[i] x σ _ e rx p
 ·have e:i=ps.length:=by lia
  subst e
  exact .inl ⟨S.st _ H q (AS _),hd σ H p⟩
theorem b6h{iter:AG}{body:List Stmt}{mi:MI}{g:TG}{t:PV->a9->Option a9}{b:MS}{pos:Pos}(hp:PassesOwn (model X.prog X.w) X.A X.env X.xe)(hc:X.calm=true)(hi:EIF X tg iter mi)(hg:PG X tg g)(T:a9o X.K g t)(hb:ESs X body b)
 (hs:∀x,foldedSetIterable iter X.env x=pure x:=by intro _;rfl):ES X (.For tg iter body [] pos) (T2 mi t b):=by
 obtain⟨wi,h1,h2⟩:=hi
 exact x6 (a6n hp hc h1 hg hb hs) fun D σ H h0=>C8 h0 fun F0 H0 F ρ fl so e fin=>by
  obtain⟨ps,e1,e⟩:=bind_some e
  refine h2 F H σ ρ ps _ so.e e1 fun F1 H1 J x S=> ?_
  have fin1:=fin.later x.f
  refine b4o S (PvL X.K F0 H0 F1 b t ps fl) ⟨F1,ρ,PU.j5.refl F1,so.ext x,e⟩ (fun i σ H ⟨F2,_,s,so2,_⟩=>s.trans so2.e.fh) (fun i p y σ H ep rp hp=> ?_) (fun σ H hp=>a1I fin1 hp)
  exact a0i T fin1 ep hp fun F2 s=>B5.mono s _ rp
end
def b0N:d0->d0->Option d0
 | .val (.int i),.val (.int j)=>some (.val (.bool (decide (i<j))))
 | .val (.str i),.val (.str j)=>some (.val (.bool (decide (i.cps.toList<j.cps.toList))))
 |_,_=>none
def b4u:d0->d0->Option d0
 | .val (.int i),.val (.int j)=>some (.val (.bool (decide (i<=j))))
 | .val (.str i),.val (.str j)=>some (.val (.bool (!decide (j.cps.toList<i.cps.toList))))
 |_,_=>none
section
variable {X:Cx}
theorem a8W:OpM X (compareOp .Lt) b0N:=by
 intro pins s σ H x y v u Q I rx ry h
 obtain⟨F,ra,rb,rz,s0,h1,h2,h3,k⟩:=h
 unfold b0N at h3
 split at h3
 ·cases h3;cases h1;cases h2
  exact c0p pins s σ H _ _ v u Q I rx ry ⟨_,_,rfl,rfl,k _ F H (r9.here s0 rfl)⟩
 ·cases h3;cases h1;cases h2
  exact b3q pins s σ H _ _ v u Q I rx ry ⟨_,_,rfl,rfl,k _ F H (r9.here s0 rfl)⟩
 ·cases h3
theorem b2g:OpM X (compareOp .LtE) b4u:=by
 intro pins s σ H x y v u Q I rx ry h
 obtain⟨F,ra,rb,rz,s0,h1,h2,h3,k⟩:=h
 unfold b4u at h3
 split at h3
 ·cases h3;cases h1;cases h2
  exact c0o pins s σ H _ _ v u Q I rx ry ⟨_,_,rfl,rfl,k _ F H (r9.here s0 rfl)⟩
 ·cases h3;cases h1;cases h2
  obtain⟨t,rfl⟩:=rx
  obtain⟨t',rfl⟩:=ry
  exact PySem.P.le_str ⟨.bl _,H,I,rfl,k _ F H (r9.here s0 rfl)⟩
 ·cases h3
def a2B(neg:Bool)(x y:d0):Option d0:=match x,y with
 | .val (.str i),.val (.str j)=>some (.val (.bool (if neg then !(!(Builtin.Str.occurrences j i 0 j.length 1).isEmpty) else !(Builtin.Str.occurrences j i 0 j.length 1).isEmpty)))
 |x,y=>gIn neg x y
theorem a8V(hu:X.A.units+64<cLine):OpM X (compareOp .In) (a2B false):=by
 intro pins s σ H x y v u Q I rx ry h
 obtain⟨F,ra,rb,rz,s0,h1,h2,h3,k⟩:=h
 unfold a2B at h3
 split at h3
 ·cases h3;cases h1;cases h2
  exact b3p pins s σ H _ _ v u Q I rx ry ⟨_,_,rfl,rfl,k _ F H (r9.here s0 rfl)⟩
 ·exact b9e hu pins s σ H x y v u Q I rx ry ⟨F,_,_,rz,s0,h1,h2,h3,k⟩
theorem a6l(hu:X.A.units+64<cLine):OpM X (compareOp .NotIn) (a2B true):=by
 intro pins s σ H x y v u Q I rx ry h
 obtain⟨F,ra,rb,rz,s0,h1,h2,h3,k⟩:=h
 unfold a2B at h3
 split at h3
 ·cases h3;cases h1;cases h2
  exact a8U pins s σ H _ _ v u Q I rx ry ⟨_,_,rfl,rfl,k _ F H (r9.here s0 rfl)⟩
 ·exact b3r hu pins s σ H x y v u Q I rx ry ⟨F,_,_,rz,s0,h1,h2,h3,k⟩
def a9I(neg:Bool)(x y:d0):Option d0:=match x,y with
 | .val (.bool a),.val (.bool b)=>some (.val (.bool (if neg then !(a==b) else a==b)))
 |x,y=>b8z neg x y
theorem a9P{a b:Bool}{M:Model}{A:AM}{E:AA->AC->Prop}{s:AC}{Q:AA->AC->Prop}(h:Q (.bool (!(a==b))) s):AF M A (compareOp .IsNot (.bool a) (.bool b)) Q E s:=by
 refine wpAny_isNot_plain (by cases a<;>cases b<;>rfl) ?_
 have e:(Value.bool a==Value.bool b)=(a==b):=by cases a<;>cases b<;>rfl
 first
  |(rw [e];exact h)
  |(have e2:(Value.bool a !=Value.bool b)= !(a==b):=by cases a<;>cases b<;>rfl
    rw [e2];exact h)
theorem a96:OpM X (compareOp .IsNot) (a9I true):=by
 intro pins s σ H x y v u Q I rx ry h
 obtain⟨F,ra,rb,rz,s0,h1,h2,h3,k⟩:=h
 unfold a9I at h3
 split at h3
 ·cases h3;cases h1;cases h2;cases rx;cases ry
  exact a9P ⟨.bl _,H,I,rfl,k _ F H (r9.here s0 rfl)⟩
 ·exact b49 pins s σ H x y v u Q I rx ry ⟨F,_,_,rz,s0,h1,h2,h3,k⟩
def a3g:d0->d0->Option d0
 | .val (.str z),.val (.int k)=>if okC (fun k n=>0<=k/\k<=1000000/\n*k<=16777216) k z.length=true then some (.val (.str ⟨(AV k.toNat z.cps.toList).flatten.toArray⟩)) else none
 | .ow (.lst ps),.val (.int k)=>if okC (fun k n=>0<=k/\k<=1000000/\n*k<=16777216) k ps.length=true then some (.own (AV k.toNat ps).flatten) else none
 |x,y=>b6o x y
theorem a5L(xs:List Nat):∀(m:Nat) (acc:Array Nat),(AV m xs.toArray).foldl (· ++·) acc=acc++(AV m xs).flatten.toArray
 |0,acc=>by simp
 |m+1,acc=>by
  rw [AZ,List.foldl_cons,a5L xs m,AZ,List.flatten_cons]
  apply Array.ext'
  simp
theorem b7x{z:Str}{k:Int}(h0:0<=k):Txt.mul z k=⟨(AV k.toNat z.cps.toList).flatten.toArray⟩:=by
 unfold Txt.mul
 by_cases h1:k<1
 ·have:k=0:=by lia
  subst this
  rfl
 ·rw [if_neg h1]
  by_cases h2:(k==1||z.length==0)=true
  ·rw [if_pos h2]
   rw [Bool.or_eq_true] at h2
   cases z with
   |mk a=>
    rcases h2 with h2|h2
    ·have:k=1:=by simpa using h2
     subst this
     show(⟨a⟩:Str)=_
     congr 1
     apply Array.ext'
     simp
    ·have ha:a.size=0:=by simpa [Str.length] using h2
     have:a= #[]:=Array.eq_empty_of_size_eq_zero ha
     subst this
     congr 1
     apply Array.ext'
     simp
  ·rw [if_neg h2]
   have e:z.cps=z.cps.toList.toArray:=by simp
   congr 1
   rw [e,a5L]
   simp
theorem a6t{K:AE}{H:Hp}{ps:List PV}{xs:List V}(r:j4 K H ps xs):∀m:Nat,j4 K H (AV m ps).flatten (AV m xs).flatten
 |0=>rfl
 |m+1=>by
  rw [AZ,AZ,List.flatten_cons,List.flatten_cons]
  exact r.append (a6t r m)
theorem b48:OpM X (binaryOp .Mult) a3g:=by
 intro pins s σ H x y v u Q I rx ry h
 obtain⟨F,ra,rb,rz,s0,h1,h2,h3,k⟩:=h
 unfold a3g at h3
 split at h3
 ·rename_i z n
  split at h3
  ·rename_i c
   obtain⟨c0,c1,c2⟩:=a18.mp c
   cases h3;cases h1;cases h2
   obtain⟨t,rfl⟩:=rx
   obtain⟨t',rfl⟩:=ry
   have hz:z.length*n.toNat<=AO:=by
    rw [sizeLine_eq]
    have:((z.length*n.toNat:Nat):Int)=z.length*n:=by rw [Int.natCast_mul,Int.toNat_of_nonneg c0]
    lia
   refine SB.mul ⟨?_,fun h4 h5 h6=> ?_,fun h4 h5=> ?_⟩ fun t' k'=>⟨.str _,H,I.tok _,⟨_,rfl⟩, ?_⟩
   ·have e1:¬n< -(2 ^ 63:Int):=by lia
    have e2:¬n>=2 ^ 63:=by lia
    simp [e1,e2]
    lia
   ·have h7:(2 ^ 63 - 1:Int)/ n<z.length:=h6
    have h8:(2 ^ 63 - 1:Int)<(z.length:Int)*n:=by
     have:=Int.lt_mul_of_ediv_lt (a:=(2 ^ 63 - 1:Int)) (b:=(z.length:Int)) (c:=n) (by lia) h7
     exact this
    lia
   ·unfold Builtin.Str.tooLong
    rw [decide_eq_false (by lia)]
   ·rw [b7x c0]
    exact k _ F H (r9.here s0 rfl)
  ·cases h3
 ·rename_i ps n
  split at h3
  ·rename_i c
   obtain⟨c0,c1,c2⟩:=a18.mp c
   cases h3;cases h2
   obtain⟨a,xs,rfl,fa,hq,rl⟩:=h1
   have hlen:=rl.length
   have hz:xs.length*n.toNat<=AO:=by
    rw [sizeLine_eq,hlen]
    have:((ps.length*n.toNat:Nat):Int)=ps.length*n:=by rw [Int.natCast_mul,Int.toNat_of_nonneg c0]
    lia
   exact b9b pins s σ H _ _ v u Q I rx ry ⟨a,n,xs,rfl,rfl,hq,by lia,by lia,hz,fun p hp=>k _ _ _ (r9.lst s0 hp (a6t rl _))⟩
  ·cases h3
 ·exact b47 pins s σ H x y v u Q I rx ry ⟨F,_,_,rz,s0,h1,h2,h3,k⟩
def a8r(x:d0):Option d0:=match x with
 | .val (.str z)=>if z.length<=AO then some (.own (z.cps.toList.map fun c=> .str ⟨#[c]⟩)) else none
 |x=>b4w x
theorem b31(hc:X.calm=true):E9 X (.type "list") (rC1 X.K a8r):=by
 intro pins s σ H xs us Q I rv h
 obtain⟨F,x,rx,rz,e0,s0,h1,h2,k⟩:=h
 unfold a8r at h2
 split at h2
 ·rename_i z
  split at h2
  ·rename_i c
   cases h2
   cases h1
   subst e0
   obtain⟨u,rfl,t,rfl⟩:=a01 rv
   refine call_list_str (I.ok.hd hc) z t (fun h' tk acc' c' kp e ia=> ?_) (by exact c)
   obtain⟨ia1,ia2⟩:=ia
   have hv:l9 (z.cps.toList.map fun c=>V.str ⟨#[c]⟩) acc'.toList:=by
    have key:∀(cs:List Nat) (us:List AA),us.length=cs.length->(∀(i:Nat) v,us[i]?=some v->∃c u,cs[i]?=some c/\v= .str ⟨#[c]⟩ u)->l9 (cs.map fun c=>V.str ⟨#[c]⟩) us:=by
     intro cs
     induction cs with
     |nil=>
      intro us h1 h2
      have:us=[]:=List.length_eq_zero_iff.mp h1
      subst this;exact .nil
     |cons c cs ih=>
      intro us h1 h2
      cases us with
      |nil=>cases h1
      |cons w us=>
       obtain⟨c',u,e1,e2⟩:=h2 0 w rfl
       simp at e1
       subst e1
       exact .cons ⟨u,e2⟩ (ih us (by simpa using h1) fun i v hv=>by simpa using h2 (i+1) v (by simpa using hv))
    refine key _ _ (by simpa using ia1) fun i v hv=> ?_
    have hv':acc'[i]?=some v:=by simpa using hv
    obtain⟨c,u,e1,e2⟩:=ia2 i v hv'
    exact⟨c,u,by simpa using e1,e2⟩
   have hlen:(z.cps.toList.map fun c=>V.str ⟨#[c]⟩).length<=AO:=by rw [Ac];simpa [Str.length] using c
   refine⟨.ref s.heap.objs.size,_,I.laid (t':=tk) kp (AS _) (show A7 X.prog X.w _ h' _ (.lst (z.cps.toList.map fun c=>V.str ⟨#[c]⟩)) from⟨hlen,acc'.toList,c',hv,by rw [e]⟩),rfl,k _ _ _ (r9.lst s0 (I.hok.fresh (AS _)) ?_)⟩
   have:∀cs:List Nat,j4 X.K F (cs.map fun c=>PyData.str ⟨#[c]⟩) (cs.map fun c=>V.str ⟨#[c]⟩):=by
    intro cs
    induction cs with
    |nil=>rfl
    |cons c cs ih=>exact⟨_,_,rfl,rfl,ih⟩
   exact this _
  ·cases h2
 ·exact b58 pins s σ H xs us Q I rv ⟨F,x,_,rz,e0,s0,h1,h2,k⟩
theorem j4.set{K:AE}{H:Hp}{p:PV}{v:V}(h:B5 K H p v):∀{ps:List PV} {xs:List V} (j:Nat),j4 K H ps xs->j4 K H (ps.set j p) (xs.set j v)
 |[],_,_,r=>by cases r;exact rfl
 |_::ps,_,0,⟨w,t,e,_,rl⟩=>by subst e;exact⟨v,t,rfl,h,rl⟩
 |q::ps,_,j+1,⟨w,t,e,hq,rl⟩=>by subst e;exact⟨w,_,rfl,hq,j4.set h j rl⟩
def b5y(i:Nat)(ρ:a9)(p:PV)(r:d0):Option Fl:=match ρ[i]?,r with
 |some (some (.ow (.lst ps))),.val (.int z)=>(ixN ps.length z).bind fun j=>some (.nx (ρ.set i (some (.own (ps.set j p)))))
 |_,_=>none
def b0Z(i:Nat)(mi mv:M):MS:=fun ρ=>((mv ρ).bind d0.toVal).bind fun p=>(mi ρ).bind (b5y i ρ p)
theorem b4h(i:Nat){x:Str}{p tp pos:Pos}{ie e:AG}{mi mv:M}(hx:PE X (.Name x p) (a4n i))(hi:EE X ie mi)(he:EE X e mv)
 (ha:∀v,assign (.Subscript (.Name x p) ie tp) X.env v=(do
  let ov<-holding [v] (eval (.Name x p) X.env)
  let iv<-holding [v,ov] (eval ie X.env)
  standAt tp
  holding [v,ov,iv] (setItem ov iv v)
  release [v,ov,iv] []):=by intro _;rfl)
 (hs:swapsWithSole [.Subscript (.Name x p) ie tp] e pos.line X.env=pure false:=by rfl) (hw:swappedStores [.Subscript (.Name x p) ie tp] e X.env=pure none:=by rfl)
 (h1:(assignEach [.Subscript (.Name x p) ie tp] X.env).map (·.2)=[assign (.Subscript (.Name x p) ie tp) X.env]:=by rfl):ES X (.Assign [.Subscript (.Name x p) ie tp] e pos) (b0Z i mi mv):=
 x6 (b5i he (b9p hx hi b5A ha) hs hw h1) fun D σ H h0=>C8 h0 fun F0 H0 F ρ fl so e fin=>by
  obtain⟨q,e1,e⟩:=bind_some e
  obtain⟨r,e2,e3⟩:=bind_some e1
  obtain⟨ri,e4,e⟩:=bind_some e
  refine⟨F,ρ,r,so.e,e2,fun v F1 H1 o=> ?_⟩
  obtain⟨F2,o2⟩:=o.toVal e3
  have so2:=so.ext o2.x
  unfold b5y at e
  split at e
  ·rename_i ps z eo
   obtain⟨j,e5,e⟩:=bind_some e
   cases e
   obtain⟨w,hw1,a,xs,rfl,fa,ha',rl⟩:=so2.e.at_ i _ eo
   refine⟨.ref a,hw1,F2,ρ,_,so2.e,e4,fun u F3 H3 o3=> ?_⟩
   cases o3.rep
   have so3:=so2.ext o3.x
   have ha3:=o3.x.h _ _ ha'
   refine⟨a,xs,z,j,rfl,rfl,ha3,by rw [rl.length];exact e5, ?_⟩
   exact fin σ F3 _ (o2.x.f.trans o3.x.f) (so3.put eo hw1 (j4.set (B5.mono o3.x.f _ o2.rep) j (j4.mono o3.x.f _ rl)))
  ·cases e
end
theorem a38:fillsNumberSlot (.type "tuple") "mul"=pure false:=
 PySem.fillsNumberSlot_seq (id:="tuple.__mul__") (r:=some (.builtin "tuple.__rmul__")) PySem.F.slot_tuple_mul.lookup (by decide+kernel) PySem.F.slot_tuple_rmul.lookup (by decide+kernel)
theorem a83:seqRepeat? (.type "tuple")=pure (some (.builtin "tuple.__mul__")):=by
 unfold seqRepeat?
 rw [PySem.seqSlot_of (T:="tuple") (name:="__mul__") (id:="tuple.__mul__") PySem.F.slot_tuple_mul.lookup (by decide+kernel),PySem.seqSlot_of (T:="tuple") (name:="__rmul__") (id:="tuple.__rmul__") PySem.F.slot_tuple_rmul.lookup (by decide+kernel)]
 rfl
theorem a5U(a:Int)(t:Tok)(l:AB)(items:Array AA)(n:Nat)(dd:Option AB)(sl:Array (Option AA)):Meets (Builtin.«int.__rmul__» ⟨[.int a t,.ref l],[]⟩) (fun _ R s=>s.heap.get? l=some {cls:= .type "tuple",dict:=dd,data:= .seq items n,slots:=sl}/\R (.ok (.ret Value.notImplemented)) s):=
 .of_wp fun prog w A R s h=>by obtain⟨hp,g,d,tk,os⟩:=s;obtain⟨hl,h⟩:=h;wp_walk;exact⟨_,rfl,h⟩
theorem a6H(l:AB)(items:Array AA)(n:Nat)(dd:Option AB)(sl:Array (Option AA))(x:Int)(u:Tok)(hc0:(decide (x< -(2 ^ 63))||decide (x>=2 ^ 63))=false)(hc1:(items.isEmpty||x==1)=false)(hc2:(decide (x<=0)||items.isEmpty)=false)(hc3:¬(items.size:Int)*x>(2 ^ 63 - 1)/ 8)(hc4:Builtin.Tuple.tupleTooMany ((items.size:Int)*x)=false)(hz:((AV x.toNat items).foldl (· ++·) #[]).size<=AO):
 Meets (Builtin.«tuple.__mul__» ⟨[.ref l,.int x u],[]⟩) (fun _ R s=>s.heap.get? l=some {cls:= .type "tuple",dict:=dd,data:= .seq items n,slots:=sl}/\R (.ok (.ret (Value.ref s.heap.objs.size))) {s with heap:=s.heap.push {cls:=Value.type "tuple",data:=Data.seq ((AV x.toNat items).foldl (· ++·) #[])},toks:=s.toks}):=
 .of_wp fun prog w A R s h=>by
  obtain⟨hp,g,d,tk,os⟩:=s;obtain⟨hl,h⟩:=h
  wp_walk
  have ht:IsTup hp l items:=⟨_,hl,rfl,n,rfl⟩
  rw [if_neg (by rw [hc0];exact Ax)]
  wp_walk
  rw [if_neg hc3]
  wp_walk
  exact⟨_,rfl,h⟩
section
variable {X:Cx}
theorem b6Y:OpR X (binaryOp .Mult) (fun x y H Q=>∃a xs n,x= .ref a/\y= .int n/\SqT X.K H a xs/\xs≠[]/\2<=n/\n<=1000000/\xs.length*n.toNat<=AO/\∀p,H p=none->Q (.ref p) (t8 H p (.tup (AV n.toNat xs).flatten))):=by
 intro pins s σ H x y v u Q I rx ry h
 obtain⟨a,xs,n,rfl,rfl,hx,hne,h1,h2,hz,q⟩:=h
 cases rx
 obtain⟨t,rfl⟩:=ry
 obtain⟨its,r,ht,_⟩:=I.tuple hx
 have hlen:its.toArray.size=xs.length:=by rw [Am];exact r.length.symm
 have hie:its.toArray.isEmpty=false:=by
  cases its with
  |nil=>exact absurd (r.nil_iff.mp rfl) hne
  |cons _ _=>rfl
 have hnew:List.foldl (fun x1 x2=>x1++x2) #[] (AV n.toNat its.toArray)=(AV n.toNat its).flatten.toArray:=by
  have:=a3Z its n.toNat []
  rw [Ad] at this
  exact this
 have hc:((xs.length*n.toNat:Nat):Int)=(xs.length:Int)*n:=by rw [Int.natCast_mul,Int.toNat_of_nonneg (by lia)]
 have hsl:=sizeLine_eq
 obtain⟨⟨cls,dd,data,sl⟩,ho,hc',m,hd⟩:=id ht
 simp only at hc' hd
 subst hc' hd
 have hzz:(List.foldl (fun x1 x2=>x1++x2) #[] (AV n.toNat its.toArray)).size<=AO:=by
  rw [hnew,Am,a8z,Nat.mul_comm,<-r.length];exact hz
 refine wpAny_binaryOp_repeat_ref (T:="tuple") (U:="int") (by decide) ht.typeIs (fun s'=>typeIs_int s' n t) a38 F.fills_int_mul F.slot_int_rmul a83 F.slot_int_index.lookup
  (call_meets F.slot_int_rmul (typeIs_int s n t) F.entry_int_rmul (F.args_int_rmul_2 _ _) (a5U n t a its.toArray m dd sl)
   ⟨ho,rfl,ht.typeIs,call_meets PySem.F.slot_tuple_mul ht.typeIs PySem.F.entry_tuple_mul (PySem.F.args_tuple_mul_2 _ _) (a6H a its.toArray m dd sl n t ?_ ?_ ?_ ?_ ?_ hzz) ⟨ho, ?_⟩⟩)
 ·have e1:¬n< -(2 ^ 63:Int):=by lia
  have e2:¬n>=2 ^ 63:=by lia
  simp [e1,e2]
  lia
 ·rw [hie]
  have:n≠1:=by lia
  simp [this]
 ·rw [hie]
  have:¬n<=0:=by lia
  simp [this]
 ·rw [hlen,<-hc]
  lia
 ·rw [hlen,<-hc]
  unfold Builtin.Tuple.tupleTooMany
  rw [decide_eq_false (by lia)]
 ·rw [hnew]
  refine⟨.ref s.heap.objs.size,_,I.laid (t':=s.toks) (o:= .tup (AV n.toNat xs).flatten) (fun b ob q=>Ab _ q) (AS _) ?_,rfl,q _ (I.hok.fresh (AS _))⟩
  exact⟨by rw [a8z,Nat.mul_comm];exact hz,_,r.rep n.toNat,IsTup.new _ _⟩
def J6:d0->d0->Option d0
 | .val (.tuple ps),.val (.int k)=>if okC (fun k n=>2<=k/\k<=1000000/\1<=n/\n*k<=16777216) k ps.length=true then some (.val (.tuple (AV k.toNat ps).flatten)) else none
 |x,y=>a3g x y
theorem z8:OpM X (binaryOp .Mult) J6:=by
 intro pins s σ H x y v u Q I rx ry h
 obtain⟨F,ra,rb,rz,s0,h1,h2,h3,k⟩:=h
 unfold J6 at h3
 split at h3
 ·rename_i ps n
  split at h3
  ·rename_i c
   obtain⟨c0,c1,c2,c3⟩:=a18.mp c
   cases h3;cases h2
   obtain⟨a,xs,rfl,hq,rl⟩:=h1
   have hlen:=rl.length
   have hz:xs.length*n.toNat<=AO:=by
    rw [sizeLine_eq,hlen]
    have:((ps.length*n.toNat:Nat):Int)=ps.length*n:=by rw [Int.natCast_mul,Int.toNat_of_nonneg (by lia)]
    lia
   refine b6Y pins s σ H _ _ v u Q I rx ry ⟨a,xs,n,rfl,rfl,u8 s0 hq.sq, ?_,by lia,by lia,hz,fun p hp=>k _ _ _ (r9.tup s0 hp (a6t rl _))⟩
   intro e
   rw [e] at hlen
   simp at hlen
   lia
  ·cases h3
 ·exact b48 pins s σ H x y v u Q I rx ry ⟨F,_,_,rz,s0,h1,h2,h3,k⟩
end
section
variable {prog:AL}{w:AJ}{A:AM}{E:AA->AC->Prop}{s:AC}
end
section
variable {prog:AL}{w:AJ}{A:AM}{E:AA->AC->Prop}{s:AC}{u:AA}{T gid:String}{fp:List AB}{n:Nat}{P:Nat->AA->Prop}{Sq:Heap->Prop}
end
section
variable {prog:AL}{w:AJ}{A:AM}{E:AA->AC->Prop}{s:AC}{u:AA}{T gid:String}{fp:List AB}{n:Nat}{P:Nat->AA->Prop}{Sq:Heap->Prop}
end
section
variable {prog:AL}{w:AJ}{A:AM}{E:AA->AC->Prop}{s:AC}
end
section
variable {X:Cx}
end
section
variable {X:Cx}
def b61(i j:Nat)(ρ:a9):List PV->Option Fl
 |[p,q]=>some (.nx (setAll ρ [i,j] [.val p,.val q]))
 |_=>none
def b8X(i j:Nat)(m:MA):MS:=fun ρ=>(m ρ).bind (b61 i j ρ)
theorem b8p(i j:Nat){x y:Str}{a b:AG}{m:MA}{px py pt pos:Pos}{kt k2 pt2}(hN:X.N.Nodup)(hc:X.calm=true)(ha:EA X [a,b] m)(hij:i≠j:=by decide)(hi:X.N[i]?=some x:=by rfl)(hj:X.N[j]?=some y:=by rfl)
 (hx:X.env.scope.names.lookup x=some .local:=by rfl) (hy:X.env.scope.names.lookup y=some .local:=by rfl)
 (hw:swappedStores [.Tuple [.Name x px,.Name y py] kt pt] (.Tuple [a,b] k2 pt2) X.env=pure (some [x,y]):=by rfl)
 (hs:swapsWithSole [.Tuple [.Name x px,.Name y py] kt pt] (.Tuple [a,b] k2 pt2) pos.line X.env=pure false:=by rfl):
 ES X (.Assign [.Tuple [.Name x px,.Name y py] kt pt] (.Tuple [a,b] k2 pt2) pos) (b8X i j m):=
 x6 (b9s hc hN hi hj hij hx hy ha hw hs) fun D σ H h0=>C8 h0 fun F0 H0 F ρ fl so e fin=>by
  obtain⟨ps,e1,e⟩:=bind_some e
  unfold b61 at e
  split at e
  ·rename_i p q
   cases e
   refine⟨F,ρ,_,so.e,e1,fun vs F' H' x rl=> ?_⟩
   obtain⟨v,t,rfl,hp,w,t2,rfl,hq,rfl⟩:=id rl
   exact⟨v,w,rfl,fin _ F' H' x.f ((so.ext x).setAll (is:=[i,j]) rl)⟩
  ·cases e
theorem b4Q(i j:Nat)(m:MA)(ρ:a9):b8X i j m ρ=(m ρ).bind (b61 i j ρ):=Eq.trans rfl rfl
theorem b9f(i j:Nat)(ρ:a9)(p q:PV):b61 i j ρ [p,q]=some (.nx ((ρ.set i (some (.val p))).set j (some (.val q)))):=Eq.trans rfl rfl
end
def A5(kvs:List (List m3×PV))(k:List m3):Option PV:=(kvs.find? fun kv=>decide (kv.1=k)).map (·.2)
def a6o(kvs:List (List m3×PV))(k:List m3)(v:PV):List (List m3×PV):=
 if(kvs.any fun kv=>decide (kv.1=k))=true then kvs.map (fun kv=>if kv.1=k then(kv.1,v) else kv) else kvs++[(k,v)]
theorem C7.length{K:AE}{H:Hp}:∀{kvs:List (List m3×PV)} {ys:List (List m3×V)},C7 K H kvs ys->ys.length=kvs.length
 |[],_,h=>by cases h;rfl
 |(k,p)::r,_,⟨v,t,e,q,h⟩=>by subst e;rw [AT,AT,C7.length h]
theorem C7.any{K:AE}{H:Hp}{k:List m3}:∀{kvs:List (List m3×PV)} {ys:List (List m3×V)},C7 K H kvs ys->(ys.any fun kv=>decide (kv.1=k))=(kvs.any fun kv=>decide (kv.1=k))
 |[],_,h=>by cases h;rfl
 |(k',p)::r,_,⟨v,t,e,q,h⟩=>by subst e;rw [List.any_cons,List.any_cons,C7.any h]
theorem C7.val{K:AE}{H:Hp}{k:List m3}:∀{kvs:List (List m3×PV)} {ys:List (List m3×V)},C7 K H kvs ys->(∀p,A5 kvs k=some p->∃v,a04 ys k=some v/\B5 K H p v)/\(A5 kvs k=none->a04 ys k=none)
 |[],_,h=>by cases h;exact⟨fun p e=>(nomatch e),fun _=>rfl⟩
 |(k',p)::r,_,⟨v,t,e,q,h⟩=>by
  subst e
  by_cases c:k'=k
  ·have e1:A5 ((k',p)::r) k=some p:=by simp [A5,List.find?_cons,c]
   have e2:a04 ((k',v)::t) k=some v:=a3K c
   rw [e1,e2]
   exact⟨fun p' e'=>(by cases e';exact⟨v,rfl,q⟩),fun e'=>(nomatch e')⟩
  ·have e1:A5 ((k',p)::r) k=A5 r k:=by simp [A5,List.find?_cons,c]
   have e2:a04 ((k',v)::t) k=a04 t k:=a3J c
   rw [e1,e2]
   exact C7.val h
theorem C7.repl{K:AE}{H:Hp}{k:List m3}{p:PV}{v:V}(hp:B5 K H p v):∀{kvs:List (List m3×PV)} {ys:List (List m3×V)},C7 K H kvs ys->C7 K H (kvs.map fun kv=>if kv.1=k then(kv.1,p) else kv) (ys.map fun kv=>if kv.1=k then(kv.1,v) else kv)
 |[],_,h=>by cases h;exact rfl
 |(k',p')::r,_,⟨v',t,e,q,h⟩=>by
  subst e
  by_cases c:k'=k
  ·rw [AQ,AQ]
   simp only [if_pos c]
   exact⟨v,_,rfl,hp,C7.repl hp h⟩
  ·rw [AQ,AQ]
   simp only [if_neg c]
   exact⟨v',_,rfl,q,C7.repl hp h⟩
theorem C7.snoc{K:AE}{H:Hp}{k:List m3}{p:PV}{v:V}(hp:B5 K H p v):∀{kvs:List (List m3×PV)} {ys:List (List m3×V)},C7 K H kvs ys->C7 K H (kvs++[(k,p)]) (ys++[(k,v)])
 |[],_,h=>by cases h;exact⟨v,[],rfl,hp,rfl⟩
 |(k',p')::r,_,⟨v',t,e,q,h⟩=>by subst e;exact⟨v',_,rfl,q,C7.snoc hp h⟩
theorem C7.put{K:AE}{H:Hp}{k:List m3}{p:PV}{v:V}{kvs:List (List m3×PV)}{ys:List (List m3×V)}(r:C7 K H kvs ys)(hp:B5 K H p v):C7 K H (a6o kvs k p) (a4f ys k v):=by
 unfold a6o a4f
 rw [r.any]
 split
 ·exact r.repl hp
 ·exact r.snoc hp
theorem r9.dct{K:AE}{F H:Hp}{a:AB}(s:j5 F H)(n:H a=none):r9 K F H F (t8 H a (.dT [])) (.ref a) (.dct []):=
 ⟨W6.layH s n,⟨a,[],rfl,s.free n,j7,rfl⟩,fun _ _ _ e=>by cases e;exact n⟩
section
variable {X:Cx}
def b19:M:=fun _=>some (.dct [])
theorem b1K{pos:Pos}:EE X (.Dict [] [] pos) b19:=
 u6 b5d fun σ H Q h0=>t6 h0 fun F ρ r en e k=>by
  cases e
  exact fun d hd=>k _ _ _ (r9.dct en.fh hd)
def a9A(i:Nat)(ρ:a9)(p:PV)(k:List m3):Option Fl:=match ρ[i]? with
 |some (some (.ow (.dct kvs)))=>if kvs.length<AO then some (.nx (ρ.set i (some (.dct (a6o kvs k p))))) else none
 |_=>none
def b1H(i:Nat)(ρ:a9)(k:List m3):Option d0:=match ρ[i]? with
 |some (some (.ow (.dct kvs)))=>(A5 kvs k).map .val
 |_=>none
def b17(i:Nat)(mk:MA):M:=fun ρ=>(mk ρ).bind fun ks=>if ks.length<=AO then(keysOf ks).bind (b1H i ρ) else none
theorem b6f(i:Nat){x:Str}{p tp pos:Pos}{es:List AG}{x1}{mk:MA}(hu:X.A.units+64<cLine)(hx:PE X (.Name x p) (a4n i))(hi:EA X es mk)(hs:b5Z (.Tuple es x1 tp):=by intro _ _;rfl):EE X (.Subscript (.Name x p) (.Tuple es x1 tp) pos) (b17 i mk):=
 u6 (b66 (by lia) hx (b5f hi) hs) fun σ H Q h0=>t6 h0 fun F ρ r en e k=>by
  obtain⟨ks,e4,e⟩:=bind_some e
  split at e
  ·rename_i hz
   obtain⟨kk,e5,e⟩:=bind_some e
   unfold b1H at e
   split at e
   ·rename_i kvs eo
    cases hv:A5 kvs kk with
    |none=>rw [hv] at e;cases e
    |some q=>
     rw [hv] at e;cases e
     obtain⟨w,hw1,a,xs,rfl,fa,ha',rl⟩:=en.at_ i _ eo
     obtain⟨y,hy,ry⟩:=(rl.val (k:=kk)).1 q hv
     refine⟨.ref a,hw1,F,ρ,ks,en,e4,fun vs F3 H3 x3 rl3=>⟨by rw [rl3.length];exact hz,fun b hb=> ?_⟩⟩
     have ev:=a2H e5 rl3
     have ha3:=x3.h _ _ ha'
     have hne:a≠b:=fun h=>by subst h;rw [hb] at ha3;cases ha3
     have ha4:t8 H3 b (.tup vs) a=some (.dT xs):=by rw [g6 hne];exact ha3
     have xx:=x3.trans (W6.lay (o:= .tup vs) x3.fh hb)
     exact⟨a,y,rfl,by rw [<-hy];exact a6L.t ha4 (by rw [j7,ev]),k _ _ _ (r9.val xx (B5.mono xx.f _ ry))⟩
   ·cases e
  ·cases e
end
section
variable {prog:AL}{w:AJ}{A:AM}{E:AA->AC->Prop}{s:AC}
end
section
variable {X:Cx}{pins:List (AB×Obj)}{σ:L2.St}{H:Hp}{s:AC}{a:AB}{A:AM}{E:AA->AC->Prop}
end
section
variable {X:Cx}
end
def b4E:AA->Bool
 | .int _ _=>true
 |_=>false
theorem b0W{K:AE}{a:AB}{o:Obj}:K.lookup a=some o->∃b,(b,o)∈K:=by
 induction K with
 |nil=>intro h;cases h
 |cons p r ih=>
  intro h
  obtain⟨b,u⟩:=p
  rw [List.lookup_cons] at h
  split at h
  ·cases h;exact⟨b,Aq ..⟩
  ·obtain⟨c,hc⟩:=ih h
   exact⟨c,An _ hc⟩
theorem b1x:∀{k:List m3} {us:List AA},l9 (k.map kV) us->k.any Sum.isLeft=true->us.any b4E=true
 |[],_,_,h=>by cases h
 |k::ks,_,r,h=>by
  rw [AQ] at r
  cases r with
  |cons r1 r2=>
   rw [List.any_cons] at h ⊢
   cases k with
   |inl i=>obtain⟨t,rfl⟩:=(show ∃t,_=Value.int i t from r1);rfl
   |inr x=>
    have:=b1x r2 (by simpa using h)
    rw [this,Bool.or_true]
theorem C7.isSome{K:AE}{H:Hp}{k:List m3}{kvs:List (List m3×PV)}{ys:List (List m3×V)}(r:C7 K H kvs ys):(a04 ys k).isSome=(A5 kvs k).isSome:=by
 cases hv:A5 kvs k with
 |none=>rw [(r.val (k:=k)).2 hv];rfl
 |some p=>
  obtain⟨v,e,_⟩:=(r.val (k:=k)).1 p hv
  rw [e];rfl
section
variable {X:Cx}
def b2P(neg:Bool)(i:Nat)(ρ:a9)(k:List m3):Option d0:=match ρ[i]? with
 |some (some (.ow (.dct kvs)))=>some (.val (.bool (if neg then !(A5 kvs k).isSome else(A5 kvs k).isSome)))
 |_=>none
theorem c0I{t:TE}{m:M}(i:∀σ H Q,tM X.K m σ H Q->t σ H Q){σ:L2.St}{H:Hp}{Q:Bool->Hp->Prop}(h:tMT X.K (mtB m) σ H Q):tB t σ H Q:=by
 obtain⟨F,ρ,b,h1,h2,k⟩:=h
 obtain⟨r,e1,e2⟩:=bind_some h2
 exact i _ _ _ ⟨F,ρ,r,h1,e1,fun v F1 H1 o=>⟨b,a0n o.rep e2,k F1 H1 o.x⟩⟩
end
def b2Z(x:Str):List Str->List Str
 |[]=>[x]
 |y::r=>if y.cps.toList<x.cps.toList then y::b2Z x r else x::y::r
def M9:List Str->List Str
 |[]=>[]
 |x::r=>b2Z x (M9 r)
theorem a32(x:Str):∀l:List Str,(b2Z x l).Perm (x::l)
 |[]=>List.Perm.refl _
 |y::r=>by
  unfold b2Z
  split
  ·exact((a32 x r).cons y).trans (List.Perm.swap x y r)
  ·exact List.Perm.refl _
theorem B7:∀l:List Str,(M9 l).Perm l
 |[]=>List.Perm.refl _
 |x::r=>(a32 x (M9 r)).trans ((B7 r).cons x)
def leS(a b:Str):Prop:=¬b.cps.toList<a.cps.toList
theorem a9U{a b:Str}(h:leS a b)(g:leS b a):a=b:=by
 have e:a.cps.toList=b.cps.toList:=List.le_antisymm h g
 cases a;cases b
 simp at e ⊢
 exact e
theorem a7t{a b c:Str}(h:leS a b)(g:leS b c):leS a c:=List.le_trans h g
theorem a4H(x:Str):∀{l:List Str},l.Pairwise leS->(b2Z x l).Pairwise leS
 |[],_=>List.pairwise_singleton _ _
 |y::r,h=>by
  unfold b2Z
  have h':=List.pairwise_cons.mp h
  split
  ·rename_i c
   refine List.pairwise_cons.mpr ⟨fun z hz=> ?_,a4H x h'.2⟩
   rcases Ag.mp ((a32 x r).mem_iff.mp hz) with e|e
   ·subst e;exact List.lt_asymm c
   ·exact h'.1 z e
  ·rename_i c
   refine List.pairwise_cons.mpr ⟨fun z hz=> ?_,h⟩
   rcases Ag.mp hz with e|e
   ·subst e;exact c
   ·exact a7t c (h'.1 z e)
theorem M1:∀l:List Str,(M9 l).Pairwise leS
 |[]=>List.Pairwise.nil
 |x::r=>a4H x (M1 r)
theorem Y0:∀{l m:List Str},l.Pairwise leS->m.Pairwise leS->l.Perm m->l=m
 |[],m,_,_,p=>(List.Perm.nil_eq p)
 |a::l,[],_,_,p=>by have:=p.length_eq;simp at this
 |a::l,b::m,hl,hm,p=>by
  have hl':=List.pairwise_cons.mp hl
  have hm':=List.pairwise_cons.mp hm
  have e:a=b:=by
   have m1:a∈b::m:=p.mem_iff.mp Aq
   have m2:b∈a::l:=p.mem_iff.mpr Aq
   rcases Ag.mp m1 with e|e
   ·exact e
   ·rcases Ag.mp m2 with g|g
    ·exact g.symm
    ·exact a9U (hl'.1 b g) (hm'.1 a e)
  subst e
  rw [Y0 hl'.2 hm'.2 (List.Perm.cons_inv p)]
theorem a7S:∀{p:Str} {l:List Str},risingS p l=true->(p::l).Pairwise leS
 |p,[],_=>List.pairwise_singleton _ _
 |p,x::r,h=>by
  unfold risingS at h
  rw [Bool.and_eq_true] at h
  have ih:=a7S h.2
  have h1:leS p x:=by
   have:=h.1
   rw [ltCps_eq] at this
   unfold leS
   simpa using this
  refine List.pairwise_cons.mpr ⟨fun z hz=> ?_,ih⟩
  rcases Ag.mp hz with e|e
  ·subst e;exact h1
  ·exact a7t h1 ((List.pairwise_cons.mp ih).1 z e)
theorem a6C:∀{l:List Str},sortedS l=true->l.Pairwise leS
 |[],_=>List.Pairwise.nil
 |x::r,h=>a7S h
section
variable {prog:AL}{w:AJ}{A:AM}{E:AA->AC->Prop}{s:AC}
theorem b1n{l:AB}{T:String}{o:Obj}{vs:List AA}{n:Nat}{ss:List Str}{Q:AA->AC->Prop}(hT:T="list"\/T="tuple")(ho:s.heap.get? l=some o)(hc:o.cls= .type T)(hd:o.data= .seq vs.toArray n)(hS:StrsAre vs ss)(h64:vs.length<64)
 (h:∀(h1 h':Heap) (e:Nat) (us:List AA),(∀b o',s.heap.get? b=some o'->h1.get? b=some o')->(∀b o',h1.get? b=some o'->h'.get? b=some o')->StrsAre us (M9 ss)->h'.get? h1.objs.size=some (seqObj "list" us.toArray e)->Q (.ref h1.objs.size) {s with heap:=h'}):
 AF (model prog w) A (call (.builtin "sorted") [.ref l]) Q E s:=by
 refine Calls.call_function_entry kind_sorted plain_sorted entry_sorted (args_sorted1 _) ?_
 unfold Builtin.«sorted»
 refine AD (m:=checkCount "sorted" 1 1 _) (AI ?_)
 refine AD (wpAny_collect_seq l hT ho hc hd (fun h1 k1=> ?_) (by rw [Am,sizeLine_eq];lia))
 have ev:vs.toArray.toList=vs:=by simp
 rw [ev]
 refine AD (wpAny_newList ?_)
 have hoL:(h1.push (seqObj "list" vs.toArray 0)).get? h1.objs.size=some (seqObj "list" vs.toArray 0):=Ao _ rfl
 show AF _ _ _ _ _ {s with heap:=h1.push (seqObj "list" vs.toArray 0)}
 refine AD (wpAny_holding (wpAny_call_entry slot_list_sort ⟨_,hoL,rfl⟩ entry_list_sort (list_sort_treeK strKind_oneLt hoL hS.keysOf (fun v₁ v₂ rest e=>keyKind_strs (by rw [<-e];exact hS)) h64 fun st' a1 a2=>⟨_,rfl, ?_⟩) (args_list_sort _)))
 obtain⟨ss',g1,g2,g3⟩:=sorted_out_str hS a1 a2
 have e1:ss'=M9 ss:=Y0 (a6C g3) (M1 ss) (g2.trans (B7 ss).symm)
 subst e1
 obtain⟨e,he⟩:=sortedHeap_at (out:=(arrOf st').map (·.2)) hoL
 refine AI ⟨_,rfl,h h1 _ e _ k1 (fun b o' hb1=> ?_) g1 (by rw [Array.toArray_toList];exact he)⟩
 have hlt:=Af hb1
 rw [sortedHeap_old (Ai hlt) (by rw [size_push'];exact Nat.lt_succ_of_lt hlt),Heap.get?_push_ne _ _ _ (Ai hlt)]
 exact hb1
end
theorem a2b:∀{us:List AA} {ss:List Str},StrsAre us ss->l9 (ss.map V.str) us
 |_,_,.nil=> .nil
 |_,_,.cons x t h=>by rw [AQ];exact .cons ⟨t,rfl⟩ (a2b h)
theorem a6F:∀{us:List AA} {ss:List Str},StrsAre us ss->us.length=ss.length
 |_,_,.nil=>rfl
 |_,_,.cons x t h=>by rw [AT,AT,a6F h]
theorem a19{K:AE}{H:Hp}:∀ss:List Str,j4 K H (ss.map PyData.str) (ss.map V.str)
 |[]=>rfl
 |x::r=>⟨_,_,rfl,rfl,a19 r⟩
def a8s(x:d0):Option d0:=match PyData.items? x.rd with
 |some ps=>(Z1 ps).bind fun ss=>if ss.length<64 then some (.own ((M9 ss).map .str)) else none
 |none=>none
section
variable {X:Cx}
theorem b32:E9 X (.builtin "sorted") (rC1 X.K a8s):=by
 intro pins s σ H xs us Q I rv h
 obtain⟨F,x,rx,rz,rfl,s0,h1,h2,k⟩:=h
 unfold a8s at h2
 split at h2
 ·rename_i ps e
  obtain⟨ss,e1,h2⟩:=bind_some h2
  split at h2
  ·rename_i c
   cases h2
   obtain⟨a,xs,rfl,hq,r⟩:=A9 s0 h1 e
   obtain⟨u,rfl,ru⟩:=a01 rv
   cases ru
   have fin:∀(its:List AA) (T:String) (o:Obj) (n:Nat),(T="list"\/T="tuple")->s.heap.get? a=some o->o.cls= .type T->o.data= .seq its.toArray n->l9 xs its->AF (model X.prog X.w) X.A (call (.builtin "sorted") [.ref a]) (EP X pins σ Q) X.xe s:=by
    intro its T o n hT ho hc hd rvv
    have hS:=a0R e1 r rvv
    refine b1n hT ho hc hd hS (by rw [a6F hS];exact c) fun hp1 hp2 en us k1 k2 hs he=> ?_
    have I1:e9 X pins σ H {s with heap:=hp1}:=I.kept (t':=s.toks) k1
    have hlen:(M9 ss).length=ss.length:=(B7 ss).length_eq
    have hf:H hp1.objs.size=none:=I1.hok.fresh (AS _)
    refine⟨.ref hp1.objs.size,_,I1.laid (t':=s.toks) (h':=hp2) (o:= .lst ((M9 ss).map V.str)) k2 (AS _) ⟨by rw [Ac,hlen,sizeLine_eq];lia,us,en,a2b hs,he⟩,rfl,k _ F _ (r9.lst s0 hf (a19 _))⟩
   rcases hq with hq|hq
   ·obtain⟨its,r',pl,hz⟩:=I.list hq
    obtain⟨o,ho,hc,n,hd⟩:=pl.isList
    exact fin its "list" o n (.inl rfl) ho hc hd r'
   ·obtain⟨its,r',⟨o,ho,hc,n,hd⟩,hz⟩:=I.tuple hq
    exact fin its "tuple" o n (.inr rfl) ho hc hd r'
  ·cases h2
 ·cases h2
end
section
variable {X:Cx}
end
section
variable {prog:AL}{w:AJ}{A:AM}{E:AA->AC->Prop}{s:AC}
end
section
variable {prog:AL}{w:AJ}{A:AM}{E:AA->AC->Prop}{s:AC}
end
section
variable {X:Cx}
end
def S(l:List Nat):Str:=⟨l.toArray⟩
theorem b9Z(a b:List Nat):S a++S b=S (a++b):=by
 show Str.append (S a) (S b)=_
 simp [Str.append,S]
theorem a2k(a:List Nat):(S a).length=a.length:=by simp [S,Str.length]
theorem M6(a:List Nat):(S a).cps.toList=a:=by simp [S]
theorem b7H{a b:List Nat}(h:S a=S b):a=b:=by
 have:=congrArg (fun z:Str=>z.cps.toList) h
 simpa [S] using this
theorem b90(a b:List Nat):(S a==S b)=(a==b):=by
 rw [Bool.eq_iff_iff]
 simp only [beq_iff_eq]
 exact⟨b7H,fun h=>by rw [h]⟩
def a3j(sep:List Nat):List (List Nat)->List Nat
 |[]=>[]
 |[x]=>x
 |x::y::r=>x++sep++a3j sep (y::r)
theorem a7o(sep:List Nat):∀(ls:List (List Nat)) (acc:List Nat),(ls.foldl (fun a p=>a++sep++p) acc)=if ls=[] then acc else acc++sep++a3j sep ls
 |[],acc=>rfl
 |[x],acc=>by simp [a3j]
 |x::y::r,acc=>by
  rw [List.foldl_cons,a7o sep (y::r)]
  simp [a3j]
theorem b1S(sep:List Nat):∀(ls:List (List Nat)) (acc:List Nat),(ls.map S).foldl (fun a (p:Str)=>a++(S sep).cps++p.cps) acc.toArray=(ls.foldl (fun a p=>a++sep++p) acc).toArray
 |[],acc=>rfl
 |x::r,acc=>by
  rw [AQ,List.foldl_cons,List.foldl_cons]
  have:acc.toArray++(S sep).cps++(S x).cps=(acc++sep++x).toArray:=by simp [S]
  rw [this]
  exact b1S sep r (acc++sep++x)
theorem b8K(sep:List Nat)(ls:List (List Nat)):Txt.join (S sep) (ls.map S)=S (a3j sep ls):=by
 unfold Txt.join Builtin.Str.glued
 cases ls with
 |nil=>rfl
 |cons x r=>
  show(⟨((r.map S).foldl (fun acc (p:Str)=>acc++(S sep).cps++p.cps) (S x).cps)⟩:Str)=_
  rw [show(S x).cps=x.toArray from rfl,b1S,a7o]
  cases r with
  |nil=>rfl
  |cons y r=>rw [if_neg (by simp)];simp [S,a3j]
theorem a0g:∀ls:List (List Nat),a3j [] ls=ls.flatten
 |[]=>rfl
 |[x]=>by simp [a3j]
 |x::y::r=>by simp [a3j,a0g (y::r)]
theorem a4F:∀cs:List Nat,(cs.map fun c=>[c]).flatten=cs
 |[]=>rfl
 |c::cs=>by simp [a4F cs]
theorem a3O{α:Type}{xs:List α}{i:Int}(h:0<=i):L2.atI xs i=xs[i.toNat]?:=by
 unfold L2.atI L2.ixN
 rw [if_pos h]
 by_cases c:i<xs.length
 ·rw [if_pos c];rfl
 ·rw [if_neg c]
  have:xs.length<=i.toNat:=by lia
  rw [List.getElem?_eq_none_iff.mpr this];rfl
theorem b3Q{α:Type}{xs:List α}{k:Nat}:L2.atI xs (k:Int)=xs[k]?:=by
 rw [a3O (by lia)];simp
theorem b7P{l:List Nat}{i:Int}{c:Nat}(hl:l.length<=16777216)(h:L2.atI l i=some c):y6 (.val (.str (S l))) (.val (.int i))=some (.val (.str (S [c]))):=by
 have hs:(S l).length<=AO:=by rw [a2k,sizeLine_eq];exact hl
 unfold y6
 simp only [d0.rd,M6,h,Av,if_pos hs]
 rfl
theorem a8q{l k:List Nat}(h:l.length+k.length<=16777216):E5 (.val (.str (S l))) (.val (.str (S k)))=some (.val (.str (S (l++k)))):=by
 rw [b4r (by rw [a2k,a2k,sizeLine_eq];exact h),b9Z]
theorem b6l{l:List Nat}{c:Nat}(h:l.length<16777216):E5 (.val (.str (S l))) (.val (.str (S [c])))=some (.val (.str (S (l++[c])))):=a8q (by simp only [AT,Ae];lia)
theorem b6q{i j:Int}(h: -18446744073709551616<i/\i<18446744073709551616):a3g (.val (.int i)) (.val (.int j))=some (.val (.int (i*j))):=b8A h
theorem b6r{i j:Int}(h: -18446744073709551616<j/\j<18446744073709551616):a3g (.val (.int i)) (.val (.int j))=some (.val (.int (i*j))):=b8B h
theorem a5S(i j:Int):b0N (.val (.int i)) (.val (.int j))=some (.val (.bool (decide (i<j)))):=Eq.trans rfl rfl
theorem a5P(i j:Int):b4u (.val (.int i)) (.val (.int j))=some (.val (.bool (decide (i<=j)))):=Eq.trans rfl rfl
theorem b6p{l:List Nat}{k:Int}(h:(0<=k/\k<=1000)/\l.length<=1000):a3g (.val (.str (S l))) (.val (.int k))=some (.val (.str (S (AV k.toNat l).flatten))):=by
 have hm:(l.length:Int)*k<=1000*1000:=Int.mul_le_mul (by lia) (by lia) (by lia) (by lia)
 show(if okC (fun k n=>0<=k/\k<=1000000/\n*k<=16777216) k (S l).length=true then some (d0.val (.str ⟨(AV k.toNat (S l).cps.toList).flatten.toArray⟩)) else none)=_
 rw [if_pos (a18.mpr ⟨by lia,by lia,by rw [a2k];lia⟩),M6]
 rfl
theorem S6{i j:Int}(h: -18446744073709551616<i/\i<18446744073709551616):J6 (.val (.int i)) (.val (.int j))=some (.val (.int (i*j))):=(show _=a3g (.val (.int i)) (.val (.int j)) from rfl).trans (b6q h)
theorem b6t{i j:Int}(h: -18446744073709551616<j/\j<18446744073709551616):J6 (.val (.int i)) (.val (.int j))=some (.val (.int (i*j))):=(show _=a3g (.val (.int i)) (.val (.int j)) from rfl).trans (b6r h)
theorem b6s{l:List Nat}{k:Int}(h:(0<=k/\k<=1000)/\l.length<=1000):J6 (.val (.str (S l))) (.val (.int k))=some (.val (.str (S (AV k.toNat l).flatten))):=(show _=a3g (.val (.str (S l))) (.val (.int k)) from rfl).trans (b6p h)
theorem b6v(ps:List PV)(lo hi:Option Int):gSl (.val (.tuple ps)) lo hi=some (.val (.tuple (cut ps lo hi))):=Eq.trans rfl rfl
theorem b6u(ps:List PV)(lo hi:Option Int):gSl (.own ps) lo hi=some (.own (cut ps lo hi)):=Eq.trans rfl rfl
theorem a0I(i:Nat)(mi mv:M)(ρ:a9):b0Z i mi mv ρ=((mv ρ).bind d0.toVal).bind fun p=>(mi ρ).bind (b5y i ρ p):=Eq.trans rfl rfl
theorem b5z{i:Nat}{ρ:a9}{p:PV}{ps:List PV}{z:Int}(h:ρ[i]?=some (some (.own ps)))(h0:0<=z)(h1:z<ps.length):b5y i ρ p (.val (.int z))=some (.nx (ρ.set i (some (.own (ps.set z.toNat p))))):=by
 unfold b5y
 rw [h]
 show(L2.ixN ps.length z).bind _=_
 unfold L2.ixN
 rw [if_pos h0,if_pos h1]
 rfl
theorem a9M{l:List Nat}{lo hi:Option Int}(h:l.length<=16777216):gSl (.val (.str (S l))) lo hi=some (.val (.str (S (cut l lo hi)))):=by
 show(if(S l).length<=AO then some (d0.val (.str ⟨(cut (S l).cps.toList lo hi).toArray⟩)) else none)=_
 rw [if_pos (by rw [a2k,sizeLine_eq];exact h),M6]
 rfl
def chK(g':d0->d0->Option d0)(mc:M)(ρ:a9)(y z:d0):Option d0:=(a4g z).bind fun b=>if b=true then(mc ρ).bind fun w=>g' y w else some (.val (.bool false))
theorem a57(g g':d0->d0->Option d0)(ma mb mc:M)(ρ:a9):a8A g g' ma mb mc ρ=(ma ρ).bind fun x=>(mb ρ).bind fun y=>(g x y).bind (chK g' mc ρ y):=Eq.trans rfl rfl
abbrev row(l:List Nat):PV:= .str (S l)
def d9(rows:List (List Nat)):PV:= .tuple (rows.map row)
theorem b1O(a b:List Nat):PyData.eqv (row a) (row b)=(a==b):=by
 show PyData.eqv (.str (S a)) (.str (S b))=_
 rw [show PyData.eqv (.str (S a)) (.str (S b))=(S a==S b) by simp only [PyData.eqv],b90]
theorem b4e(a:List Nat)(n:Nat):i9 (row a) n=true:=by cases n<;>rfl
theorem U7(n:Nat):∀rows:List (List Nat),u4 (rows.map row) n=true
 |[]=>rfl
 |a::r=>by rw [AQ];simp [u4,b4e,U7 n r]
theorem a0D(rows:List (List Nat)):i9 (d9 rows) 50=true:=by
 show i9 (.tuple _) 50=true
 simp only [i9]
 exact U7 49 rows
theorem a9F{body:MS}{tg:PV->a9->Option a9}{I:Nat->a9->Prop}:∀{ps:List PV} {ρ:a9} (k:Nat),(∀(i:Nat) p,ps[i]?=some p->∀ρ,I (k+i) ρ->∃ρ1 ρ2,tg p ρ=some ρ1/\(body ρ1=some (.nx ρ2)\/body ρ1=some (.ct ρ2))/\I (k+i+1) ρ2)->I k ρ->∃ρ',N5 body tg ps ρ=some (.nx ρ')/\I (k+ps.length) ρ'
 |[],ρ,k,_,h=>⟨ρ,rfl,h⟩
 |p::ps,ρ,k,s,h=>by
  obtain⟨ρ1,ρ2,h1,h2,h3⟩:=s 0 p rfl ρ h
  obtain⟨ρ',h4,h5⟩:=a9F (ps:=ps) (ρ:=ρ2) (k+1) (fun i q hq ρ hi=>by
   have e:k+1+i=k+(i+1):=by lia
   rw [e] at hi ⊢
   exact s (i+1) q (by simpa using hq) ρ hi) h3
  refine⟨ρ', ?_,by rw [AT];have e:k+(ps.length+1)=k+1+ps.length:=by lia
                   rw [e];exact h5⟩
  unfold N5
  rw [h1]
  show(body ρ1).bind _=_
  rcases h2 with h2|h2<;>rw [h2]<;>exact h4
theorem C3{body:MS}{tg:PV->a9->Option a9}(I:Nat->a9->Prop){ps:List PV}{ρ:a9}(s:∀(i:Nat) p,ps[i]?=some p->∀ρ,I i ρ->∃ρ1 ρ2,tg p ρ=some ρ1/\(body ρ1=some (.nx ρ2)\/body ρ1=some (.ct ρ2))/\I (i+1) ρ2)(h:I 0 ρ):∃ρ',N5 body tg ps ρ=some (.nx ρ')/\I ps.length ρ':=by
 obtain⟨ρ',a,b⟩:=a9F (I:=I) 0 (fun i p hp ρ hi=>by rw [Nat.zero_add] at hi ⊢;exact s i p hp ρ hi) h
 rw [Nat.zero_add] at b
 exact⟨ρ',a,b⟩
theorem P6{body:MS}{tg:PV->a9->Option a9}{I:a9->Prop}{p:PV}{ρ ρ1 ρ2:a9}(h1:tg p ρ=some ρ1)(h2:body ρ1=some (.nx ρ2))(h3:I ρ2):∃ρ1 ρ2,tg p ρ=some ρ1/\(body ρ1=some (.nx ρ2)\/body ρ1=some (.ct ρ2))/\I ρ2:=⟨ρ1,ρ2,h1,.inl h2,h3⟩
theorem T4{lo hi:Int}{i:Nat}{p:PV}(h:(G0 lo hi)[i]?=some p):p= .int (lo+i)/\lo+i<hi:=by
 have hi':=(As.mp h).1
 rw [C1] at hi'
 rw [a3w hi'] at h
 cases h
 exact⟨rfl,by lia⟩
theorem b7g(n:Nat):G0 0 (n:Int)=(AR n).map fun k=> .int (k:Nat):=by
 unfold G0
 have e:((n:Int) - 0).toNat=n:=by lia
 rw [e]
 exact List.map_congr_left fun k _=>by simp
theorem a7z(k:Nat)(it:MI)(tg:PV->a9->Option a9)(c:MT)(elt:M)(ρ:a9):B1 k it tg c elt ρ=(it ρ).bind fun ps=>if ps.length<=AO then(a2p c elt tg (ρ++AV k none) ps).bind fun r=>some (.own r) else none:=Eq.trans rfl rfl
theorem a7c{α:Type}{ι f:α->PV}{elt:M}{tg:PV->a9->Option a9}{ρ:a9}:∀{xs:List α},(∀x∈xs,∃ρ1,tg (ι x) ρ=some ρ1/\(elt ρ1).bind d0.toVal=some (f x))->a2p M7 elt tg ρ (xs.map ι)=some (xs.map f)
 |[],_=>rfl
 |x::xs,h=>by
  obtain⟨ρ1,h1,h2⟩:=h x Aq
  rw [AQ,AQ]
  unfold a2p
  rw [h1,AH]
  show((elt ρ1).bind d0.toVal).bind _=_
  rw [h2,AH,a7c fun y hy=>h y (An _ hy),AH]
theorem B2{α:Type}{ι f:α->PV}{k:Nat}{it:MI}{elt:M}{tg:PV->a9->Option a9}{ρ:a9}(xs:List α)(h1:it ρ=some (xs.map ι))(h2:xs.length<=16777216)
 (h:∀x∈xs,∃ρ1,tg (ι x) (ρ++AV k none)=some ρ1/\(elt ρ1).bind d0.toVal=some (f x)):B1 k it tg M7 elt ρ=some (.own (xs.map f)):=by
 rw [a7z,h1,AH,if_pos (by rw [Ac,sizeLine_eq];exact h2),a7c h,AH]
theorem a28{α:Type}{ι f:α->PV}{q:α->Bool}{c:MT}{elt:M}{tg:PV->a9->Option a9}{ρ:a9}:∀{xs:List α},(∀x∈xs,∃ρ1,tg (ι x) ρ=some ρ1/\c ρ1=some (q x)/\(q x=true->(elt ρ1).bind d0.toVal=some (f x)))->a2p c elt tg ρ (xs.map ι)=some ((xs.filter q).map f)
 |[],_=>rfl
 |x::xs,h=>by
  obtain⟨ρ1,h1,h2,h3⟩:=h x Aq
  have ih:=a28 (xs:=xs) fun y hy=>h y (An _ hy)
  rw [AQ]
  unfold a2p
  rw [h1,AH,h2,AH]
  cases e:q x with
  |true=>rw [if_pos rfl,h3 e,AH,ih,AH,List.filter_cons_of_pos (by rw [e])];rfl
  |false=>rw [if_neg Ax,ih,List.filter_cons_of_neg (by rw [e];exact Ax)]
theorem D9(ps:List PV):PyData.items? (.list ps)=some ps:=Eq.trans rfl rfl
theorem E3(m:M)(ρ:a9):I0 m ρ=((m ρ).bind d0.toVal).bind PyData.items?:=Eq.trans rfl rfl
theorem A3(m:M)(lo hi:MO)(ρ:a9):V6 m lo hi ρ=(m ρ).bind fun r=>(lo ρ).bind fun l=>(hi ρ).bind fun h=>gSl r l h:=Eq.trans rfl rfl
theorem A4(m:M)(ρ:a9):V8 m ρ=(m ρ).bind b11:=Eq.trans rfl rfl
theorem E4(ρ:a9):V7 ρ=some none:=Eq.trans rfl rfl
theorem P3(i:Int):b11 (.val (.int i))=some (some i):=Eq.trans rfl rfl
theorem Q4{m:M}{ρ:a9}{r:d0}{ps:List PV}(h:m ρ=some r)(h2:PyData.items? r.rd=some ps):A6 m ρ=some ps:=by
 unfold A6
 rw [h,AH,h2]
theorem O0{m:M}{ρ:a9}{n:Nat}(h:m ρ=some (.val (.int n)))(hn:n<4611686018427387904):C9 (a0 m b7) ρ=some ((AR n).map fun k=> .int (k:Nat)):=by
 have e:a0 m b7 ρ=some [.int n]:=by rw [b0,h];rfl
 rw [C5,e,AH,P4 (j:=(n:Int)) ⟨by lia,by lia⟩,b7g]
theorem a2D{sep:List Nat}{rows:List (List Nat)}{y:d0}(h:PyData.items? y.rd=some (rows.map row))(hl:(rows.map (·.length)).sum+rows.length*sep.length<=16777216):V0 (.val (.str (S sep))) y=some (.val (row (a3j sep rows))):=by
 have e1:Z1 (rows.map row)=some (rows.map S):=by
  have:rows.map row=(rows.map S).map PyData.str:=by rw [Aw];rfl
  rw [this,a6E]
 have e2:((rows.map S).map (·.length))=rows.map (·.length):=by rw [Aw];exact List.map_congr_left fun a _=>a2k a
 unfold V0
 simp only [h,e1,AH,e2,Ac,a2k,if_pos hl,b8K]
theorem a2F(ps:List PV):Y6 (.own ps)=some (.val (.tuple ps)):=Eq.trans rfl rfl
theorem a1J{i:Nat}{m:M}{ρ:a9}{r:d0}{p:PV}{ps:List PV}(h1:m ρ=some r)(h2:r.toVal=some p)(h3:ρ[i]?=some (some (.own ps)))(h:ps.length<16777216):S9 i m ρ=some (.nx (ρ.set i (some (.own (ps++[p]))))):=by
 unfold S9
 rw [h1,AH,h2,AH,h3]
 simp only [sizeLine_eq,if_pos h]
theorem a3p(p:d0)(ρ:a9):a0X 0 (some p::ρ)=some (.rt p):=Eq.trans rfl rfl
theorem a3q(n:Nat)(r:Option d0)(ρ:a9):a0X (n+1) (r::ρ)=a0X n ρ:=Eq.trans rfl rfl
theorem J9(k:List m3)(v:PV)(D:List (List m3×PV))(k':List m3):A5 ((k,v)::D) k'=if k=k' then some v else A5 D k':=by
 unfold A5
 rw [List.find?_cons]
 by_cases h:k=k'
 ·simp [h]
 ·simp [h]
theorem b0t(k:List m3)(v:PV)(k':List m3):∀D:List (List m3×PV),A5 (D++[(k,v)]) k'=if(A5 D k').isSome=true then A5 D k' else if k=k' then some v else none
 |[]=>by rw [Ad,J9];rfl
 |(a,b)::D=>by
  rw [Aa,J9,J9,b0t k v k' D]
  by_cases h:a=k'
  ·simp [h]
  ·simp [h]
theorem b1y(k:List m3):∀D:List (List m3×PV),(D.any fun kv=>decide (kv.1=k))=(A5 D k).isSome
 |[]=>rfl
 |(a,b)::D=>by
  rw [List.any_cons,b1y k D,J9]
  by_cases h:a=k
  ·simp [h]
  ·simp [h]
theorem a7X(k:List m3)(v:PV)(k':List m3):∀D:List (List m3×PV),A5 (D.map fun kv=>if kv.1=k then(kv.1,v) else kv) k'=if k=k' then(A5 D k').map (fun _=>v) else A5 D k'
 |[]=>by simp [A5]
 |(a,b)::D=>by
  rw [AQ]
  have ih:=a7X k v k' D
  by_cases h:a=k
  ·simp only [h,if_true]
   rw [J9,J9,ih]
   by_cases h2:k=k'
   ·simp [h2]
   ·simp [h2]
  ·simp only [h,if_false]
   rw [J9,J9,ih]
   by_cases h2:a=k'
   ·have:¬k=k':=fun z=>h (h2.trans z.symm)
    simp [h2,this]
   ·simp [h2]
theorem a6J(D:List (List m3×PV))(k:List m3)(v:PV)(k':List m3):A5 (a6o D k v) k'=if k=k' then some v else A5 D k':=by
 unfold a6o
 rw [b1y]
 cases h:(A5 D k).isSome with
 |true=>
  rw [if_pos rfl,a7X]
  by_cases h2:k=k'
  ·subst h2
   rw [if_pos rfl,if_pos rfl]
   obtain⟨x,hx⟩:=Option.isSome_iff_exists.mp h
   rw [hx];rfl
  ·rw [if_neg h2,if_neg h2]
 |false=>
  rw [if_neg Ax,b0t]
  by_cases h2:k=k'
  ·subst h2;rw [h];simp
  ·simp only [if_neg h2]
   cases h3:A5 D k'<;>simp
theorem b0d(D:List (List m3×PV))(k:List m3)(v:PV):(a6o D k v).length<=D.length+1:=by
 unfold a6o
 split
 ·rw [Ac];lia
 ·rw [Ar,List.length_singleton];lia
theorem a9B{i:Nat}{ρ:a9}{p:PV}{k:List m3}{D:List (List m3×PV)}(h:ρ[i]?=some (some (.ow (.dct D))))(hl:D.length<16777216):a9A i ρ p k=some (.nx (ρ.set i (some (.ow (.dct (a6o D k p)))))):=by
 unfold a9A
 rw [h]
 show(if D.length<AO then _ else none)=_
 rw [if_pos (by rw [sizeLine_eq];exact hl)]
theorem b36{i:Nat}{ρ:a9}{k:List m3}{D:List (List m3×PV)}{p:PV}(h:ρ[i]?=some (some (.ow (.dct D))))(hv:A5 D k=some p):b1H i ρ k=some (.val p):=by
 unfold b1H
 rw [h]
 show(A5 D k).map _=_
 rw [hv];rfl
theorem b37(neg:Bool)(D:List (List m3×PV))(ρ:a9)(k:List m3):b2P neg 0 (some (.ow (.dct D))::ρ) k=some (.val (.bool (if neg then !(A5 D k).isSome else(A5 D k).isSome))):=Eq.trans rfl rfl
theorem b38(neg:Bool)(i:Nat)(r:Option d0)(ρ:a9)(k:List m3):b2P neg (i+1) (r::ρ) k=b2P neg i ρ k:=Eq.trans rfl rfl
theorem b6I{i:Nat}{ma:MA}{ρ:a9}{a b:Int}{p:PV}{D:List (List m3×PV)}(h3:ma ρ=some [.int a,.int b])(h:ρ[i]?=some (some (.ow (.dct D))))(hv:A5 D [.inl a,.inl b]=some p):b17 i ma ρ=some (.val p):=by
 unfold b17
 rw [h3,AH,if_pos (by rw [sizeLine_eq];simp),show keysOf [.int a,.int b]=some [.inl a,.inl b] from rfl,AH,b36 h hv]
theorem a7B(ρ:a9):b19 ρ=some (.ow (.dct [])):=Eq.trans rfl rfl
theorem b3P(i:Nat)(ρ:a9)(c:Y2):b51 i ρ (.ow c)=some (.nx (ρ.set i (some (.ow c)))):=Eq.trans rfl rfl
theorem a8B{α:Type}{ι f:α->PV}{q:α->Bool}{k:Nat}{it:MI}{c:MT}{elt:M}{tg:PV->a9->Option a9}{ρ:a9}(xs:List α)(h1:it ρ=some (xs.map ι))(h2:xs.length<=16777216)
 (h:∀x∈xs,∃ρ1,tg (ι x) (ρ++AV k none)=some ρ1/\c ρ1=some (q x)/\(q x=true->(elt ρ1).bind d0.toVal=some (f x))):B1 k it tg c elt ρ=some (.own ((xs.filter q).map f)):=by
 rw [a7z,h1,AH,if_pos (by rw [Ac,sizeLine_eq];exact h2),a28 h,AH]
theorem a5G{ps:List PV}{n:Nat}(h:∀p∈ps,i9 p n=true):u4 ps n=true:=by
 induction ps with
 |nil=>rfl
 |cons p ps ih=>simp [u4,h p Aq,ih fun q hq=>h q (An _ hq)]
def a4Z(A:AM)(s:AC)(u v:AA)(b:Bool):Prop:=∀(prog:AL) (w:AJ) (E:AA->AC->Prop) (Q:AA->AC->Prop),Q (.bool b) s->AF (model prog w) A (richCompare .Lt u v) Q E s
section
open AutoSeq1 (wpAny_loadPart')
theorem a89(l b:AB)(xs ys:Array AA)(n n2:Nat)(dd dd2:Option AB)(sl sl2:Array (Option AA))(e:Nat->Bool)(c:Bool):
 Meets (Builtin.«tuple.__lt__» ⟨[.ref l,.ref b],[]⟩)
  (fun A R s=>(s.heap.get? l=some {cls:= .type "tuple",dict:=dd,data:= .seq xs n,slots:=sl}/\s.heap.get? b=some {cls:= .type "tuple",dict:=dd2,data:= .seq ys n2,slots:=sl2})/\
   (∀j (h1:j<xs.size) (h2:j<ys.size),SeqAt.EqAt A.in1 s xs[j] ys[j] (e j))/\(∀j (h1:j<xs.size) (h2:j<ys.size),(∀k,k<j->e k=true)->e j=false->a4Z A.in1 s xs[j] ys[j] c)/\
   ((∀k,k<min xs.size ys.size->e k=true)->c=decide (xs.size<ys.size))/\R (.ok (.ret (.bool c))) s):=
 .of_wp fun prog w A R s h=>by
  obtain⟨hp,g,d,tk,os⟩:=s
  obtain⟨⟨hl,hb⟩,he,hlt,hce,h⟩:=h
  have f2:=AutoSeq1.sub_tuple_tuple
  have hZ:(xs.toList.zip ys.toList).length=min xs.size ys.size:=by simp
  wp_walk using wpAny_loadPart' hl,wpAny_loadPart' hb,wpAny_forIn_list _ (fun rest b s'=>b.1=none/\s'=⟨hp,g,d,tk,os⟩/\∃i,i<=min xs.size ys.size/\rest=(xs.toList.zip ys.toList).drop i/\∀k,k<i->e k=true) _
  case turn=>
   rintro⟨y,x⟩ rest b s' ⟨hb',rfl,i,hi,hz,hR⟩
   have hlt':i<(xs.toList.zip ys.toList).length:=by
    rcases Nat.lt_or_ge i (xs.toList.zip ys.toList).length with h'|h'
    ·exact h'
    ·rw [List.drop_of_length_le h'] at hz;cases hz
   have hm:i<min xs.size ys.size:=by lia
   have h1:i<xs.size:=by lia
   have h2:i<ys.size:=by lia
   rw [List.drop_eq_getElem_cons hlt'] at hz
   injection hz with hyx hrest
   have hy:y=xs[i]:=by simpa using congrArg Prod.fst hyx
   have hx:x=ys[i]:=by simpa using congrArg Prod.snd hyx
   subst hy hx
   refine AD (he i h1 h2 prog w _ _ ?_)
   cases hq:e i with
   |true=>
    wp_walk
    exact⟨rfl,rfl,i+1,by lia,hrest,fun k hk=>by
     rcases Nat.lt_or_ge k i with h'|h'
     ·exact hR k h'
     ·rw [show k=i by lia];exact hq⟩
   |false=>
    have hl3:=hlt i h1 h2 hR hq
    show AF _ A.in1 (rule _>>=fun _=>richCompare .Lt xs[i] ys[i]>>=fun v=>ret v>>=fun q=>pure (ForInStep.done (some q,()))) _ _ _
    refine AD (wpAny_rule ?_)
    refine AD (hl3 prog w _ _ ?_)
    refine AD (AI ?_)
    refine AI ?_
    exact AI ⟨_,rfl,h⟩
  case fin=>
   rintro⟨b1,b2⟩ s' ⟨hb',rfl,i,hi,hz,hR⟩
   simp only at hb'
   subst hb'
   have hge:min xs.size ys.size<=i:=by
    rcases Nat.lt_or_ge i (xs.toList.zip ys.toList).length with h'|h'
    ·rw [List.drop_eq_getElem_cons h'] at hz;cases hz
    ·lia
   wp_walk
   refine⟨_,rfl, ?_⟩
   rw [hce fun k hk=>hR k (by lia)] at h
   exact h
  case h=>
   exact⟨rfl,rfl,0,by lia,rfl,fun k hk=>by lia⟩
variable {A:AM}{s:AC}
theorem a4Z.tuples{l b:AB}{xs ys:Array AA}{e:Nat->Bool}{c:Bool}(hl:s.heap.IsTuple l xs)(hb:s.heap.IsTuple b ys)(hu:A.units<cLine)
 (he:∀j (h1:j<xs.size) (h2:j<ys.size),SeqAt.EqAt A.in1 s xs[j] ys[j] (e j)) (hlt:∀j (h1:j<xs.size) (h2:j<ys.size),(∀k,k<j->e k=true)->e j=false->a4Z A.in1 s xs[j] ys[j] c)
 (hce:(∀k,k<min xs.size ys.size->e k=true)->c=decide (xs.size<ys.size)):a4Z A s (.ref l) (.ref b) c:=fun prog w E Q h=>by
 obtain⟨⟨c1,d1,t1,s1⟩,o1,e1,n1,k1⟩:=id hl
 obtain⟨⟨c2,d2,t2,s2⟩,o2,e2,n2,k2⟩:=id hb
 simp only at e1 k1 e2 k2
 subst e1 k1 e2 k2
 exact richCompare_meets_room (op:= .Lt) ⟨_,o1,rfl⟩ ⟨_,o2,rfl⟩ F.slot_tuple_lt F.entry_tuple_lt (F.args_tuple_lt_2 _ _) (a89 l b xs ys n1 n2 d1 d2 s1 s2 e c)
  ⟨⟨o1,o2⟩,he,hlt,hce,show Value.bool c≠Value.notImplemented/\Q (.bool c) s from⟨(fun x=>nomatch x),h⟩⟩ hu
theorem a4Z.ints(a b:Int)(t u:Tok):a4Z A s (.int a t) (.int b u) (decide (a<b)):=fun prog w E Q h=>wpAny_lt_int h
theorem a4Z.strs(a b:Str)(t u:Tok):a4Z A s (.str a t) (.str b u) (decide (a.cps.toList<b.cps.toList)):=fun prog w E Q h=>lt_str h
end
mutual
def ltv:PV->PV->Option Bool
 | .int i,.int j=>some (decide (i<j))
 | .str i,.str j=>some (decide (i.cps.toList<j.cps.toList))
 | .tuple ps,.tuple qs=>a0j ps qs
 |_,_=>none
def a0j:List PV->List PV->Option Bool
 |[],[]=>some false
 |[],_::_=>some true
 |_::_,[]=>some false
 |p::ps,q::qs=>if PyData.eqv p q=true then a0j ps qs else ltv p q
end
theorem b16:∀{ps qs:List PV} {c:Bool},a0j ps qs=some c->∀j (p q:PV),ps[j]?=some p->qs[j]?=some q->(∀k,k<j->eAt ps qs k=true)->eAt ps qs j=false->ltv p q=some c
 |[],_,_,_,j,p,q,h1,_,_,_=>by simp at h1
 |_::_,[],_,_,j,p,q,_,h2,_,_=>by simp at h2
 |p'::ps,q'::qs,c,h,0,p,q,h1,h2,_,he=>by
  simp only [List.getElem?_cons_zero,Option.some.injEq] at h1 h2
  subst h1 h2
  rw [a0j] at h
  have:PyData.eqv p' q'=false:=by simpa [eAt] using he
  rw [this] at h
  simpa using h
 |p'::ps,q'::qs,c,h,j+1,p,q,h1,h2,hk,he=>by
  simp only [List.getElem?_cons_succ] at h1 h2
  have h0:PyData.eqv p' q'=true:=by simpa [eAt] using hk 0 (by lia)
  rw [a0j,if_pos h0] at h
  refine b16 h j p q h1 h2 (fun k hk'=> ?_) ?_
  ·simpa [eAt] using hk (k+1) (by lia)
  ·simpa [eAt] using he
theorem a9Y:∀{ps qs:List PV} {c:Bool},a0j ps qs=some c->(∀k,k<min ps.length qs.length->eAt ps qs k=true)->c=decide (ps.length<qs.length)
 |[],[],c,h,_=>by simp [a0j] at h;simp [h]
 |[],_::_,c,h,_=>by simp [a0j] at h;simp [h]
 |_::_,[],c,h,_=>by simp [a0j] at h;simp [h]
 |p::ps,q::qs,c,h,hk=>by
  have h0:PyData.eqv p q=true:=by simpa [eAt] using hk 0 (by simp)
  rw [a0j,if_pos h0] at h
  have:=a9Y h fun k hk'=>by simpa [eAt] using hk (k+1) (by simp at hk' ⊢;lia)
  simpa using this
section
variable {X:Cx}{pins:List (AB×Obj)}{σ:L2.St}{H:Hp}{s:AC}
theorem b8S(I:e9 X pins σ H s):∀(n:Nat) (A:AM) (p q:PV) (x y:V) (u w:AA) (c:Bool),A.units+n<cLine->i9 p n=true->i9 q n=true->ltv p q=some c->B5 X.K H p x->B5 X.K H q y->l8 x u->l8 y w->a4Z A s u w c:=by
 intro n
 induction n with
 |zero=>
  intro A p q x y u w c hu hp hq hc rp rq rx ry
  unfold ltv at hc
  split at hc
  ·cases hc;cases rp;cases rq
   obtain⟨tx,rfl⟩:=rx
   obtain⟨ty,rfl⟩:=ry
   exact .ints _ _ _ _
  ·cases hc;cases rp;cases rq
   obtain⟨tx,rfl⟩:=rx
   obtain⟨ty,rfl⟩:=ry
   exact .strs _ _ _ _
  ·simp [i9] at hp
  ·cases hc
 |succ n ih=>
  intro A p q x y u w c hu hp hq hc rp rq rx ry
  have hu0:A.units<cLine:=by lia
  have hu1:A.in1.units+n<cLine:=by rw [a16];lia
  unfold ltv at hc
  split at hc
  ·cases hc;cases rp;cases rq
   obtain⟨tx,rfl⟩:=rx
   obtain⟨ty,rfl⟩:=ry
   exact .ints _ _ _ _
  ·cases hc;cases rp;cases rq
   obtain⟨tx,rfl⟩:=rx
   obtain⟨ty,rfl⟩:=ry
   exact .strs _ _ _ _
  ·rename_i ps qs
   obtain⟨a,xs,rfl,hs,r⟩:=rp
   cases rx
   obtain⟨its,rv,pl,hz⟩:=I.tuple hs.sq
   have okp:u4 ps n=true:=by simpa [i9] using hp
   obtain⟨b,ys,rfl,hs',r'⟩:=rq
   cases ry
   obtain⟨its2,rv',pl',hz'⟩:=I.tuple hs'.sq
   have okq:u4 qs n=true:=by simpa [i9] using hq
   have hle:its.toArray.size=ps.length:=by rw [<-r.length,rv.length];simp
   have hle':its2.toArray.size=qs.length:=by rw [<-r'.length,rv'.length];simp
   have he:=a6I (A:=A.in1) (s:=s) r r' rv rv' fun p q x y u w hp' hq' rp' rq' rx' ry'=>a8j I n A.in1 p q x y u w hu1 (u9 okp hp') (u9 okq hq') rp' rq' rx' ry'
   refine .tuples pl pl' hu0 he (fun j h1 h2 hk hj=> ?_) fun hk=> ?_
   ·have h1':j<its.length:=by simpa using h1
    have h2':j<its2.length:=by simpa using h2
    obtain⟨x,ex,rx⟩:=a2c rv h1'
    obtain⟨y,ey,ry⟩:=a2c rv' h2'
    obtain⟨p,ep,hp⟩:=r.getV ex
    obtain⟨q,eq,hq⟩:=r'.getV ey
    have:=ih A.in1 p q x y _ _ c hu1 (u9 okp (BC ep)) (u9 okq (BC eq)) (b16 hc j p q ep eq hk hj) hp hq rx ry
    simpa using this
   ·rw [hle,hle']
    exact a9Y hc fun k hk'=>hk k (by rw [hle,hle'];exact hk')
  ·cases hc
end
section
variable {X:Cx}
end
section
variable {prog:AL}{w:AJ}{A:AM}{R:Result->AC->Prop}{I:AB}{fp wr:List AB}{n:Nat}{P:Nat->AA->Prop}{St:Nat->Heap->Prop}
def Kpt(h₀ h:Heap):Prop:=∀b o,h₀.get? b=some o->h.get? b=some o
theorem b3h(s₀:AC)(h₀:Heap)(W:Walks prog w A.in1 I fp wr n P St)(bt:Nat->Nat->Bool)(hwr:∀b∈wr,h₀.get? b=none)
 (hcmp:∀h tk,Kpt h₀ h->∀i j vi vj,P i vi->P j vj->a4Z A.in1 {s₀ with heap:=h,toks:=tk} vi vj (bt i j)) (S:AB) (hSf:S∉fp) (hS0:h₀.get? S=none):
 ∀(k j:Nat) (h:Heap) (tk:Tok) (vb:AA) (c:Nat),n - (j+1)=k->j+1<=n->Kpt h₀ h->St (j+1) h->P (argBest bt j) vb->
  h.get? S=some {cls:= .type "list",dict:=none,data:= .seq #[vb,vb] c,slots:= #[]}->(∀v h' tk',P (argBest bt (n - 1)) v->Kpt h₀ h'->R (.ok (.ret v)) {s₀ with heap:=h',toks:=tk'})->
  codeAny (model prog w) A (.builtin "min.loop" ⟨[.ref I,.none,.ref S],[]⟩) R {s₀ with heap:=h,toks:=tk}:=by
 have hSw:S∉wr:=fun z=>hSf (W.sub _ z)
 have nm:(toString "min"++toString ".loop":String)="min.loop":=by decide
 have kp:∀{h h':Heap},Kpt h₀ h->(∀b o,b∉wr->h.get? b=some o->h'.get? b=some o)->Kpt h₀ h':=fun a b' b o e=>b' b o (fun z=>by rw [hwr b z] at e;cases e) (a b o e)
 have ku:∀{h:Heap} {f:Obj->Obj},Kpt h₀ h->Kpt h₀ (h.update S f):=fun a b o e=>(Heap.get?_update_other _ _ (fun z:S=b=>by rw [<-z,hS0] at e;cases e)).trans (a b o e)
 intro k
 induction k with
 |zero=>
  intro j h tk vb c hk hj hK hst hPb hS hR
  have hin:j+1=n:=by lia
  refine codeAny_builtin PySem.F.entry_min_loop ?_
  rw [Around.under_plainId PySem.F.plain_min_loop _]
  show AF _ A.in1 (seqItems? (.ref S)>>=_) _ _ {s₀ with heap:=h,toks:=tk}
  refine AD (wpAny_seqItems hS rfl ?_)
  show AF _ A.in1 (tryCatch (pyNext (.ref I)) _>>=_) _ _ {s₀ with heap:=h,toks:=tk}
  refine AD (wpAny_tryCatch (W.done {s₀ with heap:=h,toks:=tk} _ _ (hin▸hst) fun h' tk' hk'=> ?_))
  have hS':=hk' S _ hSw hS
  show AF _ A.in1 (updateSeq S (fun _=> #[])>>=_) _ _ {s₀ with heap:=h',toks:=tk'}
  refine AD (wpAny_updateSeq hS' rfl (AD (wpAny_letGo (AI ?_))))
  exact hR vb _ tk' (by rw [<-hin];exact hPb) (ku (kp hK hk'))
 |succ k ih=>
  intro j h tk vb c hk hj hK hst hPb hS hR
  have hlt:j+1<n:=by lia
  refine codeAny_builtin PySem.F.entry_min_loop ?_
  rw [Around.under_plainId PySem.F.plain_min_loop _]
  show AF _ A.in1 (seqItems? (.ref S)>>=_) _ _ {s₀ with heap:=h,toks:=tk}
  refine AD (wpAny_seqItems hS rfl ?_)
  show AF _ A.in1 (tryCatch (pyNext (.ref I)) _>>=_) _ _ {s₀ with heap:=h,toks:=tk}
  refine AD (wpAny_tryCatch (W.item (j+1) {s₀ with heap:=h,toks:=tk} _ _ hlt hst fun v h' tk' hP hst' hk'=> ?_))
  have hS':=hk' S _ hSw hS
  have hK':=kp hK hk'
  show AF _ A.in1 (tryCatch (holding [v,v] (richCompare .Lt v vb>>=_)) _>>=_) _ _ {s₀ with heap:=h',toks:=tk'}
  refine AD (wpAny_tryCatch (wpAny_holding (AD (hcmp h' tk' hK' (j+1) (argBest bt j) v vb hP hPb prog w _ _ ?_))))
  refine AD (wpAny_holding (wpAny_truthy_bool (AD (wpAny_letGo (AI ?_)))))
  cases hb:bt (j+1) (argBest bt j) with
  |true=>
   simp only [if_true]
   refine AD (wpAny_updateSeq hS' rfl (AD (wpAny_letGo ?_)))
   rw [nm]
   refine AI ⟨plainId_quiet PySem.F.plain_min_loop _,ih (j+1) _ tk' v _ (by lia) hlt (ku hK') (W.frame _ _ _ hst' fun b hbf o e=> ?_) (by simp only [argBest,hb,if_true];exact hP) (Heap.get?_update_self _ hS' rfl) hR⟩
   exact(Heap.get?_update_other _ _ (fun z:S=b=>hSf (by rw [z];exact hbf))).trans e
  |false=>
   simp only [Ay,if_false]
   refine AD (wpAny_letGo ?_)
   rw [nm]
   exact AI ⟨plainId_quiet PySem.F.plain_min_loop _,ih (j+1) _ tk' vb c (by lia) hlt hK' hst' (by simp only [argBest,hb,Ay,if_false];exact hPb) hS' hR⟩
theorem b03(s₀:AC)(h₀:Heap)(W:Walks prog w A.in1 I fp wr n P St)(bt:Nat->Nat->Bool)(hwr:∀b∈wr,h₀.get? b=none)
 (hcmp:∀h tk,Kpt h₀ h->∀i j vi vj,P i vi->P j vj->a4Z A.in1 {s₀ with heap:=h,toks:=tk} vi vj (bt i j)) (S:AB) (hSf:S∉fp) (hS0:h₀.get? S=none) (hn:0<n)
 {h:Heap} {tk:Tok} {c:Nat} (hK:Kpt h₀ h) (hst:St 0 h) (hS:h.get? S=some {cls:= .type "list",dict:=none,data:= .seq #[] c,slots:= #[]})
 (hR:∀v h' tk',P (argBest bt (n - 1)) v->Kpt h₀ h'->R (.ok (.ret v)) {s₀ with heap:=h',toks:=tk'}):codeAny (model prog w) A (.builtin "min.loop" ⟨[.ref I,.none,.ref S],[]⟩) R {s₀ with heap:=h,toks:=tk}:=by
 have hSw:S∉wr:=fun z=>hSf (W.sub _ z)
 have nm:(toString "min"++toString ".loop":String)="min.loop":=by decide
 refine codeAny_builtin PySem.F.entry_min_loop ?_
 rw [Around.under_plainId PySem.F.plain_min_loop _]
 show AF _ A.in1 (seqItems? (.ref S)>>=_) _ _ {s₀ with heap:=h,toks:=tk}
 refine AD (wpAny_seqItems hS rfl ?_)
 show AF _ A.in1 (tryCatch (pyNext (.ref I)) _>>=_) _ _ {s₀ with heap:=h,toks:=tk}
 refine AD (wpAny_tryCatch (W.item 0 {s₀ with heap:=h,toks:=tk} _ _ hn hst fun v h' tk' hP hst' hk'=> ?_))
 have hS':=hk' S _ hSw hS
 have hK':Kpt h₀ h':=fun b o e=>hk' b o (fun z=>by rw [hwr b z] at e;cases e) (hK b o e)
 show AF _ A.in1 (updateSeq S (fun _=> #[v,v])>>=_) _ _ {s₀ with heap:=h',toks:=tk'}
 refine AD (wpAny_updateSeq hS' rfl ?_)
 rw [nm]
 refine AI ⟨plainId_quiet PySem.F.plain_min_loop _,b3h s₀ h₀ W bt hwr hcmp S hSf hS0 _ 0 _ tk' v _ rfl hn (fun b o e=>(Heap.get?_update_other _ _ (fun z:S=b=>by rw [<-z,hS0] at e;cases e)).trans (hK' b o e)) (W.frame _ _ _ hst' fun b hbf o e=> ?_) hP (Heap.get?_update_self _ hS' rfl) hR⟩
 exact(Heap.get?_update_other _ _ (fun z:S=b=>hSf (by rw [z];exact hbf))).trans e
end
section
variable {prog:AL}{w:AJ}{A:AM}{E:AA->AC->Prop}{s:AC}
theorem b3g{l:AB}{vs:Array AA}{Q:AA->AC->Prop}(hh:A.handled=none)(hl:s.heap.IsList l vs)(hn:0<vs.size)(bt:Nat->Nat->Bool)
 (hcmp:∀h tk,Kpt s.heap h->∀(i j:Nat) (vi vj:AA),vs[i]?=some vi->vs[j]?=some vj->a4Z A.in1 {s with heap:=h,toks:=tk} vi vj (bt i j))
 (h:∀v h' tk,vs[argBest bt (vs.size - 1)]?=some v->Kpt s.heap h'->Q v {s with heap:=h',toks:=tk}):AF (model prog w) A (call (.builtin "min") [.ref l]) Q E s:=by
 have nm:(toString "min"++toString ".loop":String)="min.loop":=by decide
 have hlt:l<s.heap.objs.size:=by obtain⟨_,e,_⟩:=hl;exact Af e
 refine call_function_tree PySem.F.kind_min PySem.F.plain_min PySem.F.entry_min (PySem.F.args_min1 _) ?_
 show AF _ A.in1 (Builtin.Builtins.bindParams "min" ["key","default"] 0 ⟨[],[]⟩>>=_) _ _ s
 refine AD (wpAny_of_eq (show Builtin.Builtins.bindParams "min" ["key","default"] 0 ⟨[],[]⟩=pure [none,none] from rfl) (AD (AI ?_)))
 refine AD (wpAny_pyIter_list hl ?_)
 refine AD (wpAny_newObj_type ?_)
 rw [nm]
 have no:∀b,s.heap.objs.size<=b->s.heap.get? b=none:=fun b hb=>by
  cases q:s.heap.get? b with
  |none=>rfl
  |some o=>exact absurd (Au (Af q) hb) (Nat.lt_irrefl _)
 have sz:∀o,(s.heap.push o).objs.size=s.heap.objs.size+1:=fun o=>Heap.size_push _ _
 refine AI ⟨plainId_quiet PySem.F.plain_min_loop _,b03 s s.heap (Walks.list (A:=A.in1) hh s.heap.objs.size l (Ai hlt) vs) bt (fun b hb=>no b (by rw [List.mem_singleton.mp hb];exact AS _)) hcmp _ (fun z=> ?_) (no _ (by show _<=(s.heap.push _).objs.size;rw [sz];lia)) hn (fun b o e=>Ab _ (Ab _ e))
  ⟨⟨_,Ab _ (Ao _ rfl),rfl,rfl⟩,(hl.push _).push _⟩ (Ao _ rfl) fun v h' tk' hP hK=>h v h' tk' hP hK⟩
 have z':(s.heap.push {cls:= .type "list_iterator",data:= .fields #[.ref l,.int 0 0]}).objs.size∈[s.heap.objs.size,l]:=z
 rw [sz] at z'
 simp only [Ag,List.not_mem_nil,or_false] at z'
 rcases z' with z'|z'
 ·exact Nat.succ_ne_self _ z'
 ·rw [<-z'] at hlt
  exact absurd hlt (Nat.not_lt.mpr (Nat.le_succ _))
end
def btV(ps:List PV)(i j:Nat):Bool:=match ps[i]?,ps[j]? with
 |some p,some q=>(ltv p q).getD false
 |_,_=>false
def a9K(x:d0):Option d0:=match x.rd with
 | .list ps=>if u4 ps 50=true/\0<ps.length/\(ps.all fun p=>ps.all fun q=>(ltv p q).isSome)=true then(ps[argBest (btV ps) (ps.length - 1)]?).map .val else none
 |_=>none
section
variable {X:Cx}
theorem b1F(hu:X.A.units+64<cLine)(hc:X.calm=true):E9 X (.builtin "min") (rC1 X.K a9K):=by
 intro pins s σ H xs us Q I rv h
 obtain⟨F,x,rx,rz,rfl,s0,h1,h2,k⟩:=h
 have hh:X.A.handled=none:=I.ok.hd hc
 unfold a9K at h2
 split at h2
 ·rename_i ps e
  split at h2
  ·rename_i c
   obtain⟨c1,c2,c3⟩:=c
   cases hq:ps[argBest (btV ps) (ps.length - 1)]? with
   |none=>rw [hq] at h2;cases h2
   |some p=>
    rw [hq] at h2;cases h2
    have rr:=h1.rd s0
    rw [e] at rr
    obtain⟨a,xs,rfl,hs,r⟩:=rr
    obtain⟨u,rfl,ru⟩:=a01 rv
    cases ru
    obtain⟨its,rvv,pl,hz⟩:=I.list hs
    obtain⟨a',xs',ea,hs',rF⟩:=A9 s0 h1 (show PyData.items? rx.rd=some ps by rw [e];rfl)
    cases ea
    have ex':xs=xs':=by
     rcases hs' with hs'|hs'
     ·exact I.list_inj hs hs'
     ·exfalso
      obtain⟨_,_,⟨o',ho',hc',_⟩,_⟩:=I.tuple hs'
      obtain⟨o,ho,hc,_⟩:=pl.isList
      rw [ho] at ho';cases ho'
      rw [hc] at hc'
      exact absurd hc' (by decide)
    subst ex'
    have hle:its.length=ps.length:=by rw [<-r.length,rvv.length]
    have at_:∀(i:Nat) (vi:AA),its.toArray[i]?=some vi->∃(p:PV) (x:V),ps[i]?=some p/\B5 X.K H p x/\l8 x vi/\B5 X.K F p x:=fun i vi hi=>by
     have hi':its[i]?=some vi:=by simpa using hi
     obtain⟨hlt,e1⟩:=As.mp hi'
     obtain⟨x,ex,rx⟩:=a2c rvv hlt
     obtain⟨p,ep,hp⟩:=r.getV ex
     obtain⟨p',ep',hp'⟩:=rF.getV ex
     rw [ep] at ep';cases ep'
     rw [e1] at rx
     exact⟨p,x,ep,hp,rx,hp'⟩
    refine b3g hh pl.isList (by simp;lia) (btV ps) (fun h tk hK i j vi vj hi hj=> ?_) fun v h' tk hv hK=> ?_
    ·obtain⟨p,x,ep,hp,rx,_⟩:=at_ i vi hi
     obtain⟨q,y,eq,hq,ry,_⟩:=at_ j vj hj
     have h3:=List.all_eq_true.mp (List.all_eq_true.mp c3 p (BC ep)) q (BC eq)
     obtain⟨b,hb⟩:=Option.isSome_iff_exists.mp h3
     have:btV ps i j=b:=by simp [btV,ep,eq,hb]
     rw [this]
     exact b8S (I.kept (t':=tk) hK) 50 X.A.in1 p q x y _ _ b (by rw [a16];lia) (u9 c1 (BC ep)) (u9 c1 (BC eq)) hb hp hq rx ry
    ·obtain⟨q,y,eq,_,ry,hq'⟩:=at_ _ v hv
     have:its.toArray.size=ps.length:=by simp [hle]
     rw [this,hq] at eq
     cases eq
     exact⟨y,H,I.kept (t':=tk) hK,ry,k _ F H (r9.here s0 hq')⟩
  ·cases h2
 ·cases h2
end
end PU
namespace TS
open PySem PyProof.Rows
section
variable {prog:AL}{w:AJ}{A:AM}{E:AA->AC->Prop}{s:AC}
variable {κ:SortKind}{S:Keyed->Prop}{R:Keyed->Keyed->Bool}
end
section
variable {prog:AL}{w:AJ}{A:AM}{E:AA->AC->Prop}{s:AC}
variable {κ:SortKind}{S:Keyed->Prop}{R:Keyed->Keyed->Bool}{a₀:Array Keyed}
end
section
variable {R:Keyed->Keyed->Bool}{W out la lb xs:List Keyed}
end
section
variable {prog:AL}{w:AJ}{A:AM}{E:AA->AC->Prop}{s:AC}
variable {κ:SortKind}{S:Keyed->Prop}{R:Keyed->Keyed->Bool}
section
variable {a b o:Array Keyed}{st st':SortSt}{i j mg u v x₀ x:Nat}
end
section
variable {a b:Array Keyed}{st st':SortSt}{x₀ x mg:Nat}
end
end
section
variable {R:Keyed->Keyed->Bool}{W out la lb xs:List Keyed}
end
section
variable {prog:AL}{w:AJ}{A:AM}{E:AA->AC->Prop}{s:AC}
variable {κ:SortKind}{S:Keyed->Prop}{R:Keyed->Keyed->Bool}
section
variable {a b o:Array Keyed}{st st':SortSt}{i j mg u v x₀ x:Nat}
end
section
variable {a b:Array Keyed}{st st':SortSt}{x₀ x mg:Nat}
end
end
section
variable {prog:AL}{w:AJ}{A:AM}{E:AA->AC->Prop}{s:AC}
variable {κ:SortKind}{S:Keyed->Prop}{R:Keyed->Keyed->Bool}{a₀:Array Keyed}
end
section
variable {R:Keyed->Keyed->Bool}{a b:Array Keyed}
end
section
variable {prog:AL}{w:AJ}{A:AM}{E:AA->AC->Prop}{s:AC}
variable {κ:SortKind}{S:Keyed->Prop}{R:Keyed->Keyed->Bool}{a₀:Array Keyed}
end
open PySem PySem.Spec PyProof.Rows
section
variable {prog:AL}{w:AJ}{A:AM}{E:AA->AC->Prop}{s:AC}
variable {κ:SortKind}{S:Keyed->Prop}{R:Keyed->Keyed->Bool}
end
open PySem PySem.Spec PyProof.Rows L2 PU
section
variable {prog:AL}{w:AJ}{A:AM}{E:AA->AC->Prop}{s:AC}
variable {κ:SortKind}{S:Keyed->Prop}{R:Keyed->Keyed->Bool}
end
end TS
namespace PU
open PySem PySem.Spec PyProof.Rows L2
section
variable {α:Type}{lt:α->α->Bool}
end
open PySem PySem.Spec PyProof.Rows L2 PySem.W
section
variable {prog:AL}{w:AJ}{A:AM}{E:AA->AC->Prop}{s:AC}
end
section
variable {prog:AL}{w:AJ}{A:AM}{E:AA->AC->Prop}{s:AC}
end
section
variable {X:Cx}{pins:List (AB×Obj)}{σ:L2.St}{F H:Hp}{s:AC}
end
section
variable {X:Cx}
end
section
variable {X:Cx}
end
section
variable {X:Cx}
end
section
variable {prog:AL}{w:AJ}{A:AM}{E:AA->AC->Prop}{s:AC}{it d:AB}{i ep:Nat}{es:Array DictEntry}
end
end PU
namespace TS
open PySem PySem.Spec PyProof.Rows L2 PU
section
variable {prog:AL}{w:AJ}{A:AM}{E:AA->AC->Prop}{s:AC}
variable {κ:SortKind}{S:Keyed->Prop}{R:Keyed->Keyed->Bool}
end
end TS
namespace PU
open PySem PySem.Spec PyProof.Rows L2 PySem.W
section
variable {prog:AL}{w:AJ}{A:AM}{E:AA->AC->Prop}{s:AC}
end
section
variable {X:Cx}
end
open PySem PySem.Spec PyProof.Rows L2
section
variable {X:Cx}{pins:List (AB×Obj)}{σ:L2.St}{H:Hp}{s:AC}{a b:AB}{kvs:List (List m3×V)}{k:List m3}{v:V}{r:AA}{A:AM}{E:AA->AC->Prop}
end
section
variable {X:Cx}
end
section
variable {K:AE}{F:Hp}{a:AB}{xs:List V}
end
section
variable {X:Cx}
end
section
variable {X:Cx}
end
section
variable {X:Cx}
end
section
variable {X:Cx}{tg:AG}
end
section
variable {prog:AL}{w:AJ}{A:AM}{E:AA->AC->Prop}{s:AC}
end
section
variable {X:Cx}{pins:List (AB×Obj)}{σ:L2.St}{A:AM}{R:Result->AC->Prop}
end
section
variable {X:Cx}
end
section
variable {X:Cx}
end
section
variable {X:Cx}
end
open Builtin Builtin.Str
section
variable {prog:AL}{w:AJ}{A:AM}{E:AA->AC->Prop}{s:AC}{x y:Str}{t u:Tok}{Q:AA->AC->Prop}
end
section
variable {X:Cx}
end
structure Chg(fs ex:List AB)(h h':Heap):Prop where
 keep:∀b o,h.get? b=some o->b∉fs->b∉ex->h'.get? b=some o
 slot:∀b o,h.get? b=some o->b∈fs->b∉ex->∃sl,h'.get? b=some {o with slots:=sl}
 size:h.objs.size<=h'.objs.size
structure ExT(h:Heap)(e C T:AB)(fl:AA)(dd:Option AB):Prop where
 obj:∃oe vs,h.get? e=some oe/\oe.cls= .ref C/\oe.data= .fields vs/\vs[1]?=some (.ref T)/\oe.dict=dd
 ne:T≠e
 tb:∃oT ts,h.get? T=some oT/\oT.data= .fields ts/\ts[3]?=some fl
def Ex0(h:Heap)(e C:AB)(dd:Option AB):Prop:=∃oe vs,h.get? e=some oe/\oe.cls= .ref C/\oe.data= .fields vs/\vs[1]?=some .none/\oe.dict=dd
theorem b2O(f:Array AA->Array AA)(o:Obj):(Obj.mapFields f o).dict=o.dict:=by
 obtain⟨c,d,dt,sl⟩:=o
 cases dt<;>rfl
section
variable {M:Model}{A:AM}{E:AA->AC->Prop}{s:AC}{base:Heap}{env:Env}{outer:List Env}{L e C:AB}{dd:Option AB}
theorem a7J{oe:Obj}{vs:Array AA}{head:AA}{hadNext:Bool}{Q:Unit->AC->Prop}(hfr:A.frames=some (env::outer))(hl:s.heap.FunFrames base (env::outer))(hf:env.frame=some L)
 (he:s.heap.get? e=some oe) (hc:oe.cls= .ref C) (hd:oe.data= .fields vs) (hdn:oe.dict=dd) (hsz:1<vs.size)
 (k:∀T h',s.heap.objs.size<=T->ExT h' e C T (rawInt L) dd->Chg ((env::outer).filterMap (·.frame)) [e] s.heap h'->Q () {s with heap:=h'}):
 AF M A (do let a<-frameOf env;let pl<-entryPlaceOf L hadNext;let b<-EntryCells.newEntry head a .none (rawInt L) .none pl;setField (.ref e) 1 b) Q E s:=by
 have hef:e∉(env::outer).filterMap (·.frame):=fun hm=>by
  obtain⟨_,o,ho,hnf⟩:=hl.mem hm
  rw [he] at ho
  cases ho
  exact hnf vs hd
 refine AD (wpAny_frameOf_fun hfr hl hf fun h₁ hs₁=> ?_)
 refine AD (wpAny_entryPlaceOf fun pl hpl=> ?_)
 unfold EntryCells.newEntry newFields
 refine AD (wpAny_newObj_type ?_ (hpl.sizeOk5 _ _ _ _ _))
 generalize hT:({cls:= .type "traceback",dict:=none,data:= .fields ([head,.ref L,.none,rawInt L,.none]++(if pl.isEmpty then AV 6 Value.none else pl)).toArray}:Obj)=oT
 have he₁:h₁.get? e=some oe:=(hs₁.2.1 e hef).trans he
 have he₂:=Ab (h:=h₁) oT he₁
 have hTe:h₁.objs.size≠e:=Nat.ne_of_gt (Af he₁)
 have hd₃:=Obj.data_mapFields hd (·.setIfInBounds 1 (Value.ref h₁.objs.size))
 have he₃:=Heap.get?_update_self (Obj.mapFields (·.setIfInBounds 1 (Value.ref h₁.objs.size))) he₂ (Obj.isFreed_of_fields hd₃)
 have oth:∀b o,b≠e->h₁.get? b=some o->((h₁.push oT).update e (Obj.mapFields (·.setIfInBounds 1 (Value.ref h₁.objs.size)))).get? b=some o:=fun b o hb hbo=>by
  rw [Heap.get?_update_other _ _ (Ne.symm hb)]
  exact Ab _ hbo
 have hT3:((h₁.push oT).update e (Obj.mapFields (·.setIfInBounds 1 (Value.ref h₁.objs.size)))).get? h₁.objs.size=some oT:=by
  rw [Heap.get?_update_other _ _ (Ne.symm hTe)]
  exact Ao h₁ (by rw [<-hT];rfl)
 refine wpAny_setField he₂ hd hsz (k h₁.objs.size _ (Nat.le_of_eq hs₁.1.symm) ⟨⟨_,_,he₃,(Obj.cls_mapFields _ _).trans hc,hd₃,by simp [hsz],(b2O _ _).trans hdn⟩,hTe,oT,_,hT3,by rw [<-hT], ?_⟩ ⟨fun b o hb hbf hbe=> ?_,fun b o hb hbf hbe=> ?_, ?_⟩)
 ·rcases hpl with rfl|⟨_,_,_,_,_,_,_,rfl⟩<;>simp
 ·exact oth b o (fun z=>hbe (by rw [z];exact List.mem_singleton.mpr rfl)) ((hs₁.2.1 b hbf).trans hb)
 ·obtain⟨sl,hs⟩:=hs₁.2.2 b o hb
  exact⟨sl,oth b _ (fun z=>hbe (by rw [z];exact List.mem_singleton.mpr rfl)) hs⟩
 ·rw [Heap.size_update,Heap.size_push,hs₁.1];lia
theorem b07{Q:Unit->AC->Prop}(hfr:A.frames=some (env::outer))(hl:s.heap.FunFrames base (env::outer))(hf:env.frame=some L)(x:Ex0 s.heap e C dd)
 (k:∀T h',s.heap.objs.size<=T->ExT h' e C T (rawInt L) dd->Chg ((env::outer).filterMap (·.frame)) [e] s.heap h'->Q () {s with heap:=h'}):AF M A (noteFrame (.ref e) env) Q E s:=by
 obtain⟨oe,vs,he,hc,hd,h1,hdn⟩:=x
 unfold noteFrame
 simp only [hf]
 refine AD (wpAny_field he hd h1 ?_)
 rw [if_neg (by decide)]
 exact a7J hfr hl hf he hc hd hdn (Array.getElem?_eq_some_iff.mp h1).1 k
theorem a8n{fl:AA}{T:AB}{Q:Unit->AC->Prop}(x:ExT s.heap e C T fl dd)(fr:Option AB)(k:∀h',ExT h' e C T (fr.elim .none fun f=>rawInt f) dd->Chg [] [T] s.heap h'->h'.objs.size=s.heap.objs.size->Q () {s with heap:=h'}):AF M A (setFlight (.ref e) fr) Q E s:=by
 obtain⟨⟨oe,vs,he,hc,hd,h1,hdn⟩,hne,oT,ts,hT,hdT,h3⟩:=x
 have hsz:=(Array.getElem?_eq_some_iff.mp h3).1
 unfold setFlight
 refine AD (wpAny_field he hd h1 ?_)
 rw [if_pos (show(Value.ref T !=Value.none)=true from by simp)]
 refine wpAny_setField hT hdT hsz (k _ ⟨⟨oe,vs, ?_,hc,hd,h1,hdn⟩,hne,_,_,Heap.get?_update_self _ hT (Obj.isFreed_of_fields (Obj.data_mapFields hdT _)),Obj.data_mapFields hdT _,by simp [hsz]⟩ ⟨fun b o hb _ hbe=> ?_,(fun b o _ hb=>nomatch hb), ?_⟩ ?_)
 ·rw [Heap.get?_update_other _ _ hne];exact he
 ·rw [Heap.get?_update_other _ _ (fun z=>hbe (by rw [<-z];exact List.mem_singleton.mpr rfl))];exact hb
 ·rw [Heap.size_update];exact AS _
 ·rw [Heap.size_update]
theorem Chg.trans{fs ex ex':List AB}{h h1 h2:Heap}(x:Chg fs ex h h1)(y:Chg fs ex' h1 h2):Chg fs (ex++ex') h h2 where
 keep:=fun b o e hf hx=>y.keep b o (x.keep b o e hf fun z=>hx (BH _ z)) hf fun z=>hx (BA _ z)
 slot:=fun b o e hf hx=>by
  obtain⟨sl,e1⟩:=x.slot b o e hf fun z=>hx (BH _ z)
  obtain⟨sl2,e2⟩:=y.slot b {o with slots:=sl} e1 hf fun z=>hx (BA _ z)
  exact⟨sl2,e2⟩
 size:=Nat.le_trans x.size y.size
theorem Chg.more{fs fs' ex ex':List AB}{h h':Heap}(x:Chg fs ex h h')(hf:∀b∈fs,b∈fs')(he:∀b∈ex,b∈ex'):Chg fs' ex' h h' where
 keep:=fun b o e h1 h2=>x.keep b o e (fun z=>h1 (hf b z)) fun z=>h2 (he b z)
 slot:=fun b o e h1 h2=>by
  by_cases hb:b∈fs
  ·exact x.slot b o e hb fun z=>h2 (he b z)
  ·exact⟨o.slots,x.keep b o e hb fun z=>h2 (he b z)⟩
 size:=x.size
theorem Chg.funs{fs ex:List AB}{h h':Heap}{l:List Env}(x:Chg fs ex h h')(hl:h.FunFrames base l)(hx:∀b∈ex,∀o,h.get? b=some o->∃vs,o.data= .fields vs):h'.FunFrames base l:=
 hl.of_keeps fun b o hb hnf=>by
  have hbx:b∉ex:=fun z=>by
   obtain⟨vs,hd⟩:=hx b z o hb
   exact hnf vs hd
  by_cases hbf:b∈fs
  ·obtain⟨sl,e⟩:=x.slot b o hb hbf hbx
   exact⟨_,e,rfl⟩
  ·exact⟨o,x.keep b o hb hbf hbx,rfl⟩
theorem a7K{fl:AA}{T:AB}{Q:Unit->AC->Prop}(hfr:A.frames=some (env::outer))(hl:s.heap.FunFrames base (env::outer))(hf:env.frame=some L)(x:ExT s.heap e C T fl dd)(hne:fl≠rawInt L)
 (k:∀T' h',s.heap.objs.size<=T'->ExT h' e C T' (rawInt L) dd->Chg ((env::outer).filterMap (·.frame)) [T,e] s.heap h'->Q () {s with heap:=h'}):AF M A (noteFrame (.ref e) env) Q E s:=by
 obtain⟨⟨oe,vs,he,hc,hd,h1,hdn⟩,hTe,oT,ts,hT,hdT,h3⟩:=x
 have hsz:=(Array.getElem?_eq_some_iff.mp h3).1
 unfold noteFrame
 simp only [hf]
 refine AD (wpAny_field he hd h1 ?_)
 rw [if_pos (show(Value.ref T !=Value.none)=true from by simp)]
 refine AD (wpAny_field hT hdT h3 ?_)
 rw [if_neg (by simpa using hne)]
 refine AD (wpAny_setField hT hdT hsz ?_)
 have c1:Chg ((env::outer).filterMap (·.frame)) [T] s.heap (s.heap.update T (Obj.mapFields (·.setIfInBounds 3 Value.none))):=⟨fun b o hb _ hbe=>by
  rw [Heap.get?_update_other _ _ (fun z=>hbe (by rw [<-z];exact List.mem_singleton.mpr rfl))];exact hb,fun b o hb _ hbe=>⟨o.slots,by
  rw [Heap.get?_update_other _ _ (fun z=>hbe (by rw [<-z];exact List.mem_singleton.mpr rfl))];exact hb⟩,by rw [Heap.size_update];exact AS _⟩
 have hl':=c1.funs hl fun b hb o ho=>by
  rw [List.mem_singleton.mp hb,hT] at ho
  cases ho
  exact⟨ts,hdT⟩
 refine a7J (s:={s with heap:=s.heap.update T (Obj.mapFields (·.setIfInBounds 3 Value.none))}) hfr hl' hf (by rw [Heap.get?_update_other _ _ hTe];exact he) hc hd hdn (Array.getElem?_eq_some_iff.mp h1).1 fun T' h' hT' x' c'=>k T' h' ?_ x' (c1.trans c')
 have:(s.heap.update T (Obj.mapFields (·.setIfInBounds 3 Value.none))).objs.size=s.heap.objs.size:=Heap.size_update ..
 rw [<-this];exact hT'
end
def CX1(P:AL)(w:AJ):CXT:=fun outer H s E e s'=>∃a C T dd H',e= .ref a/\s'.os=s.os/\AllBare s'.gens/\Un (frs outer) [] H H' s.heap s'.heap/\HOk P w H' s'.heap/\
 s.heap.get? a=none/\s.heap.get? T=none/\H' a=none/\H' T=none/\ExT s'.heap a C T .none dd/\E (.ref C) dd H'
theorem ExT.thereT{h:Heap}{e C T:AB}{fl:AA}{dd:Option AB}(x:ExT h e C T fl dd):∃o,h.get? T=some o:=by obtain⟨o,_,h1,_⟩:=x.tb;exact⟨o,h1⟩
theorem a8v{P:AL}{w:AJ}{H:Hp}{h h':Heap}{fs ex:List AB}(x:HOk P w H h)(c:Chg fs ex h h')(hf:∀b∈fs,H b=none)(he:∀b∈ex,H b=none):HOk P w H h':=fun a o e=>
 (x a o e).stay (fun b u hb q=>by
  have hn:∃z,H b=some z:=by
   rcases hb with rfl|hb
   ·exact⟨_,e⟩
   ·exact⟨_,hb⟩
  obtain⟨z,hz⟩:=hn
  exact c.keep b u q (fun m=>by rw [hf b m] at hz;cases hz) fun m=>by rw [he b m] at hz;cases hz) (fun _ q=>q) fun _ _ q=>q
theorem b5L{fs ex fs':List AB}{H H1:Hp}{h h1 h2:Heap}(u:Un fs [] H H1 h h1)(c:Chg fs' ex h1 h2)(hfs:∀b∈fs',b∈fs\/h.objs.size<=b)(hex:∀b∈ex,h.get? b=none):Un fs [] H H1 h h2 where
 keep:=fun b o e hn hf hx=>by
  have hlt:b<h.objs.size:=Af e
  refine c.keep b o (u.keep b o e hn hf hx) (fun m=> ?_) fun m=>by rw [hex b m] at e;cases e
  rcases hfs b m with h|h
  ·exact hf h
  ·exact Nat.lt_irrefl _ (Au hlt h)
 slot:=fun b o e hn hf hx=>by
  have hlt:b<h.objs.size:=Af e
  obtain⟨sl,e1⟩:=u.slot b o e hn hf hx
  by_cases hb:b∈fs'
  ·obtain⟨sl2,e2⟩:=c.slot b {o with slots:=sl} e1 hb fun m=>by rw [hex b m] at e;cases e
   exact⟨sl2,e2⟩
  ·exact⟨sl,c.keep b _ e1 hb fun m=>by rw [hex b m] at e;cases e⟩
 free:=u.free
 there:=fun b o e hx=>by
  obtain⟨o1,e1⟩:=u.there b o e hx
  by_cases hb:b∈ex
  ·rw [hex b hb] at e;cases e
  ·by_cases hb2:b∈fs'
   ·obtain⟨sl,e2⟩:=c.slot b o1 e1 hb2 hb
    exact⟨_,e2⟩
   ·exact⟨_,c.keep b o1 e1 hb2 hb⟩
 tups:=u.tups
 frzs:=u.frzs
 tbls:=u.tbls
section
variable {P:AL}{w:AJ}{K:AE}{mg:Str->Option AA}{base:Heap}{N:List Str}{qual:Str}{scope:Scope}{f:AB}{cd:AA}{A:AM}{outer:List Env}{s:AC}{H:Hp}{E:XK}
theorem a1H{pins:List (AB×Obj)}{σ:L2.St}{H2:Hp}{s2:AC}{a C:AB}{dd:Option AB}(I:e9 (a1k (CX1 P w) P w K mg base N qual scope f cd A outer s H E) pins σ H2 s2)(x:Ex0 s2.heap a C dd)(ha:s.heap.get? a=none)(hn:H2 a=none)(hE:E (.ref C) dd H2):
 (a1k (CX1 P w) P w K mg base N qual scope f cd A outer s H E).xe (.ref a) s2:=by
 show AF (model P w) _ (leaving (envOfC qual scope s.heap.objs.size f cd) (.ref a)) _ _ s2
 unfold leaving
 have hfree:∀b∈(envOfC qual scope s.heap.objs.size f cd::outer).filterMap (·.frame),H2 b=none:=I.stkFree
 refine AD (b07 I.ok.frames I.stack rfl x fun T h1 hT x1 c1=> ?_)
 refine a8n x1 none fun h2 x2 c2 _=> ?_
 have hTn:H2 T=none:=I.hok.fresh hT
 have c:Chg ((envOfC qual scope s.heap.objs.size f cd::outer).filterMap (·.frame)) ([a]++[T]) s2.heap h2:=c1.trans (c2.more (fun b hb=>nomatch hb) fun b hb=>hb)
 have hsz:s.heap.objs.size<=s2.heap.objs.size:=I.sz
 have hex:∀b∈[a]++[T],s.heap.get? b=none:=fun b hb=>by
  rcases BB.mp hb with h|h<;>rw [List.mem_singleton.mp h]
  ·exact ha
  ·exact Heap.get?_none_of_le (Nat.le_trans hsz hT)
 refine⟨a,C,T,dd,H2,rfl,I.os,I.bare,b5L I.base c (fun b hb=> ?_) hex,a8v I.hok c hfree fun b hb=> ?_,ha,Heap.get?_none_of_le (Nat.le_trans hsz hT),hn,hTn,x2,hE⟩
 ·rcases Ag.mp (I.stkSub b hb) with h|h
  ·exact .inr (by rw [h];exact I.ok.above)
  ·exact .inl h
 ·rcases BB.mp hb with h|h<;>rw [List.mem_singleton.mp h]
  ·exact hn
  ·exact hTn
theorem b0V:a5v (CX1 P w) (a1k (CX1 P w) P w K mg base N qual scope f cd A outer s H E) E:=by
 intro pins σ H1 s1 e s' I h
 obtain⟨a,C,T,dd,H2,rfl,ho,hb,un,hok,ha,hT,hn,hTn,x,hE⟩:=h
 have J:e9 (a1k (CX1 P w) P w K mg base N qual scope f cd A outer s H E) pins σ H2 s':=I.call' (ch:=[]) ho un hok hb fun b z=>nomatch z
 show AF (model P w) _ (leaving (envOfC qual scope s.heap.objs.size f cd) (.ref a)) _ _ s'
 unfold leaving
 have hfree:∀b∈(envOfC qual scope s.heap.objs.size f cd::outer).filterMap (·.frame),H2 b=none:=J.stkFree
 refine AD (a7K J.ok.frames J.stack rfl x (by simp [rawInt]) fun T' h1 hT' x1 c1=> ?_)
 refine a8n x1 none fun h2 x2 c2 _=> ?_
 have hTn':H2 T'=none:=J.hok.fresh hT'
 have c:Chg ((envOfC qual scope s.heap.objs.size f cd::outer).filterMap (·.frame)) ([T,a]++[T']) s'.heap h2:=c1.trans (c2.more (fun b hb=>nomatch hb) fun b hb=>hb)
 have hsz:s.heap.objs.size<=s'.heap.objs.size:=J.sz
 have back:∀b,s1.heap.get? b=none->s.heap.get? b=none:=fun b hb=>by
  cases h:s.heap.get? b with
  |none=>rfl
  |some o=>
   obtain⟨o',e⟩:=I.base.there b o h (fun z=>nomatch z)
   rw [hb] at e;cases e
 have mem:∀b∈[T,a]++[T'],b=T\/b=a\/b=T':=fun b hb=>by simpa using hb
 obtain⟨oT,hoT⟩:=x.thereT
 refine⟨a,C,T',dd,H2,rfl,J.os,J.bare,b5L J.base c (fun b hb=> ?_) (fun b hb=> ?_),a8v J.hok c hfree fun b hb=> ?_,back a ha,Heap.get?_none_of_le (Nat.le_trans hsz hT'),hn,hTn',x2,hE⟩
 ·rcases Ag.mp (J.stkSub b hb) with h|h
  ·exact .inr (by rw [h];exact J.ok.above)
  ·exact .inl h
 ·rcases mem b hb with rfl|rfl|rfl
  ·exact back _ hT
  ·exact back _ ha
  ·exact Heap.get?_none_of_le (Nat.le_trans hsz hT')
 ·rcases mem b hb with rfl|rfl|rfl
  ·exact hTn
  ·exact hn
  ·exact hTn'
end
theorem a5u{P:AL}{w:AJ}{H:Hp}{h:Heap}{a:AB}:∀{o:HO},A7 P w H h a o->∃ob,h.get? a=some ob
 | .lst _,⟨_,_,_,_,e⟩=>⟨_,e⟩
 | .tup _,⟨_,_,_,o,e,_⟩=>⟨_,e⟩
 | .dK _,⟨_,_,_,_,o,_,_,e,_⟩=>⟨_,e⟩
 | .dT _,⟨_,_,_,_,o,_,_,e,_⟩=>⟨_,e⟩
 | .set _ _,⟨o,_,_,_,e,_⟩=>⟨_,e⟩
 | .ins _ _ _,⟨_,_,_,e,_⟩=>⟨_,e⟩
 | .own _,⟨_,e⟩=>⟨_,e⟩
 | .xd _,⟨_,⟨_,_,_,e,_⟩,_⟩=>⟨_,e⟩
 | .rng _ _,⟨_,_,_,e⟩=>⟨_,e⟩
 | .frz _ _,⟨e,_⟩=>⟨_,e⟩
 | .tbl _,e=>⟨_,e⟩
 | .met _ _,e=>⟨_,e⟩
 | .ext _,⟨_,e,_⟩=>e
def a3r:List AA:=[.type "ValueError",.type "Exception",.type "BaseException",.type "object"]
def b3K(C:AB)(h:Heap):Prop:=∃tl N nm q bs hdct sn sub ab col dd k0 k1 k2 k3 k5,
 h.get? C=some (excClassObj nm q C N bs tl hdct sn sub ab col dd k0 k1 k2 k3 k5 "ValueError.__new__")/\OwnTail h a3r tl
def b75(C:AB)(h:Heap):Prop:=∃tl N nm q bs hdct sn sub ab col dd k0 k1 k2 k3 k5 mN,
 h.get? C=some (excClassObj nm q C N bs tl hdct sn sub ab col dd k0 k1 k2 k3 k5 "ValueError.__new__")/\h.Ns N mN/\mN "__init__"=none/\OwnTail h a3r tl
section
variable {X:Cx}{x:Str}{C:AB}{np cpos pos:Pos}{e₀:AG}{rest:List AG}{t:TA}{W:Hp->Prop}
theorem b5j(hc:X.calm=true)(hx0:X.ex=[])(hg:Gl X x)(hm:X.mg x=some (.ref C))(hX:b75 C X.base)(ha:PA X (e₀::rest) t)
 (hxe:∀(pins:List (AB×Obj)) (σ:L2.St) (H:Hp) (s:AC) (a:AB),e9 X pins σ H s->Ex0 s.heap a C none->X.s₀.heap.get? a=none->H a=none->W H->X.xe (.ref a) s)
 (he:AN (e₀::rest) X.env=(false,eval e₀ X.env)::AN rest X.env:=by rfl) (hplain:(backTo cpos (AN rest X.env)).any (·.1)=false:=by rfl) (hdb:(x==("__debug__":Str))=false:=by decide):
 PS X (.Raise (some (.Call (.Name x np) (e₀::rest) [] cpos)) none pos) (fun _ σ H=>t σ H fun vs H1=>vs.length<=AO/\W H1):=by
 intro pins s σ H D I h
 obtain⟨tl,N,nm,q,bs,hdct,sn,sub,ab,col,dd,k0,k1,k2,k3,k5,mN,hC,hN,hni,T⟩:=hX
 have FB:=F.excBase_ValueError
 refine wpAny_Raise_call_subT (C:=C) (nm:=nm) (q:=q) (N:=N) (bs:=bs) (bm:=tl) (hdct:=hdct) (sn:=sn) (sub:=sub) (ab:=ab) (col:=col) (dd:=dd) (k0:=k0) (k1:=k1) (k2:=k2) (k3:=k3) (k5:=k5)
  FB (mN:=mN) (T.hasType FB.hasBase) (I.ok.hd hc) (by rw [he];show(false||(backTo cpos (AN rest X.env)).any (·.1))=false;rw [hplain];rfl) hni (X6 I hg hm ⟨rfl, ?_⟩ hdb)
 have hA:=ha cpos pins s σ H _ I h
 rw [he] at hA ⊢
 refine Calls.evalArgs_plain (B8 hA fun us s2 h0=>a5f h0 fun vs H2 I2 r2 hl q2=>⟨rfl,by rw [<-r2.length];exact hl,I2.bk _ _ hC,hN.keeps I2.bk,T.keeps I2.bk,fun h' a hmk=> ?_⟩)
 obtain⟨tt,h1,_,_⟩:=hmk.there
 have hn:H2 a=none:=by
  cases h:H2 a with
  |none=>rfl
  |some o=>
   obtain⟨ob,e⟩:=a5u (I2.hok a o h)
   rw [hmk.new] at e;cases e
 have h0:X.s₀.heap.get? a=none:=by
  cases h:X.s₀.heap.get? a with
  |none=>rfl
  |some o=>
   obtain⟨o',e⟩:=I2.base.there a o h (fun z=>by rw [hx0] at z;cases z)
   rw [hmk.new] at e;cases e
 have I3:e9 X pins σ H2 {s2 with heap:=h'}:=I2.kept (t':=s2.toks) hmk.keeps
 exact hxe pins σ H2 {s2 with heap:=h'} a I3 ⟨_,_,h1,rfl,rfl,rfl,rfl⟩ h0 hn q2
end
section
variable {prog:AL}{w:AJ}{A:AM}{E:AA->AC->Prop}{h:Heap}{g:Array GenState}{d:Drawn}{t:Nat}{os:OsState}
variable {nm q:Str}{C N:AB}{bs bm bmB:List AA}{hdct:Bool}{sn:List Str}{sub:List AA}{ab:Bool}{col:Option Bool}{dd:Option AB}{k0 k1 k2 k3 k5:Option AA}{B newId initId:String}
theorem a5a(F:ExcBaseFacts B newId initId bmB)(T:OwnTail h bmB bm){mN:Str->Option AA}{rest:List AA}{fI:AB}{oI:Obj}{Q:PySem.Fin->AC->Prop}
 (hC:h.get? C=some (excClassObj nm q C N bs bm hdct sn sub ab col dd k0 k1 k2 k3 k5 newId)) (hn:h.Ns N mN) (hi:mN "__init__"=some (.ref fI))
 (hfI:h.get? fI=some oI) (hfc:oI.cls= .type "function")
 (hq:∀h' e,Heap.MadeExcOf h h' e (.ref C) rest->
  AF (model prog w) A (call (.ref fI) (.ref e::rest)) (fun r s'=>r= .none/\Q (.done (.ret (.ref e))) s') E ⟨h',g,d,t,os⟩) (hrest:rest.length<=AO):
 AF (model prog w) A (Builtin.«type.__call__» ⟨.ref C::rest,[]⟩) Q E ⟨h,g,d,t,os⟩:=by
 repeat (first|with_reducible refine wpAny_loadPart_at hC ?_|with_reducible refine wpAny_madeBy_exc hC ?_|wp_step)
 refine codeAny_call_builtin_code (Code.quiet_builtin _ F.quiet) (wpAny_check_new_subT F T hC ?_)
 refine codeAny_exc_new_subT F T hC ?_ hrest
 show AF _ _ _ _ _ _
 have hC₁:=Ab {cls:= .ref C,data:= .fields #[.ref h.objs.size,.none,.none,.none,.bool false,.none]}
  (Ab {cls:= .type "tuple",data:= .seq rest.toArray} hC)
 have hfI₁:=Ab {cls:= .ref C,data:= .fields #[.ref h.objs.size,.none,.none,.none,.bool false,.none]}
  (Ab {cls:= .type "tuple",data:= .seq rest.toArray} hfI)
 have hn₁:((h.push {cls:= .type "tuple",data:= .seq rest.toArray}).push {cls:= .ref C,data:= .fields #[.ref h.objs.size,.none,.none,.none,.bool false,.none]}).Ns N mN:=
  let ⟨o,es,ep,e,r⟩:=hn;⟨o,es,ep,Ab _ (Ab _ e),r⟩
 have hget:((h.push {cls:= .type "tuple",data:= .seq rest.toArray}).push
  {cls:= .ref C,data:= .fields #[.ref h.objs.size,.none,.none,.none,.bool false,.none]}).get? (h.objs.size+1)=some
  {cls:= .ref C,data:= .fields #[.ref h.objs.size,.none,.none,.none,.bool false,.none]}:=by heap_get
 have hcC:(Value.ref C::bm).contains (.ref C)=true:=by simp
 have T₁:=T.keeps (h':=(h.push {cls:= .type "tuple",data:= .seq rest.toArray}).push {cls:= .ref C,data:= .fields #[.ref h.objs.size,.none,.none,.none,.bool false,.none]})
  fun b o e=>Ab _ (Ab _ e)
 unfold isInstance
 repeat (first|with_reducible refine wpAny_loadPart_at hget ?_|(with_reducible refine wpAny_isSubtype_exc hC₁ ?_;rw [hcC])|wp_step)
 show AF _ _ (typeLookup (.ref C) _) _ _ _
 refine wpAny_typeLookup_tail hC₁ hn₁ T₁ F.mroIs F.init.lookup ?_
 rw [hi]
 refine wpAny_holding (AD ?_)
 unfold bindSpecial
 refine AD (wpAny_typeOf (T:="function") ⟨_,hfI₁,hfc⟩ ?_)
 rw [if_pos (by decide)]
 refine AI (AD (wpAny_mono (hq _ (h.objs.size+1) ⟨fun b o hb=>Ab _ (Ab _ hb),Heap.get?_none_of_le (Nat.le_succ _),h.objs.size,hget,Heap.get?_none_of_le (AS _), ?_⟩) (fun r s' hr=> ?_) fun _ _ x=>x))
 ·exact Ab _ (Heap.get?_push_at rfl rfl)
 ·obtain⟨rfl,hQ⟩:=hr
  wp_walk
  exact hQ
theorem b0D(F:ExcBaseFacts B newId initId bmB)(T:OwnTail h bmB bm){mN:Str->Option AA}{rest:List AA}{fI:AB}{oI:Obj}{Q:AA->AC->Prop}
 (hC:h.get? C=some (excClassObj nm q C N bs bm hdct sn sub ab col dd k0 k1 k2 k3 k5 newId)) (hn:h.Ns N mN) (hi:mN "__init__"=some (.ref fI))
 (hfI:h.get? fI=some oI) (hfc:oI.cls= .type "function")
 (hq:∀h' e,Heap.MadeExcOf h h' e (.ref C) rest->
  AF (model prog w) (A.under (.builtin "type.__call__" ⟨.ref C::rest,[]⟩)) (call (.ref fI) (.ref e::rest)) (fun r s'=>r= .none/\Q (.ref e) s') E ⟨h',g,d,t,os⟩) (hrest:rest.length<=AO):
 AF (model prog w) A (call (.ref C) rest) Q E ⟨h,g,d,t,os⟩:=by
 have f1:=tc_lookup
 have f2:=tc_bind (.ref C)
 have hT:(⟨h,g,d,t,os⟩:AC).TypeIs (.ref C) "type":=⟨_,hC,rfl⟩
 refine wpAny_call (codeAny_of_tree ?_)
 show AF _ _ (callAny (.ref C) _) _ _ _
 repeat (any_goals (first|assumption|with_reducible refine wpAny_loadPart_at hC ?_|wp_step))
 refine⟨rfl, ?_⟩
 refine codeAny_call_builtin_at (Code.quiet_builtin _ (by decide+kernel)) entry_typeCall (wpAny_check_type_call_sub hC (a5a (hrest:=hrest) F T hC hn hi hfI hfc fun h' e hm=> ?_))
 exact hq h' e hm
theorem a2O{M:Model}{env:Env}{s:AC}{x:Sem AA}{Q:Flow->AC->Prop}(hbase:bm.contains (.type "BaseException")=true)(hh:A.handled=none)
 (h:AF M A x (fun v s₁=>∃e oe vs,v= .ref e/\s₁.heap.get? C=some (excClassObj nm q C N bs bm hdct sn sub ab col dd k0 k1 k2 k3 k5 newId)/\
  s₁.heap.get? e=some oe/\oe.cls= .ref C/\oe.data= .fields vs/\vs[1]?=some .none/\E (.ref e) s₁) E s):
 AF M A (raiseStmt env (some x) none) Q E s:=by
 have hcB:(Value.ref C::bm).contains (.type "BaseException")=true:=by rw [List.contains_cons,hbase,Bool.or_true]
 unfold raiseStmt
 refine AD (wpAny_mono h (fun v s₁ h₁=> ?_) fun _ _ x=>x)
 obtain⟨e,oe,vs,rfl,hC,he,hc,hd,h1,hE⟩:=h₁
 obtain⟨oc,od,ods,osl⟩:=oe
 cases hc
 cases hd
 obtain⟨hp,g,d,tk,os⟩:=s₁
 repeat (first|with_reducible refine wpAny_loadPart_at he ?_|with_reducible refine wpAny_loadPart_at hC ?_|(with_reducible refine wpAny_isSubtype_exc hC ?_;rw [hcB])|wp_step)
 rw [h1]
 refine AI ?_
 rw [if_neg (by decide)]
 exact AI (wpAny_raiseNew_none hh hE)
end
section
variable {prog:AL}{w:AJ}{A:AM}{E:AA->AC->Prop}{s:AC}{env:Env}
variable {nm q:Str}{C N:AB}{bs bm bmB:List AA}{hdct:Bool}{sn:List Str}{sub:List AA}{ab:Bool}{col:Option Bool}{dd:Option AB}{k0 k1 k2 k3 k5:Option AA}{B newId initId:String}
theorem b0e(F:ExcBaseFacts B newId initId bmB){mN:Str->Option AA}{x:Str}{np cpos pos:Pos}{args:List AG}{fI:AB}{oI:Obj}{Q:Flow->AC->Prop}
 (hbase:bm.contains (.type "BaseException")=true) (hh:A.handled=none) (hplain:(backTo cpos (AN args env)).any (·.1)=false) (hi:mN "__init__"=some (.ref fI)) (hfc:oI.cls= .type "function")
 (h:AF (model prog w) A (eval (.Name x np) env) (fun f s₁=>f= .ref C/\AF (model prog w) A (evalArgs (.ref C) true (backTo cpos (AN args env)) [])
  (fun a s₂=>a.kw=[]/\a.pos.length<=AO/\s₂.heap.get? C=some (excClassObj nm q C N bs bm hdct sn sub ab col dd k0 k1 k2 k3 k5 newId)/\s₂.heap.Ns N mN/\OwnTail s₂.heap bmB bm/\s₂.heap.get? fI=some oI/\
   ∀h' e,Heap.MadeExcOf s₂.heap h' e (.ref C) a.pos->AF (model prog w) (A.under (.builtin "type.__call__" ⟨.ref C::a.pos,[]⟩)) (call (.ref fI) (.ref e::a.pos))
    (fun r s₃=>r= .none/\s₃.heap.get? C=some (excClassObj nm q C N bs bm hdct sn sub ab col dd k0 k1 k2 k3 k5 newId)/\(∃oe vs,s₃.heap.get? e=some oe/\oe.cls= .ref C/\oe.data= .fields vs/\vs[1]?=some .none)/\E (.ref e) s₃) E {s₂ with heap:=h'}) E s₁) E s):
 AF (model prog w) A (exec (.Raise (some (.Call (.Name x np) args [] cpos)) none pos) env) Q E s:=by
 rw [arm_exec_Raise]
 first
  |refine AD (wpAny_standAt (a2O (C:=C) (nm:=nm) (q:=q) (N:=N) (bs:=bs) (bm:=bm) (hdct:=hdct) (sn:=sn) (sub:=sub) (ab:=ab) (col:=col) (dd:=dd) (k0:=k0) (k1:=k1) (k2:=k2) (k3:=k3) (k5:=k5) (newId:=newId) hbase hh (AD (wpAny_mono (wpAny_Call_ofName (wpAny_mono h (fun f s₁ h₁=> ?_) fun _ _ x=>x)) (fun v s₃ h₃=>AD (wpAny_standAt (AI h₃))) fun _ _ x=>x))))
  |(simp only [evalOpt,Option.map];refine AD (wpAny_standAt (a2O (C:=C) (nm:=nm) (q:=q) (N:=N) (bs:=bs) (bm:=bm) (hdct:=hdct) (sn:=sn) (sub:=sub) (ab:=ab) (col:=col) (dd:=dd) (k0:=k0) (k1:=k1) (k2:=k2) (k3:=k3) (k5:=k5) (newId:=newId) hbase hh (AD (wpAny_mono (wpAny_Call_ofName (wpAny_mono h (fun f s₁ h₁=> ?_) fun _ _ x=>x)) (fun v s₃ h₃=>AD (wpAny_standAt (AI h₃))) fun _ _ x=>x)))))
  |(refine AD (wpAny_standAt (a2O (C:=C) (nm:=nm) (q:=q) (N:=N) (bs:=bs) (bm:=bm) (hdct:=hdct) (sn:=sn) (sub:=sub) (ab:=ab) (col:=col) (dd:=dd) (k0:=k0) (k1:=k1) (k2:=k2) (k3:=k3) (k5:=k5) (newId:=newId) hbase hh ?_));refine AD (wpAny_mono (wpAny_Call_ofName (wpAny_mono h (fun f s₁ h₁=> ?_) fun _ _ x=>x)) (fun v s₃ h₃=>AD (wpAny_standAt (AI h₃))) fun _ _ x=>x))
 obtain⟨rfl,h₁⟩:=h₁
 unfold callWith
 refine AD (wpAny_holding (wpAny_mono h₁ (fun a s₂ h₂=>AD (wpAny_standAt ?_)) fun _ _ x=>x))
 obtain⟨apos,akw⟩:=a
 obtain⟨hkw,hlen,hC,hn,T,hfI,h₂⟩:=h₂
 obtain rfl:akw=[]:=hkw
 obtain⟨hp,g,d,tk,os⟩:=s₂
 simp only [hplain]
 refine AD (wpAny_keeperOf_exc hC ?_)
 refine AD (b0D (hrest:=hlen) F T hC hn hi hfI hfc fun h' e hm=> ?_)
 refine wpAny_mono (h₂ h' e hm) (fun r s₃ h₃=> ?_) fun _ _ x=>x
 obtain⟨r0,hC3,⟨oe,vs,he,hc,hd,h1⟩,hE⟩:=h₃
 exact⟨r0,AD (wpAny_holding (wpAny_point (AI ⟨e,oe,vs,rfl,hC3,he,hc,hd,h1,hE⟩)))⟩
end
open PySem PySem.Spec PyProof.Rows L2 PySem.W Builtin Builtin.ObjectAttr
def a8X:List AA->Bool
 | .ref _::r=>a8X r
 |l=>l==a3r
theorem a7Q(self:AA):∀{l:List AA},a8X l=true->refuseLoop self "__setattr__" l=pure ()
 |[],e=>by cases e
 |v::r,e=>by
  cases v with
  |ref c=>rw [refuseLoop_ref];exact a7Q self (l:=r) e
  |_=>rw [show(_::r)=a3r from beq_iff_eq.mp e];exact PySem.F.store_ValueError.passes self
theorem b0Q(x:String)(hx:a3r.contains (.type x)=true):∀{l:List AA},a8X l=true->l.contains (.type x)=true
 |[],e=>by cases e
 |v::r,e=>by
  cases v with
  |ref c=>rw [List.contains_cons,b0Q x hx (l:=r) e,Bool.or_true]
  |_=>rw [show(_::r)=a3r from beq_iff_eq.mp e];exact hx
def a3X(K:Frag)(C:AB):Bool:=(clsIn K C).any fun cd=>a8X cd.mro && cd.hasDict
section
variable {prog:AL}{w:AJ}{A:AM}{E:AA->AC->Prop}{s:AC}{K:Frag}{x C:AB}
theorem b7U{ox:Obj}{od:Option Obj}{name:Str}{tk:Tok}{v:AA}{R:Result->AC->Prop}(X:K.In s.heap)(I:InstAt s.heap x ox C od)(hp:a3X K C=true)(ht:findIn K (.ref C) name=some none)
 (h:AF (model prog w) A.in1 (storeInOwnDict (.ref x) (.ref C) (.str name tk) name v false)
  (fun fin s'=>match fin with| .done f=>R (.ok f) s'| .again c'=>c'.quiet=true/\codeAny (model prog w) A c' R s') (fun e s'=>R (.error e) s') s):
 codeAny (model prog w) A (.call (.builtin "object.__setattr__") ⟨[.ref x,.str name tk,v],[]⟩) R s:=by
 have SF:=PySem.F.store_object
 obtain⟨cd,hc,ho⟩:=any_some hp
 rw [Bool.and_eq_true] at ho
 have ne:cd.mro.isEmpty=false:=by cases q:cd.mro with|nil=>rw [q] at ho;cases ho.1|cons _ _=>rfl
 have sub:Looks (model prog w) s.heap (isInstance (.ref x) (.type "object")) true:=I.type.andThen (looks_mroIn X (by unfold mroIn;rw [hc,AH,if_neg (by rw [ne];decide),b0Q "object" (by decide) ho.1]))
 refine codeAny_call_builtin SF.slot.plain SF.entry (@check_slot (model prog w) _ _ s "object.__setattr__" "object" "__setattr__" (.ref x) [.str name tk,v] [] _ SF.kind SF.split sub (SF.args (.ref x) (.str name tk) v) ?_)
 have hm:Looks (model prog w) s.heap (mroOf (.ref C)) cd.mro:=(looks_clsIn X hc).andThen .now
 rw [osa_eq,refuse_eq]
 refine AD (AD (I.type.here (AD (hm.here ?_))))
 rw [a7Q _ ho.1]
 refine AI (AD (I.type.here (AD ((looks_findIn X ht).here (AD ((Looks.now (M:=model prog w) (a:=(none:Option AA))).here ?_))))))
 exact h
theorem b1l{name:Str}{v:AA}{vs:Array AA}{sl:Array (Option AA)}{Q:Unit->AC->Prop}(X:K.In s.heap)(hx:s.heap.get? x=some ⟨.ref C,none,.fields vs,sl⟩)(hp:a3X K C=true)(ht:findIn K (.ref C) name=some none)
 (hs:findIn K (.ref C) "__setattr__"=some (some (.builtin "object.__setattr__")))
 (h:∀h' d tk,s.heap.get? d=none->s.heap.objs.size<=d->h'.get? x=some ⟨.ref C,some d,.fields vs,sl⟩->h'.Ns1 d (fun y=>if y=name then some v else none)->(∀b o,b≠x->s.heap.get? b=some o->h'.get? b=some o)->Q () {s with heap:=h',toks:=tk}):
 AF (model prog w) A (setAttr (.ref x) name v) Q E s:=by
 have J:InstAt s.heap x ⟨.ref C,none,.fields vs,sl⟩ C none:=⟨hx,rfl,rfl,trivial⟩
 refine set_plain X J hs (b7U (s:={s with toks:=s.toks+1}) X J hp ht ?_)
 obtain⟨cd,hc,ho⟩:=any_some hp
 rw [Bool.and_eq_true] at ho
 refine AD (AI (AD (AD (wpAny_loadPart hx (AD (Looks.here (s:={s with toks:=s.toks+1}) (looks_clsIn X hc) ?_))))))
 rw [ho.2]
 rw [if_neg (by decide)]
 have hx1:(s.heap.push {cls:= .type "dict",data:= .dict #[]}).get? x=some ⟨.ref C,none,.fields vs,sl⟩:=Ab _ hx
 have hxs:x≠s.heap.objs.size:=Ai (Af hx)
 show AF _ _ (if(!true|| !typeHasDict (.ref C))=true then pure none else _) _ _ _
 rw [if_neg (by simp [typeHasDict])]
 refine AD (wpAny_alloc' (AD (wpAny_update' hx1 (AI ?_))))
 have hgd:((s.heap.push {cls:= .type "dict",data:= .dict #[]}).update x fun o=>{cls:=o.cls,dict:=some s.heap.objs.size,data:=o.data,slots:=o.slots}).get? s.heap.objs.size
  =some {cls:= .type "dict",data:= .dict #[]}:=(Heap.get?_update_ne _ _ _ _ hxs.symm).trans (Heap.get?_push_at rfl rfl)
 have hnd:((s.heap.push {cls:= .type "dict",data:= .dict #[]}).update x fun o=>{cls:=o.cls,dict:=some s.heap.objs.size,data:=o.data,slots:=o.slots}).Ns s.heap.objs.size (fun _=>none):=
  ⟨_, #[],_,hgd,rfl,fun e he=>absurd he (by simp),fun _=>rfl⟩
 show AF _ _ (storeInDict s.heap.objs.size (.str name s.toks) name v) _ _ _
 unfold storeInDict newKeyGuard
 refine AD (AI (AD (wpAny_nsSet1 (Heap.Ns1.of_empty hnd) fun h' hn' hs=> ?_)))
 obtain⟨oD,esD,epD,hoD,hdD,hcD⟩:=hn'.count (Within.cons name v Within.nil)
 refine AD (wpAny_lookBehind hoD (by rw [hdD];exact pastItsLine_dict (Nat.le_trans hcD (by rw [AT,Ae,sizeLine_eq];lia))) ?_)
 refine AI (h h' s.heap.objs.size _ (Heap.get?_none_of_le (AS _)) (AS _) ?_ hn' fun b ob hbx hb=> ?_)
 ·exact(hs.2 x hxs).trans (Heap.get?_update_self _ hx1 rfl)
 ·exact(hs.2 b (Ai (Af hb))).trans ((Heap.get?_update_ne _ _ _ _ hbx).trans (Ab _ hb))
theorem b3x{name:Str}{v:AA}{d:AB}{ox:Obj}{mA:Str->Option AA}{ns:List Str}{Q:Unit->AC->Prop}(X:K.In s.heap)(hx:s.heap.get? x=some ox)(hxc:ox.cls= .ref C)(hxd:ox.dict=some d)(hxf:∃vs,ox.data= .fields vs)(hd:s.heap.Ns1 d mA)(hp:a3X K C=true)(ht:findIn K (.ref C) name=some none)
 (hs:findIn K (.ref C) "__setattr__"=some (some (.builtin "object.__setattr__"))) (hw:Within mA ns) (hsz:ns.length<=AO)
 (h:∀h' tk,h'.Ns1 d (fun y=>if y=name then some v else mA y)->Heap.SameBut d s.heap h'->Q () {s with heap:=h',toks:=tk}):
 AF (model prog w) A (setAttr (.ref x) name v) Q E s:=by
 obtain⟨od,hod,hl⟩:=a7w hd
 obtain⟨vs,hxf⟩:=hxf
 have J:InstAt s.heap x ox C (some od):=⟨hx,hxc,by unfold notCls;rw [hxf],by rw [hxd];exact hod⟩
 refine set_plain X J hs (b7U (s:={s with toks:=s.toks+1}) X J hp ht ?_)
 obtain⟨cd,hc,ho⟩:=any_some hp
 rw [Bool.and_eq_true] at ho
 obtain⟨oc,oD,ods,osl⟩:=ox
 cases hxc
 cases hxd
 cases hxf
 refine AD (AI (AD (AD (wpAny_loadPart hx (AD (Looks.here (s:={s with toks:=s.toks+1}) (looks_clsIn X hc) ?_))))))
 rw [ho.2]
 refine AI (a:=some d) (AD (AI (AD ?_)))
 refine wpAny_nsSet1 (s:={s with toks:=s.toks+1}) hd fun h' hn2 hs2=> ?_
 obtain⟨oD,esD,epD,hoD,hdD,hcD⟩:=hn2.count (Within.cons name v hw)
 refine AD (wpAny_lookBehind hoD (by rw [hdD];exact pastItsLine_dict (Nat.le_trans hcD (by rw [AT];lia))) ?_)
 exact AI (h _ _ hn2 hs2)
theorem c03{name:Str}{v:AA}{d:AB}{ox:Obj}{mA:Str->Option AA}{expr:Bool}{Q:AA->AC->Prop}(X:K.In s.heap)(hx:s.heap.get? x=some ox)(hxc:ox.cls= .ref C)(hxd:ox.dict=some d)(hxf:∃vs,ox.data= .fields vs)(hd:s.heap.Ns1 d mA)(hp:a3X K C=true)(ht:findIn K (.ref C) name=some none)
 (hga:findIn K (.ref C) "__getattribute__"=some (some (.builtin "BaseException.__getattribute__"))) (hgg:findIn K (.ref C) "__getattr__"=some none)
 (hv:mA name=some v) (hv':handedIn v=true) (h:Q v {s with toks:=s.toks+1}):
 AF (model prog w) A (getAttr (.ref x) name expr) Q E s:=by
 obtain⟨od,hod,hl⟩:=a7w hd
 obtain⟨vs,hxf⟩:=hxf
 have J:InstAt s.heap x ox C (some od):=⟨hx,hxc,by unfold notCls;rw [hxf],by rw [hxd];exact hod⟩
 obtain⟨cd,hc,ho⟩:=any_some hp
 rw [Bool.and_eq_true] at ho
 have ne:cd.mro.isEmpty=false:=by cases q:cd.mro with|nil=>rw [q] at ho;cases ho.1|cons _ _=>rfl
 have hh:hasDictIn K C=true:=by unfold hasDictIn;rw [hc];exact ho.2
 have L0:=J.type (M:=model prog w)
 have L1:=looks_find (M:=model prog w) X J (findObj_own hh ht rfl (by rw [hl,hv]))
 have sub:Looks (model prog w) s.heap (isInstance (.ref x) (.type "BaseException")) true:=J.type.andThen (looks_mroIn X (by unfold mroIn;rw [hc,AH,if_neg (by rw [ne];decide),b0Q "BaseException" (by decide) ho.1]))
 have G:=F.attrBase_ValueError.ga
 refine AD (wpAny_mkText (wpAny_holding (AD (L0 _ _ _ _ (fun _ _ e=>e) (AD (looks_findIn X hga _ _ _ _ (fun _ _ e=>e) ?_))))))
 dsimp only
 rw [show(onTheHeap (.ref C)&& Value.builtin "BaseException.__getattribute__"==Value.builtin "object.__getattribute__")=false from by rw [show(Value.builtin "BaseException.__getattribute__"==Value.builtin "object.__getattribute__")=false from by decide+kernel,Bool.and_false],if_neg (by decide)]
 refine AD (looks_hook X (by rw [if_pos (show onTheHeap (.ref C)=true from rfl)];exact hgg) _ _ _ _ (fun _ _ e=>e) (AD (wpAny_attempt (wpAny_holding ?_))))
 unfold callGetattribute
 rw [show(expr && onTheHeap (Value.builtin "BaseException.__getattribute__"))=false from Bool.and_false _,if_neg (by decide)]
 unfold boundAndCalled
 rw [G.bind]
 refine AD (AI ?_)
 show AF _ _ (call (.builtin "BaseException.__getattribute__") [.ref x,.str name s.toks]) _ _ _
 refine wpAny_call ?_
 refine codeAny_call_builtin G.plain F.entry_bexc_ga ?_
 refine @check_slot (model prog w) _ _ {s with toks:=s.toks+1} "BaseException.__getattribute__" "BaseException" "__getattribute__" (.ref x) [.str name s.toks] [] _ (by decide+kernel) (by decide+kernel) sub (F.args_bexc_ga (.ref x) (.str name s.toks)) ?_
 obtain⟨hh',g,dr,t,os⟩:=s
 refine AD (AI (AD (AI (AD (L0.at (AD (L1.at ?_)))))))
 refine AI ?_
 show AF _ _ (handedOut v) _ _ _
 rw [handedOut_of hv'];exact AI h
end
theorem b7y{fs ex0 ex fs':List AB}{H H1:Hp}{h h1 h2:Heap}(u:Un fs ex0 H H1 h h1)(c:Chg fs' ex h1 h2)(hfs:∀b∈fs',b∈fs\/h.objs.size<=b)(hex:∀b∈ex,h.get? b=none):Un fs ex0 H H1 h h2 where
 keep:=fun b o e hn hf hx=>by
  have hlt:b<h.objs.size:=Af e
  refine c.keep b o (u.keep b o e hn hf hx) (fun m=> ?_) fun m=>by rw [hex b m] at e;cases e
  rcases hfs b m with h|h
  ·exact hf h
  ·exact Nat.lt_irrefl _ (Au hlt h)
 slot:=fun b o e hn hf hx=>by
  obtain⟨sl,e1⟩:=u.slot b o e hn hf hx
  by_cases hb:b∈fs'
  ·obtain⟨sl2,e2⟩:=c.slot b {o with slots:=sl} e1 hb fun m=>by rw [hex b m] at e;cases e
   exact⟨sl2,e2⟩
  ·exact⟨sl,c.keep b _ e1 hb fun m=>by rw [hex b m] at e;cases e⟩
 free:=u.free
 there:=fun b o e hx=>by
  obtain⟨o1,e1⟩:=u.there b o e hx
  by_cases hb:b∈ex
  ·rw [hex b hb] at e;cases e
  ·by_cases hb2:b∈fs'
   ·obtain⟨sl,e2⟩:=c.slot b o1 e1 hb2 hb
    exact⟨_,e2⟩
   ·exact⟨_,c.keep b o1 e1 hb2 hb⟩
 tups:=u.tups
 frzs:=u.frzs
 tbls:=u.tbls
theorem Chg.any{fs ex:List AB}{h h':Heap}(c:Chg fs ex h h'){b:AB}{o:Obj}(e:h.get? b=some o)(hb:b∉ex):∃sl,h'.get? b=some {o with slots:=sl}:=by
 by_cases hf:b∈fs
 ·exact c.slot b o e hf hb
 ·exact⟨o.slots,c.keep b o e hf hb⟩
section
variable {X:Cx}{pins:List (AB×Obj)}{σ:L2.St}{H:Hp}{s:AC}
theorem e9.chg{h':Heap}{ex:List AB}(I:e9 X pins σ H s)(c:Chg (frs X.stack) ex s.heap h')(h0:∀b∈ex,X.s₀.heap.get? b=none)(hn:∀b∈ex,H b=none)
 (hL:∀b∈ex,b≠X.env.locals) (hc:∀b∈ex,∀x z,X.env.cells.lookup x=some z->z≠b) (hp:∀b∈ex,∀p∈X.pn++pins,p.1≠b):e9 X pins σ H {s with heap:=h'} where
 ok:=I.ok
 os:=I.os
 bare:=I.bare
 base:=b7y I.base c (fun b hb=>by
  rcases Ag.mp (I.stkSub b hb) with h|h
  ·exact .inr (by rw [h];exact I.ok.above)
  ·exact .inl h) h0
 loc:=by
  obtain⟨m,⟨o,es,ep,ho,hd,r⟩,hm⟩:=I.loc
  obtain⟨sl,e⟩:=c.any ho fun z=>hL _ z rfl
  refine⟨m,⟨_,es,ep,e,hd,r⟩,fun i x v h1 h2 h3=> ?_⟩
  obtain⟨u,ru,hk⟩:=hm i x v h1 h2 h3
  refine⟨u,ru, ?_⟩
  rcases hk with hk|⟨hk,z,hz,oz,hoz,hdz⟩
  ·exact .inl hk
  ·obtain⟨sl2,e2⟩:=c.any hoz fun m=>hc _ m x z hz rfl
   exact .inr ⟨hk,z,hz,_,e2,hdz⟩
 cell:=fun x z hz=>by
  obtain⟨v,oz,hoz,hdz⟩:=I.cell x z hz
  obtain⟨sl2,e2⟩:=c.any hoz fun m=>hc _ m x z hz rfl
  exact⟨v,_,e2,hdz⟩
 free:=I.free
 freeC:=I.freeC
 pin:=fun p hpm=>by
  obtain⟨h1,h2,h3,h4,h5⟩:=I.pin p hpm
  refine⟨c.keep _ _ h1 (fun m=> ?_) fun m=>hp _ m p hpm rfl,h2,h3,h4,h5⟩
  rcases Ag.mp (I.stkSub _ m) with h|h
  ·exact h3 h
  ·exact h4 h
 hok:=a8v I.hok c (fun b hb=>I.stkFree b hb) hn
 len:=I.len
end
structure XT where
 cls:Str
 fs:List (PV×PV)
def XF(K:AE)(F:Hp)(fs:List (PV×PV))(dd:Option AB):Prop:=(fs=[]/\dd=none)\/∃d vs,dd=some d/\F d=some (.xd vs)/\fs≠[]/\a2x K F fs vs
inductive FX where
 |fl (f:Fl)|rz (c:XT) (ρ:a9)
abbrev MX:=a9->Option FX
def a4Y(K:AE)(mg:Str->Option AA)(E:L2.St->XK)(F0 H0 F:Hp)(σ0:L2.St)(D:M3):FX->Prop
 | .fl f=>Fin K F0 H0 F D f
 | .rz c ρ=>∃C,mg c.cls=some (.ref C)/\∀σ dd F' H',j5 F F'->SOk K F0 H0 F' H' σ ρ->XF K F' c.fs dd->E σ (.ref C) dd H'
theorem a4Y.later{K:AE}{mg:Str->Option AA}{E:L2.St->XK}{F0 H0 F F1:Hp}{σ0 σ1:L2.St}{D:M3}(s:j5 F F1):∀{fx:FX},a4Y K mg E F0 H0 F σ0 D fx->a4Y K mg E F0 H0 F1 σ1 D fx
 | .fl _,h=>Fin.later s h
 | .rz _ _,⟨C,h1,h2⟩=>⟨C,h1,fun σ a F' H' s' so hn=>h2 σ a F' H' (s.trans s') so hn⟩
def tMX(K:AE)(mg:Str->Option AA)(E:L2.St->XK)(m:MX):TS:=fun D σ H=>∃F0 H0 F ρ fx,SOk K F0 H0 F H σ ρ/\m ρ=some fx/\a4Y K mg E F0 H0 F σ D fx
theorem a2S{K:AE}{mg:Str->Option AA}{E:L2.St->XK}{m:MX}{D:M3}{σ:L2.St}{H:Hp}{C:Prop}(h:tMX K mg E m D σ H)(k:∀F0 H0 F ρ fx,SOk K F0 H0 F H σ ρ->m ρ=some fx->a4Y K mg E F0 H0 F σ D fx->C):C:=
 h.elim fun a h=>h.elim fun b h=>t6 h (k a b)
abbrev EX(X:Cx)(E:L2.St->XK)(st:Stmt)(m:MX):Prop:=PS X st (tMX X.K X.mg E m)
abbrev EXs(X:Cx)(E:L2.St->XK)(st:List Stmt)(m:MX):Prop:=PSs X st (tMX X.K X.mg E m)
def a2M(m:MS):MX:=fun ρ=>(m ρ).map .fl
def a4P(m n:MX):MX:=fun ρ=>(m ρ).bind fun fx=>match fx with
 | .fl (.nx ρ')=>n ρ'
 |f=>some f
def b3k(c:MT)(m n:MX):MX:=fun ρ=>(c ρ).bind fun b=>if b=true then m ρ else n ρ
def b6Q(c:Str)(ma:MA):MX:=fun ρ=>(ma ρ).bind fun ps=>if ps.length<=AO then some (.rz ⟨c,[]⟩ ρ) else none
section
variable {X:Cx}{E:L2.St->XK}
theorem b71{m:MS}{D:M3}{σ:L2.St}{H:Hp}(h:tMX X.K X.mg E (a2M m) D σ H):tMS X.K m D σ H:=by
 obtain⟨F0,H0,F,ρ,fx,so,e,fin⟩:=h
 unfold a2M at e
 cases hm:m ρ with
 |none=>rw [hm] at e;cases e
 |some f=>rw [hm] at e;cases e;exact⟨F0,H0,F,ρ,f,so,hm,fin⟩
theorem c0c{st:Stmt}{m:MS}(h:ES X st m):EX X E st (a2M m):=x6 h fun _ _ _ q=>b71 q
theorem b8v{st:List Stmt}{m:MS}(h:ESs X st m):EXs X E st (a2M m):=a5n h fun _ _ _ q=>b71 q
theorem a0F{st:Stmt}{m:MX}(h:EX X E st m):EXs X E [st] m:=b2m h
theorem a0c{st:Stmt}{rest:List Stmt}{m n:MX}(h1:EX X E st m)(h2:EXs X E rest n):EXs X E (st::rest) (a4P m n):=
 a5n (a0m h1 h2) fun D σ H h0=>a2S h0 fun F0 H0 F ρ fx so e fin=>by
  obtain⟨f1,e1,e⟩:=bind_some e
  cases f1 with
  |rz c ρ1=>cases e;exact⟨F0,H0,F,ρ,.rz c ρ1,so,e1,fin⟩
  |fl f=>
   cases f with
   |nx ρ'=>exact⟨F0,H0,F,ρ,.fl (.nx ρ'),so,e1,fun σ' F' H' s so'=>⟨F0,H0,F',ρ',fx,so',e,fin.later s⟩⟩
   |rt r=>cases e;exact⟨F0,H0,F,ρ,_,so,e1,fin⟩
   |bk r=>cases e;exact⟨F0,H0,F,ρ,_,so,e1,fin⟩
   |ct r=>cases e;exact⟨F0,H0,F,ρ,_,so,e1,fin⟩
theorem b4j{c:AG}{a b:List Stmt}{mc:MT}{m n:MX}{pos:Pos}(hc:ET X c mc)(ha:EXs X E a m)(hb:EXs X E b n):EX X E (.If c a b pos) (b3k mc m n):=
 x6 (b7W hc ha hb) fun D σ H h0=>a2S h0 fun F0 H0 F ρ fx so e fin=>by
  obtain⟨b,e1,e⟩:=bind_some e
  refine⟨F,ρ,b,so.e,e1,fun F1 H1 x=> ?_⟩
  cases b with
  |true=>exact a9R ⟨F0,H0,F1,ρ,fx,so.ext x,e,fin.later x.f⟩
  |false=>exact a9Q ⟨F0,H0,F1,ρ,fx,so.ext x,e,fin.later x.f⟩
end
def spX(K:AE)(mg:Str->Option AA)(n:Nat)(g:List PV->Option (d0 ⊕ XT)):Sp:=fun vs H Q E=>∃F ps r,j5 F H/\j4 K F ps vs/\ps.length=n/\g ps=some r/\(match r with
 | .inl r=>∀v F' H',r9 K F H F' H' v r->Q v H'
 | .inr c=>∃C,mg c.cls=some (.ref C)/\∀dd F' H',W6 F H F' H'->XF K F' c.fs dd->E (.ref C) dd H')
def S4(CX:CXT)(X:Cx)(E:L2.St->XK):Prop:=∀(pins:List (AB×Obj)) (σ:L2.St) (H:Hp) (s:AC) (e:AA) (s':AC),e9 X pins σ H s->CX X.stack H s (E σ) e s'->X.xe e s'
section
variable {X:Cx}{E:L2.St->XK}{CX:CXT}
theorem a98{k:Nat}{f:AB}{fd:FuncData}{ps:List Str}{sp:Sp}{x:Str}{p pos:Pos}{e:AG}{es:List AG}{t:TA}(F:M4 X.prog X.w X.K X.mg X.base CX k f fd ps sp)(hr:D3 k X.A)(hg:Gl X x)(hm:X.mg x=some (.ref f))(hk:PySem.W.keepIn X.K (.ref f)=true)(hb:Z2 X.K fd ps [])(hx:S4 CX X E)
 (ha:PA X (e::es) t) (hdb:(x==("__debug__":Str))=false:=by decide) (he:AN (e::es) X.env=(false,eval e X.env)::AN es X.env:=by rfl) (hpl:(backTo pos (AN es X.env)).any (·.1)=false:=by rfl):
 PE X (.Call (.Name x p) (e::es) [] pos) (fun σ H Q=>t σ H fun vs H1=>sp vs H1 Q (E σ)):=by
 intro pins s σ H Q I h
 refine wpAny_Call_Name_kw (X6 I hg hm ?_ hdb)
 refine PySem.W.callWith_K (h₀:=X.base) I.ok.mod.kin hk (B8 (ha pos pins s σ H _ I h) fun us s1 h0=>j8 h0 fun vs H1 I1 r q=>⟨I1.kIn, ?_⟩) he hpl
 have hl:(us++[]).length=ps.length:=by rw [Ak,<-r.length];exact F.len _ _ _ _ q
 have hb':=hb s1 us I1.kIn hl
 rw [Ak] at hb'
 refine wpAny_call (codeAny_mono (F.run X.A X.stack s1 H1 ⟨us,[]⟩ us vs Q (E σ) hr I1.env0 hb' r q) fun r s' hq=> ?_)
 cases r with
 |error e=>exact hx pins σ H1 s1 e s' I1 hq
 |ok fl=>
  cases fl with
  |ret u=>exact I1.after hq
  |next=>exact False.elim hq
  |brk=>exact False.elim hq
  |cont=>exact False.elim hq
def a4D(g:List PV->Option (d0 ⊕ XT))(m:MA):a9->Option (d0 ⊕ XT):=fun ρ=>(m ρ).bind g
def S2(i:Nat)(g:List PV->Option (d0 ⊕ XT))(m:MA):MX:=fun ρ=>(a4D g m ρ).bind fun r=>match r with
 | .inl r=>if r.nb=true then some (.fl (.nx (ρ.set i (some r)))) else none
 | .inr c=>some (.rz c ρ)
def a58(g:List PV->Option (d0 ⊕ XT))(m:MA):MX:=fun ρ=>(a4D g m ρ).bind fun r=>match r with
 | .inl _=>some (.fl (.nx ρ))
 | .inr c=>some (.rz c ρ)
theorem b1C{n:Nat}{g:List PV->Option (d0 ⊕ XT)}{m:MA}{F0 H0 F H:Hp}{σ:L2.St}{ρ:a9}{Q:VK}{r:d0 ⊕ XT}(so:SOk X.K F0 H0 F H σ ρ)(hn:∀ρ ps,m ρ=some ps->ps.length=n)(e:a4D g m ρ=some r)
 (k:match r with
  | .inl r=>∀v F' H',r9 X.K F H F' H' v r->Q v H'
  | .inr c=>∃C,X.mg c.cls=some (.ref C)/\∀dd F' H',W6 F H F' H'->XF X.K F' c.fs dd->E σ (.ref C) dd H'):
 tMA X.K m σ H fun vs H1=>spX X.K X.mg n g vs H1 Q (E σ):=by
 obtain⟨qs,e1,e2⟩:=bind_some e
 refine⟨F,ρ,qs,so.e,e1,fun vs F1 H1 x rl=>⟨F1,qs,r,x.fh,rl,hn _ _ e1,e2, ?_⟩⟩
 cases r with
 |inl r=>exact fun v F2 H2 o=>k v F2 H2 (r9.trans x o)
 |inr c=>
  obtain⟨C,h1,h2⟩:=k
  exact⟨C,h1,fun a F2 H2 y hn=>h2 a F2 H2 (x.trans y) hn⟩
theorem b8r{k n i:Nat}{f:AB}{fd:FuncData}{ps:List Str}{g:List PV->Option (d0 ⊕ XT)}{x y:Str}{p pos pos' pos2:Pos}{e:AG}{es:List AG}{m:MA}(hN:X.N.Nodup)
 (G:M4 X.prog X.w X.K X.mg X.base CX k f fd ps (spX X.K X.mg n g)) (hr:D3 k X.A) (hg:Gl X x) (hm:X.mg x=some (.ref f)) (hk:PySem.W.keepIn X.K (.ref f)=true) (hb:Z2 X.K fd ps []) (hx:S4 CX X E) (hn:∀ρ ps,m ρ=some ps->ps.length=n) (ha:EA X (e::es) m)
 (hi:X.N[i]?=some y:=by rfl) (hy:Loc X.env.scope y:=by exact Or.inl rfl) (hs:swapsWith (.Call (.Name x p) (e::es) [] pos) (some (.Name y pos')) pos2.line X.env=pure false:=by rfl) (hf:X.fn y=true\/X.env.scope.names.lookup y=some .local:=by first|exact .inl rfl|exact .inr rfl|assumption)
 (hdb:(x==("__debug__":Str))=false:=by decide) (he:AN (e::es) X.env=(false,eval e X.env)::AN es X.env:=by rfl) (hpl:(backTo pos (AN es X.env)).any (·.1)=false:=by rfl):
 EX X E (.Assign [.Name y pos'] (.Call (.Name x p) (e::es) [] pos) pos2) (S2 i g m):=
 x6 (b5l hN hi hy (a98 (E:=E) G hr hg hm hk hb hx ha hdb he hpl) hs hf) fun D σ H h0=>a2S h0 fun F0 H0 F ρ fx so e fin=>by
  obtain⟨r,e1,e⟩:=bind_some e
  refine b1C so hn e1 ?_
  cases r with
  |inl r=>
   have e:(if r.nb=true then some (FX.fl (.nx (ρ.set i (some r)))) else none)=some fx:=e
   split at e
   ·rename_i c
    cases e
    exact fun v F' H' o=>fin _ F' H' o.x.f (so.set o c i)
   ·cases e
  |inr c=>
   cases e
   obtain⟨C,h1,h2⟩:=fin
   exact⟨C,h1,fun a F' H' y hn=>h2 σ a F' H' y.f (so.ext y) hn⟩
theorem b8s{k n:Nat}{f:AB}{fd:FuncData}{ps:List Str}{g:List PV->Option (d0 ⊕ XT)}{x:Str}{p pos pos2:Pos}{e:AG}{es:List AG}{m:MA}
 (G:M4 X.prog X.w X.K X.mg X.base CX k f fd ps (spX X.K X.mg n g)) (hr:D3 k X.A) (hg:Gl X x) (hm:X.mg x=some (.ref f)) (hk:PySem.W.keepIn X.K (.ref f)=true) (hb:Z2 X.K fd ps []) (hx:S4 CX X E) (hn:∀ρ ps,m ρ=some ps->ps.length=n) (ha:EA X (e::es) m)
 (hs:swapsWith (.Call (.Name x p) (e::es) [] pos) none pos2.line X.env=pure false:=by rfl)
 (hdb:(x==("__debug__":Str))=false:=by decide) (he:AN (e::es) X.env=(false,eval e X.env)::AN es X.env:=by rfl) (hpl:(backTo pos (AN es X.env)).any (·.1)=false:=by rfl):
 EX X E (.Expr (.Call (.Name x p) (e::es) [] pos) pos2) (a58 g m):=
 x6 (a8Z (a98 (E:=E) G hr hg hm hk hb hx ha hdb he hpl) hs) fun D σ H h0=>a2S h0 fun F0 H0 F ρ fx so e fin=>by
  obtain⟨r,e1,e⟩:=bind_some e
  refine b1C so hn e1 ?_
  cases r with
  |inl r=>cases e;exact fun v F' H' o=>fin σ F' H' o.x.f (so.ext o.x)
  |inr c=>
   cases e
   obtain⟨C,h1,h2⟩:=fin
   exact⟨C,h1,fun a F' H' y hn=>h2 σ a F' H' y.f (so.ext y) hn⟩
theorem b4k{E1:XK}{x:Str}{C:AB}{np cpos pos:Pos}{e₀:AG}{rest:List AG}{m:MA}(hc:X.calm=true)(hx0:X.ex=[])(hg:Gl X x)(hm:X.mg x=some (.ref C))(hX:b75 C X.base)(ha:EA X (e₀::rest) m)
 (hxe:∀(pins:List (AB×Obj)) (σ:L2.St) (H:Hp) (s:AC) (a:AB),e9 X pins σ H s->Ex0 s.heap a C none->X.s₀.heap.get? a=none->H a=none->E1 (.ref C) none H->X.xe (.ref a) s)
 (he:AN (e₀::rest) X.env=(false,eval e₀ X.env)::AN rest X.env:=by rfl) (hplain:(backTo cpos (AN rest X.env)).any (·.1)=false:=by rfl) (hdb:(x==("__debug__":Str))=false:=by decide):
 EX X (fun _=>E1) (.Raise (some (.Call (.Name x np) (e₀::rest) [] cpos)) none pos) (b6Q x m):=
 x6 (b5j (W:=fun H=>E1 (.ref C) none H) hc hx0 hg hm hX ha hxe he hplain hdb) fun D σ H h0=>a2S h0 fun F0 H0 F ρ fx so e fin=>by
  obtain⟨qs,e1,e⟩:=bind_some e
  split at e
  ·rename_i c
   cases e
   obtain⟨C',h1,h2⟩:=fin
   rw [hm] at h1
   cases h1
   refine⟨F,ρ,qs,so.e,e1,fun vs F1 H1 y rl=>⟨by rw [rl.length];exact c,h2 σ none F1 H1 y.f (so.ext y) (.inl ⟨rfl,rfl⟩)⟩⟩
  ·cases e
end
def b0i(n:Nat)(body:MX)(ps:List PV):Option (d0 ⊕ XT):=(body (ps.map (fun p=>some (d0.val p))++AV n none)).bind fun fx=>match fx with
 | .fl (.rt r)=>some (.inl r)
 | .fl (.nx _)=>some (.inl (.val .none))
 | .rz c _=>some (.inr c)
 |_=>none
theorem b8w{P:AL}{w:AJ}{K:AE}{mg:Str->Option AA}{base:Heap}{x qual:Str}{st:Stmt}{f:AB}{fd:FuncData}{N ps:List Str}{k:Nat}{m:MX}(F:Fun K x qual st f fd)(S:g5 N ps (c9 st))
 (hb:∀(cdv:AA) (A:AM) (outer:List Env) (s:AC) (H:Hp) (E:XK),D3 k (A.deeper (envOfC qual (c9 st) s.heap.objs.size f cdv))->EXs (a1k (CX1 P w) P w K mg base N qual (c9 st) f cdv A outer s H E) (fun _=>E) (z5 st) m):
 M4 P w K mg base (CX1 P w) (k+1) f fd ps (spX K mg ps.length (b0i (N.length - ps.length) m)):=by
 obtain⟨oc,od,kV,doc,pm,an,cdv,ct,osl,rfl,lk,hcd⟩:=F.ex
 refine b7M lk hcd S (fun vs H Q E h=> ?_) fun A outer s H vs Q E hr h=> ?_
 ·obtain⟨_,qs,_,_,r,h2,_⟩:=h
  rw [r.length,h2]
 ·obtain⟨F1,qs,r,s1,rl,hl,e,k⟩:=h
  refine⟨_,hb cdv A outer s H E hr, ?_⟩
  unfold b0i at e
  obtain⟨fx,e1,e2⟩:=bind_some e
  have hv:vs.length=ps.length:=by rw [rl.length,hl]
  refine⟨F1,H,F1,_,fx, ?_,e1, ?_⟩
  ·have:=b0m (N.length - ps.length) s1 rl
   unfold L2.a0r
   rw [hv]
   exact this
  ·cases fx with
   |rz c ρ1=>
    cases e2
    obtain⟨C,h1,h2⟩:=k
    exact⟨C,h1,fun _ a F' H' _ so' hn=>h2 a F' H' so'.x hn⟩
   |fl f=>
    cases f with
    |rt q=>cases e2;exact fun v F' H' o=>k v F' H' o
    |nx ρ=>cases e2;exact fun σ' F' H' _ so=>k .non F' H' (r9.val so.x rfl)
    |bk ρ=>cases e2
    |ct ρ=>cases e2
def a05(P:AL)(w:AJ)(K:AE)(mg:Str->Option AA)(base:Heap)(x:Str)(ps:List Str)(k:Nat)(g:List PV->Option (d0 ⊕ XT)):Prop:=
 ∃f fd,M4 P w K mg base (CX1 P w) k f fd ps (spX K mg ps.length g)/\mg x=some (.ref f)/\PySem.W.keepIn K (.ref f)=true/\Z2 K fd ps []
def left(g:List PV->Option (d0 ⊕ XT))(ps:List PV):Option d0:=(g ps).bind fun r=>match r with
 | .inl r=>some r
 | .inr _=>none
section
variable {X:Cx}
theorem b9g:a5v (CX1 X.prog X.w) X E0:=fun _ _ _ _ _ _ _ h=>by
 obtain⟨_,_,_,_,_,_,_,_,_,_,_,_,_,_,_,h⟩:=h
 exact False.elim h
theorem b1L{k k':Nat}{ps:List Str}{g:List PV->Option (d0 ⊕ XT)}{x:Str}{p pos:Pos}{e:AG}{es:List AG}{m:MA}
 (d:a05 X.prog X.w X.K X.mg X.base x ps k g) (hr:D3 k' X.A) (hk:k<=k') (hg:Gl X x) (hn:∀ρ qs,m ρ=some qs->qs.length=ps.length) (ha:EA X (e::es) m)
 (hdb:(x==("__debug__":Str))=false:=by decide) (he:AN (e::es) X.env=(false,eval e X.env)::AN es X.env:=by rfl) (hpl:(backTo pos (AN es X.env)).any (·.1)=false:=by rfl):
 EE X (.Call (.Name x p) (e::es) [] pos) (i6 (left g) m):=by
 obtain⟨f,fd,G,h1,h2,h3⟩:=d
 refine u6 (b2k G (hr.mono hk) hg h1 h2 h3 .nil b9g ha hdb he hpl) fun σ H Q h0=>t6 h0 fun F ρ r he hm k=> ?_
 obtain⟨qs,e1,hm⟩:=bind_some hm
 obtain⟨r',e2,hm⟩:=bind_some hm
 cases r' with
 |inr c=>cases hm
 |inl r'=>
  cases hm
  refine⟨F,ρ,qs,he,e1,fun vs F1 H1 x rl=> ?_⟩
  show spX X.K X.mg ps.length g (vs++[]) H1 Q E0
  rw [Ak]
  exact⟨F1,qs,.inl r,x.fh,rl,hn _ _ e1,e2,fun v F2 H2 o=>k v F2 H2 (r9.trans x o)⟩
end
section
variable {X:Cx}
abbrev _root_.L2.Cx.aim(X:Cx)(Y:AA->AC->Prop)(pn:List (AB×Obj)):Cx:={X with xe:=Y,pn:=pn}
theorem b77{Y:AA->AC->Prop}{pins:List (AB×Obj)}{σ:L2.St}{H:Hp}{s:AC}(I:e9 X pins σ H s):e9 (X.aim Y (X.pn++pins)) [] σ H s:=⟨⟨I.ok.mod,I.ok.kind,I.ok.glob,I.ok.blt,I.ok.above,I.ok.inj,I.ok.has,I.ok.cab,I.ok.hd,I.ok.frames,I.ok.stk,I.ok.exf,I.ok.bs,I.ok.bsz,I.ok.noex,I.ok.exfs,I.ok.funs,I.ok.frf⟩,I.os,I.bare,I.base,I.loc,I.cell,I.free,I.freeC,fun p hp=>I.pin p (by simpa using hp),I.hok,I.len⟩
theorem a11{Y:AA->AC->Prop}{pins pins1:List (AB×Obj)}{σ:L2.St}{H:Hp}{s:AC}(I:e9 (X.aim Y (X.pn++pins)) pins1 σ H s):e9 X pins σ H s:=⟨⟨I.ok.mod,I.ok.kind,I.ok.glob,I.ok.blt,I.ok.above,I.ok.inj,I.ok.has,I.ok.cab,I.ok.hd,I.ok.frames,I.ok.stk,I.ok.exf,I.ok.bs,I.ok.bsz,I.ok.noex,I.ok.exfs,I.ok.funs,I.ok.frf⟩,I.os,I.bare,I.base,I.loc,I.cell,I.free,I.freeC,fun p hp=>I.pin p (BH _ hp),I.hok,I.len⟩
def Ap(X:Cx)(pins:List (AB×Obj))(b:AB):Prop:=X.s₀.heap.get? b=none/\b≠X.env.locals/\(∀x z,X.env.cells.lookup x=some z->z≠b)/\∀p∈X.pn++pins,p.1≠b
def Hnd(X:Cx)(hs:List ExceptHandler)(th:AB->AB->Option AB->TS):Prop:=
 ∀(pins:List (AB×Obj)) (s:AC) (σ:L2.St) (H:Hp) (D:M3) (a C T:AB) (dd:Option AB),e9 X pins σ H s->ExT s.heap a C T .none dd->H a=none->H T=none->Ap X pins a->Ap X pins T->th a C dd D σ H->
  AF (model X.prog X.w) X.A (handleBy (.ref a) X.env hs) (SP X pins D) X.xe s
theorem apart{pins:List (AB×Obj)}{σ:L2.St}{H:Hp}{s:AC}{b:AB}(I:e9 X pins σ H s)(hx0:X.ex=[])(h:s.heap.get? b=none):X.s₀.heap.get? b=none/\b≠X.env.locals/\(∀x z,X.env.cells.lookup x=some z->z≠b)/\∀p∈X.pn++pins,p.1≠b:=by
 refine⟨?_,fun e=> ?_,fun x z hz e=> ?_,fun p hp e=> ?_⟩
 ·cases h0:X.s₀.heap.get? b with
  |none=>rfl
  |some o=>
   obtain⟨o',e⟩:=I.base.there b o h0 (fun z=>by rw [hx0] at z;cases z)
   rw [h] at e;cases e
 ·obtain⟨m,⟨o,_,_,ho,_⟩,_⟩:=I.loc
  rw [<-e,h] at ho;cases ho
 ·obtain⟨v,o,ho,_⟩:=I.cell x z hz
  rw [e,h] at ho;cases ho
 ·have:=(I.pin p hp).1
  rw [e,h] at this;cases this
theorem b9t{body:List Stmt}{h₀:ExceptHandler}{hs:List ExceptHandler}{pos:Pos}{tb:(L2.St->XK)->TS}{th:AB->AB->Option AB->TS}(hx0:X.ex=[])(hst:X.stack=X.env::X.outer)(hfr:X.env.frame=some X.env.locals)
 (hb:∀(Y:AA->AC->Prop) (pn:List (AB×Obj)) (E:L2.St->XK),S4 (CX1 X.prog X.w) (X.aim Y pn) E->PSs (X.aim Y pn) body (tb E)) (hh:Hnd X (h₀::hs) th):
 PS X (.Try body (h₀::hs) [] [] pos) (fun D σ H=>tb (fun σ1 v dd H1=>∃C,v= .ref C/\∀a,H1 a=none->th a C dd D σ1 H1) D σ H):=by
 intro pins s σ H D I h
 refine wpAny_Try_except ?_
 have key:=hb (fun e s₁=>AF (model X.prog X.w) X.A (noteFrame e X.env) (fun _ s₂=>AF (model X.prog X.w) X.A (setFlight e none) (fun _ s₃=>AF (model X.prog X.w) X.A (handleBy e X.env (h₀::hs)) (SP X pins D) X.xe s₃) X.xe s₂) X.xe s₁) (X.pn++pins) _ ?_ [] s σ H D (b77 I) h
 ·refine B8 key fun fl s1 hq=> ?_
  cases fl with
  |next=>
   obtain⟨σ',H',J,q⟩:=hq
   exact wpAny_execs_nil ⟨σ',H',a11 J,q⟩
  |brk=>obtain⟨σ',H',J,q⟩:=hq;exact⟨σ',H',a11 J,q⟩
  |cont=>obtain⟨σ',H',J,q⟩:=hq;exact⟨σ',H',a11 J,q⟩
  |ret u=>obtain⟨v,σ',H',J,r,q⟩:=hq;exact⟨v,σ',H',a11 J,r,q⟩
 ·intro pins1 σ1 H1 s1 e s' I1 hx
  obtain⟨a,C,T,dd,H2,rfl,ho,hbare,un,hok,ha,hT,hn,hTn,x,C',e1,ht⟩:=hx
  cases e1
  have J1:=I1.call' (ch:=[]) ho un hok hbare fun b z=>nomatch z
  have J:e9 X pins σ1 H2 s':=a11 J1
  have J0:e9 X pins σ1 H1 s1:=a11 I1
  show AF (model X.prog X.w) X.A (noteFrame (.ref a) X.env) _ X.xe s'
  have fr:X.A.frames=some (X.env::X.outer):=by rw [<-hst];exact J.ok.frames
  have fn:s'.heap.FunFrames X.base (X.env::X.outer):=by rw [<-hst];exact J.stack
  refine a7K fr fn hfr x (by simp [rawInt]) fun T' h1 hT' x1 c1=> ?_
  refine a8n x1 none fun h2 x2 c2 _=> ?_
  have hTn':H2 T'=none:=J.hok.fresh hT'
  have c:Chg (frs X.stack) ([T,a]++[T']) s'.heap h2:=by
   rw [hst]
   exact c1.trans (c2.more (fun b hb=>nomatch hb) fun b hb=>hb)
  have mem:∀b∈[T,a]++[T'],b=T\/b=a\/b=T':=fun b hb=>by simpa using hb
  have q1:=apart J0 hx0 hT
  have q2:=apart J0 hx0 ha
  have q3:=apart J hx0 (Heap.get?_none_of_le hT')
  have K:e9 X pins σ1 H2 {s' with heap:=h2}:=e9.chg J c (fun b hb=> ?_) (fun b hb=> ?_) (fun b hb=> ?_) (fun b hb=> ?_) (fun b hb=> ?_)
  ·exact hh pins _ σ1 H2 D a C T' dd K x2 hn hTn' q2 q3 (ht a hn)
  all_goals rcases mem b hb with rfl|rfl|rfl
  ·exact q1.1
  ·exact q2.1
  ·exact q3.1
  ·exact hTn
  ·exact hn
  ·exact hTn'
  ·exact q1.2.1
  ·exact q2.2.1
  ·exact q3.2.1
  ·exact q1.2.2.1
  ·exact q2.2.2.1
  ·exact q3.2.2.1
  ·exact q1.2.2.2
  ·exact q2.2.2.2
  ·exact q3.2.2.2
end
theorem b2R{M:Model}{A:AM}{E:AA->AC->Prop}{h:Heap}{g:Array GenState}{d:Drawn}{t:Nat}{os:OsState}{e C B:AB}{oe:Obj}{Q:Bool->AC->Prop}(hC:b3K C h)(hB:b3K B h)
 (he:h.get? e=some oe) (hcls:oe.cls= .ref C) (hq:∀tl:List AA,OwnTail h a3r tl->(∃N nm q bs hdct sn sub ab col dd k0 k1 k2 k3 k5,h.get? C=some (excClassObj nm q C N bs tl hdct sn sub ab col dd k0 k1 k2 k3 k5 "ValueError.__new__"))->Q ((Value.ref C::tl).contains (.ref B)) ⟨h,g,d,t,os⟩):AF M A (excMatches (.ref e) (.ref B)) Q E ⟨h,g,d,t,os⟩:=by
 obtain⟨tl,N,nm,q,bs,hdct,sn,sub,ab,col,dd,k0,k1,k2,k3,k5,hC,T⟩:=hC
 obtain⟨tl',N',nm',q',bs',hdct',sn',sub',ab',col',dd',k0',k1',k2',k3',k5',hB,T'⟩:=hB
 have hq':=hq tl T ⟨_,_,_,_,_,_,_,_,_,_,_,_,_,_,_,hC⟩
 have hcB:(Value.ref B::tl').contains (.type "BaseException")=true:=by rw [List.contains_cons,T'.hasType (show a3r.contains (.type "BaseException")=true by decide),Bool.or_true]
 have f:=tc_notTuple
 unfold excMatches
 repeat (first|(with_reducible refine wpAny_loadPart_at he ?_;rw [hcls])|with_reducible refine wpAny_loadPart_at hB ?_|(with_reducible refine wpAny_isSubtype_exc hB ?_;rw [hcB])|with_reducible refine wpAny_isSubtype_exc hC ?_|wp_step)
 cases hb:(Value.ref C::tl).contains (.ref B)<;>(rw [hb] at hq';wp_walk;exact hq')
def a7Z(X:Cx)(C B:AB)(b:Bool):Prop:=∀h:Heap,X.K.In h->b3K C h/\b3K B h/\∀(tl:List AA) N nm q bs hdct sn sub ab col dd k0 k1 k2 k3 k5,h.get? C=some (excClassObj nm q C N bs tl hdct sn sub ab col dd k0 k1 k2 k3 k5 "ValueError.__new__")->(Value.ref C::tl).contains (.ref B)=b
section
variable {X:Cx}
abbrev _root_.L2.Cx.caught(X:Cx)(a:AB)(Y:AA->AC->Prop):Cx:={X with A:=X.A.mark (some (.ref a)),calm:=false,xe:=Y}
theorem a7a{a:AB}{Y:AA->AC->Prop}{pins:List (AB×Obj)}{σ:L2.St}{H:Hp}{s:AC}(I:e9 X pins σ H s):e9 (X.caught a Y) pins σ H s:=⟨⟨I.ok.mod,I.ok.kind,I.ok.glob,I.ok.blt,I.ok.above,I.ok.inj,I.ok.has,I.ok.cab,(fun z=>nomatch z),I.ok.frames,I.ok.stk,I.ok.exf,I.ok.bs,I.ok.bsz,I.ok.noex,I.ok.exfs,I.ok.funs,I.ok.frf⟩,I.os,I.bare,I.base,I.loc,I.cell,I.free,I.freeC,I.pin,I.hok,I.len⟩
theorem a0x{a:AB}{Y:AA->AC->Prop}{pins:List (AB×Obj)}{σ:L2.St}{H:Hp}{s:AC}(hd:X.calm=true->X.A.handled=none)(I:e9 (X.caught a Y) pins σ H s):e9 X pins σ H s:=⟨⟨I.ok.mod,I.ok.kind,I.ok.glob,I.ok.blt,I.ok.above,I.ok.inj,I.ok.has,I.ok.cab,hd,I.ok.frames,I.ok.stk,I.ok.exf,I.ok.bs,I.ok.bsz,I.ok.noex,I.ok.exfs,I.ok.funs,I.ok.frf⟩,I.os,I.bare,I.base,I.loc,I.cell,I.free,I.freeC,I.pin,I.hok,I.len⟩
end
theorem b7E{K:AE}{h:Heap}{C:AB}(X:K.In h)(q:PySem.W.excIn K C a3r "ValueError.__new__"=true):b75 C h:=by
 unfold PySem.W.excIn at q
 cases hk:K.lookup C with
 |none=>rw [hk] at q;cases q
 |some o=>
  rw [hk] at q
  split at q
  ·rename_i dd cd sl e
   cases e
   obtain⟨nm,bs,mro,ns,qn,hd,sn,sub,ab,col,del⟩:=cd
   obtain⟨l⟩:=sl
   split at q
   ·rename_i C' bm k0 k1 k2 k3 n k5 hm hs
    have hm:mro= .ref C'::bm:=hm
    have hs:l=[k0,k1,k2,k3,some (.builtin n),k5]:=hs
    subst hm hs
    rw [Bool.and_eq_true,Bool.and_eq_true,Bool.and_eq_true,Bool.and_eq_true,Bool.and_eq_true] at q
    obtain⟨⟨⟨⟨⟨c1,c2⟩,c3⟩,c4⟩,c5⟩,c6⟩:=q
    have c3':del=false:=by simpa using c3
    cases(beq_iff_eq.mp c1)
    cases(beq_iff_eq.mp c2)
    clear c3
    subst c3'
    exact⟨bm,ns,nm,qn,bs,hd,sn,sub,ab,col,dd,k0,k1,k2,k3,k5,_,X _ _ hk,.of_isNs (PySem.W.isNs_of_in X c5),PySem.W.nsMap_none_of_in X c5 (beq_iff_eq.mp c6),PySem.W.tail_of_in X c4⟩
   ·cases q
  ·cases q
def a0U(K:AE)(C B:AB):Bool:=match K.lookup C with
 |some ⟨_,_,.cls cd,_⟩=>cd.mro.contains (.ref B)
 |_=>false
def b4l(K:AE)(C:AB)(g:AB->Bool):Bool:=match K.lookup C with
 |some ⟨.type "type",_,.cls cd,sl⟩=>(match cd.mro,sl.toList with
  | .ref C'::bm,[_,_,_,_,some (.builtin n),_]=>C'==C && n=="ValueError.__new__" && !cd.hasDel && PySem.W.tailIn K a3r bm && g cd.ns
  |_,_=>false)
 |_=>false
def a40(K:AE)(C:AB):Bool:=b4l K C fun _=>true
theorem b1Q{K:AE}{h:Heap}{C:AB}{g:AB->Bool}(X:K.In h)(q:b4l K C g=true):∃tl N nm q bs hdct sn sub ab col dd k0 k1 k2 k3 k5,
 h.get? C=some (excClassObj nm q C N bs tl hdct sn sub ab col dd k0 k1 k2 k3 k5 "ValueError.__new__")/\OwnTail h a3r tl/\g N=true:=by
 unfold b4l at q
 cases hk:K.lookup C with
 |none=>rw [hk] at q;cases q
 |some o=>
  rw [hk] at q
  split at q
  ·rename_i dd cd sl e
   cases e
   obtain⟨nm,bs,mro,ns,qn,hd,sn,sub,ab,col,del⟩:=cd
   obtain⟨l⟩:=sl
   split at q
   ·rename_i C' bm k0 k1 k2 k3 n k5 hm hs
    subst hm hs
    rw [Bool.and_eq_true,Bool.and_eq_true,Bool.and_eq_true,Bool.and_eq_true] at q
    obtain⟨⟨⟨⟨c1,c2⟩,c3⟩,c4⟩,c5⟩:=q
    have c3':del=false:=by simpa using c3
    cases(beq_iff_eq.mp c1)
    cases(beq_iff_eq.mp c2)
    clear c3
    subst c3'
    exact⟨bm,ns,nm,qn,bs,hd,sn,sub,ab,col,dd,k0,k1,k2,k3,k5,X _ _ hk,PySem.W.tail_of_in X c4,c5⟩
   ·cases q
  ·cases q
theorem a9f{K:AE}{h:Heap}{C:AB}(X:K.In h)(q:a40 K C=true):b3K C h:=by
 obtain⟨tl,N,nm,q,bs,hdct,sn,sub,ab,col,dd,k0,k1,k2,k3,k5,h1,h2,_⟩:=b1Q X q
 exact⟨tl,N,nm,q,bs,hdct,sn,sub,ab,col,dd,k0,k1,k2,k3,k5,h1,h2⟩
theorem b3S{X:Cx}{C B:AB}(q1:a40 X.K C=true)(q2:a40 X.K B=true):a7Z X C B (a0U X.K C B):=fun h I=>⟨a9f I q1,a9f I q2,fun tl N nm q bs hdct sn sub ab col dd k0 k1 k2 k3 k5 hc=>by
 cases hk:X.K.lookup C with
 |none=>unfold a40 b4l at q1;rw [hk] at q1;cases q1
 |some o=>
  have:=I _ _ hk
  rw [hc] at this
  cases this
  unfold a0U
  rw [hk]⟩
section
variable {X:Cx}
end
section
variable {X:Cx}{pins:List (AB×Obj)}{σ:L2.St}{H:Hp}{s:AC}
theorem _root_.L2.e9.track{a:AB}{o:HO}(I:e9 X pins σ H s)(hn:H a=none)(ap:Ap X pins a)(new:A7 X.prog X.w (t8 H a o) s.heap a o):e9 X pins σ (t8 H a o) s where
 ok:=I.ok
 os:=I.os
 bare:=I.bare
 base:=⟨I.base.keep,I.base.slot,fun b ob e n hx=>by
  rw [g6 (fun z=>by rw [z,ap.1] at e;cases e)];exact I.base.free b ob e n hx,I.base.there,
  fun b xs e=>by rw [g6 (j9 (I.base.tups b xs e) hn)];exact I.base.tups b xs e,
  fun b ob u e=>by rw [g6 (j9 (I.base.frzs b ob u e) hn)];exact I.base.frzs b ob u e,
  fun b ps e=>by obtain⟨more,q⟩:=I.base.tbls b ps e;exact⟨more,by rw [g6 (j9 q hn)];exact q⟩⟩
 loc:=I.loc
 cell:=I.cell
 free:=by rw [g6 (Ne.symm ap.2.1)];exact I.free
 freeC:=fun x c e=>by rw [g6 (ap.2.2.1 x c e)];exact I.freeC x c e
 pin:=fun p hp=>by
  obtain⟨h1,h2,h3⟩:=I.pin p hp
  exact⟨h1,by rw [g6 (ap.2.2.2 p hp)];exact h2,h3⟩
 hok:=fun b u e=>by
  by_cases hb:b=a
  ·subst hb;rw [j7] at e;cases e;exact new
  ·rw [g6 hb] at e
   exact(I.hok b u e).stay (fun c v _ q=>q) (fun c q=>by rw [g6 (j9 q hn)];exact q) fun c xs q=>by rw [g6 (j9 q hn)];exact q
 len:=I.len
theorem a5i{M:Model}{A:AM}{E:AA->AC->Prop}{i:Nat}{x:Str}{pos:Pos}{Q:Unit->AC->Prop}(I:e9 X pins σ H s)(hN:X.N.Nodup)(hi:X.N[i]?=some x)(hk:X.env.scope.names.lookup x=some .local)
 (h:∀s',e9 X pins (σ.set i none) H s'->Q () s'):AF M A (do bindName X.env x .none;unbindBehindTheSuite X.env x pos) Q E s:=by
 obtain⟨m,hn,hl⟩:=id I.loc
 have hcls:(X.env.scope.kind== .class||(X.env.scope.kind== .module && X.env.locals !=X.env.globals))=false:=by rw [I.ok.kind];rfl
 have hiσ:i<σ.length:=by rw [I.len];exact(As.mp hi).1
 have cne:=I.cne
 refine wpAny_nameGoes_keeps hk hn hcls fun h' v hn' hs=> ?_
 refine h _ ⟨I.ok,I.os,I.bare,⟨fun b o e n hb hx=> ?_,fun b o e n hb hx=> ?_,I.base.free,fun b o e hx=> ?_,I.base.tups,I.base.frzs,I.base.tbls⟩,⟨_,hn',fun j y v' e1 e2 e3=> ?_⟩,fun y c e=> ?_,I.free,I.freeC,fun p hp=> ?_,fun b ob e=> ?_,by simpa using I.len⟩
 ·exact(hs.2 b (Ai (Au (Af e) I.ok.above))).trans (I.base.keep b o e n hb hx)
 ·obtain⟨sl,e1⟩:=I.base.slot b o e n hb hx
  exact⟨sl,(hs.2 b (Ai (Au (Af e) I.ok.above))).trans e1⟩
 ·obtain⟨o',e1⟩:=I.base.there b o e hx
  exact⟨o',(hs.2 b (Ai (Au (Af e) I.ok.above))).trans e1⟩
 ·by_cases hj:j=i
  ·subst hj
   rw [BI hiσ] at e2
   cases e2
  ·rw [List.getElem?_set_ne (Ne.symm hj)] at e2
   obtain⟨u',r',q⟩:=hl j y v' e1 e2 e3
   refine⟨u',r', ?_⟩
   rcases q with⟨k,e⟩|⟨k,c,e,z⟩
   ·refine .inl ⟨k, ?_⟩
    have:y≠x:=fun e=>hj (a6f hN e1 (e▸hi))
    simp [this,e]
   ·exact .inr ⟨k,c,e,z.sameBut hs (cne y c e)⟩
 ·obtain⟨w',z⟩:=I.cell y c e
  exact⟨w',z.sameBut hs (cne y c e)⟩
 ·obtain⟨e,n,ne,nf,d⟩:=I.pin p hp
  exact⟨(hs.2 p.1 ne).trans e,n,ne,nf,d⟩
 ·refine(I.hok b ob e).stay (fun c w' hc q=>(hs.2 c ?_).trans q) (fun _ q=>q) fun _ _ q=>q
  rintro rfl
  have hfree:=I.free
  rcases hc with rfl|hc
  ·rw [hfree] at e;cases e
  ·rw [hfree] at hc;cases hc
end
def XO(a C:AB)(dd:Option AB)(h:Heap):Prop:=∃oe vs,h.get? a=some oe/\oe.cls= .ref C/\oe.data= .fields vs/\oe.dict=dd
def M3.drop(D:M3)(i:Nat):M3:=⟨fun σ H=>D.nx (σ.set i none) H,D.rt,fun σ H=>D.bk (σ.set i none) H,fun σ H=>D.ct (σ.set i none) H⟩
section
variable {X:Cx}
theorem b8D{i:Nat}{x y:Str}{B:AB}{np pos:Pos}{b₀:Stmt}{suite:List Stmt}{rest:List ExceptHandler}{ts:TS}(hN:X.N.Nodup)(hi:X.N[i]?=some y)(hy:X.env.scope.names.lookup y=some .local)
 (hg:Gl X x) (hm:X.mg x=some (.ref B)) (hdb:(x==("__debug__":Str))=false) (hs:∀a Y,PSs (X.caught a Y) (b₀::suite) ts):
 Hnd X (.ExceptHandler (some (.Name x np)) (some y) (b₀::suite) pos::rest) (fun a C dd D σ H=>a7Z X C B true/\ts (M3.drop D i) (σ.set i (some (.ref a))) (t8 H a (.ext (XO a C dd)))):=by
 intro pins s σ H D a C T dd0 I ex hn hTn apA apT ⟨hbl,q⟩
 have J:e9 (X.caught a (notedBy (model X.prog X.w) (X.A.mark (some (.ref a))) X.env (cameBackBy (model X.prog X.w) X.A X.env X.xe))) pins σ H s:=a7a I
 refine wpAny_handleBy_cons (codeAny_handlers_test (X6 (X:=X.caught a _) J hg hm ?_ hdb)) (by intro q;cases q)
 obtain⟨hC,hB,hin⟩:=hbl s.heap I.kIn
 obtain⟨oe,vs,he,hcls,_⟩:=ex.obj
 obtain⟨hh,g,d,tk,os⟩:=s
 refine b2R hC hB he hcls fun tl T0 ⟨N,nm,q0,bs,hdct,sn,sub,ab,col,dd,k0,k1,k2,k3,k5,hc⟩=> ?_
 rw [hin tl N nm q0 bs hdct sn sub ab col dd k0 k1 k2 k3 k5 hc]
 refine codeAny_handlers_suite_as ?_
 refine a8n (s:=⟨hh,g,d,tk,os⟩) ex none fun h2 x2 c2 hsz=> ?_
 have one:∀b∈[T],b=T:=fun b hb=>List.mem_singleton.mp hb
 have K:e9 X pins σ H ⟨h2,g,d,tk,os⟩:=e9.chg I (c2.more (fun b hb=>nomatch hb) fun b hb=>hb) (fun b hb=>by rw [one b hb];exact apT.1) (fun b hb=>by rw [one b hb];exact hTn) (fun b hb=>by rw [one b hb];exact apT.2.1) (fun b hb=>by rw [one b hb];exact apT.2.2.1) (fun b hb=>by rw [one b hb];exact apT.2.2.2)
 obtain⟨oe',vs',he',hcls',hd',_,hdn⟩:=x2.obj
 have K1:e9 X pins σ (t8 H a (.ext (XO a C dd0))) ⟨h2,g,d,tk,os⟩:=K.track hn apA ⟨⟨oe',vs',he',hcls',hd',hdn⟩,⟨oe',he'⟩,fun h1 h2 ⟨o1,v1,e1,e2,e3⟩ st=>⟨o1,v1,st _ e1,e2,e3⟩⟩
 refine a0s (v:= .ref a) K1 hN hi (.inl hy) rfl (fun s' I'=> ?_) (.inr hy)
 refine B8 (hs a _ pins _ _ _ (M3.drop D i) (a7a I') q) fun fl s1 hq=> ?_
 cases fl with
 |next=>obtain⟨σ',H',J,q⟩:=hq;exact a5i (a0x I.ok.hd J) hN hi hy fun s2 J2=>⟨_,H',J2,q⟩
 |brk=>obtain⟨σ',H',J,q⟩:=hq;exact a5i (a0x I.ok.hd J) hN hi hy fun s2 J2=>⟨_,H',J2,q⟩
 |cont=>obtain⟨σ',H',J,q⟩:=hq;exact a5i (a0x I.ok.hd J) hN hi hy fun s2 J2=>⟨_,H',J2,q⟩
 |ret u=>obtain⟨v,σ',H',J,r,q⟩:=hq;exact a5i (a0x I.ok.hd J) hN hi hy fun s2 J2=>⟨v,_,H',J2,r,q⟩
end
def xcV(c:XT):PV:=match c.fs with
 |[]=> .dict [(.str c.cls,.bool true)]
 |f::r=> .dict ((.str c.cls,.int 0)::f::r)
theorem b7B{K:AE}{F:Hp}{c:XT}{dd:Option AB}{a C:AB}(ha:F a=none)(xf:XF K F c.fs dd)(h3:K3 K c.cls C):B5 K (t8 F a (.ext (XO a C dd))) (xcV c) (.ref a):=by
 obtain⟨cl,fs⟩:=c
 rcases xf with⟨e1,e2⟩|⟨d,vs,e1,q,n,r⟩
 ·have e1:fs=[]:=e1
  subst e1;subst e2
  exact Or.inr (Or.inr (Or.inl ⟨cl,_,rfl,.inr ⟨rfl,a,C,XO a C none,rfl,j7,fun h q=>q,h3⟩⟩))
 ·cases fs with
  |nil=>exact absurd rfl n
  |cons f r0=>
   subst e1
   have s:j5 F (t8 F a (.ext (XO a C (some d)))):=Q6 ha
   refine Or.inr (Or.inr (Or.inr ⟨cl,.int 0,vs,.inr ⟨rfl,a,C,d,XO a C (some d),rfl,j7,fun h q=>q,s _ _ q,h3⟩,cl,.int 0,vs,rfl,rfl,rfl, ?_⟩))
   exact a2x.mono s _ r
def a8m(i:Nat):Fl->Fl
 | .nx ρ=> .nx (ρ.set i none)
 | .rt r=> .rt r
 | .bk ρ=> .bk (ρ.set i none)
 | .ct ρ=> .ct (ρ.set i none)
def R4(b:MX)(i:Nat)(inm:Str->Bool)(hd:MS):MS:=fun ρ=>(b ρ).bind fun fx=>match fx with
 | .fl f=>some f
 | .rz c ρ'=>if inm c.cls=true then(hd (ρ'.set i (some (.val (xcV c))))).map (a8m i) else none
theorem z9{α:Type}{l:List (Option α)}{i j:Nat}{r:α}(h:(l.set i none)[j]?=some (some r)):i≠j/\l[j]?=some (some r):=by
 rw [List.getElem?_set] at h
 by_cases hij:i=j
 ·rw [if_pos hij] at h
  split at h
  ·cases h
  ·cases h
 ·rw [if_neg hij] at h;exact⟨hij,h⟩
theorem SOk.drop{K:AE}{F0 H0 F H:Hp}{σ:L2.St}{ρ:a9}(s:SOk K F0 H0 F H σ ρ)(i:Nat):SOk K F0 H0 F H (σ.set i none) (ρ.set i none):=by
 refine⟨s.x,⟨s.e.fh,by simp [s.e.len],fun j q e=> ?_,fun j ps e=> ?_,fun j k ps qs a hjk e1 e2 e3 e4=> ?_⟩,fun j ps a e1 e2=> ?_⟩
 ·obtain⟨n,e⟩:=z9 e
  rw [List.getElem?_set_ne n]
  exact s.e.at_ j q e
 ·exact s.e.nb j ps (z9 e).2
 ·exact s.e.ap j k ps qs a hjk (z9 e1).2 (z9 e2).2 (z9 e3).2 (z9 e4).2
 ·exact s.nw j ps a (z9 e1).2 (z9 e2).2
theorem Fin.drop{K:AE}{F0 H0 F:Hp}{D:M3}{i:Nat}:∀{fl:Fl},Fin K F0 H0 F D (a8m i fl)->Fin K F0 H0 F (M3.drop D i) fl
 | .nx _,h=>fun σ' F' H' s' so=>h _ F' H' s' (so.drop i)
 | .rt _,h=>h
 | .bk _,h=>fun σ' F' H' s' so=>h _ F' H' s' (so.drop i)
 | .ct _,h=>fun σ' F' H' s' so=>h _ F' H' s' (so.drop i)
section
variable {X:Cx}
theorem b4i{i:Nat}{body:List Stmt}{x y:Str}{B:AB}{np hpos pos:Pos}{b₀:Stmt}{suite:List Stmt}{b:MX}{inm:Str->Bool}{hd:MS}(hN:X.N.Nodup)(hi:X.N[i]?=some y)(hy:X.env.scope.names.lookup y=some .local)(hx0:X.ex=[])(hst:X.stack=X.env::X.outer)(hfr:X.env.frame=some X.env.locals)
 (hg:Gl X x) (hm:X.mg x=some (.ref B)) (hdb:(x==("__debug__":Str))=false) (hin:∀c,inm c=true->∃C,X.mg c=some (.ref C)/\a7Z X C B true/\K3 X.K c C)
 (hb:∀(Y:AA->AC->Prop) (pn:List (AB×Obj)) (E:L2.St->XK),S4 (CX1 X.prog X.w) (X.aim Y pn) E->EXs (X.aim Y pn) E body b) (hs:∀a Y,ESs (X.caught a Y) (b₀::suite) hd):
 ES X (.Try body [.ExceptHandler (some (.Name x np)) (some y) (b₀::suite) hpos] [] [] pos) (R4 b i inm hd):=
 x6 (b9t hx0 hst hfr (tb:=fun E=>tMX X.K X.mg E b) hb (b8D (i:=i) (ts:=tMS X.K hd) hN hi hy hg hm hdb fun a Y=>hs a Y)) fun D σ H h0=>C8 h0 fun F0 H0 F ρ fl so e fin=>by
  obtain⟨fx,e1,e⟩:=bind_some e
  cases fx with
  |fl f=>cases e;exact⟨F0,H0,F,ρ,.fl _,so,e1,fin⟩
  |rz c ρ1=>
   have e:(if inm c.cls=true then(hd (ρ1.set i (some (.val (xcV c))))).map (a8m i) else none)=some fl:=e
   split at e
   ·rename_i hc
    obtain⟨C,h1,h2,h3⟩:=hin c.cls hc
    cases hh:hd (ρ1.set i (some (.val (xcV c)))) with
    |none=>rw [hh] at e;cases e
    |some f=>
     rw [hh] at e
     cases e
     refine⟨F0,H0,F,ρ,.rz c ρ1,so,e1,C,h1,fun σ1 dd F' H' s' so' xf=>⟨C,rfl,fun a hn=>⟨h2,F0,H0,t8 F' a (.ext (XO a C dd)),_,f, ?_,hh, ?_⟩⟩⟩
     ·exact so'.set (r:= .val (xcV c)) (r9.val (p:=xcV c) (W6.lay so'.e.fh hn) (b7B (so'.e.fh.free hn) xf h3)) rfl i
     ·exact Fin.drop ((fin.later s').later (Q6 (so'.e.fh.free hn)))
   ·cases e
theorem a5g{E:L2.St->XK}{k k' i:Nat}{ps:List Str}{g:List PV->Option (d0 ⊕ XT)}{x y:Str}{p pos pos' pos2:Pos}{e:AG}{es:List AG}{m:MA}(hN:X.N.Nodup)
 (d:a05 X.prog X.w X.K X.mg X.base x ps k g) (hr:D3 k' X.A) (hk:k<=k') (hg:Gl X x) (hx:S4 (CX1 X.prog X.w) X E) (hn:∀ρ qs,m ρ=some qs->qs.length=ps.length) (ha:EA X (e::es) m)
 (hi:X.N[i]?=some y:=by rfl) (hy:Loc X.env.scope y:=by exact Or.inl rfl) (hs:swapsWith (.Call (.Name x p) (e::es) [] pos) (some (.Name y pos')) pos2.line X.env=pure false:=by rfl) (hf:X.fn y=true\/X.env.scope.names.lookup y=some .local:=by first|exact .inl rfl|exact .inr rfl|assumption)
 (hdb:(x==("__debug__":Str))=false:=by decide) (he:AN (e::es) X.env=(false,eval e X.env)::AN es X.env:=by rfl) (hpl:(backTo pos (AN es X.env)).any (·.1)=false:=by rfl):
 EX X E (.Assign [.Name y pos'] (.Call (.Name x p) (e::es) [] pos) pos2) (S2 i g m):=by
 obtain⟨f,fd,G,h1,h2,h3⟩:=d
 exact b8r hN G (hr.mono hk) hg h1 h2 h3 hx hn ha hi hy hs hf hdb he hpl
theorem b6j{E:L2.St->XK}{k k':Nat}{ps:List Str}{g:List PV->Option (d0 ⊕ XT)}{x:Str}{p pos pos2:Pos}{e:AG}{es:List AG}{m:MA}
 (d:a05 X.prog X.w X.K X.mg X.base x ps k g) (hr:D3 k' X.A) (hk:k<=k') (hg:Gl X x) (hx:S4 (CX1 X.prog X.w) X E) (hn:∀ρ qs,m ρ=some qs->qs.length=ps.length) (ha:EA X (e::es) m)
 (hs:swapsWith (.Call (.Name x p) (e::es) [] pos) none pos2.line X.env=pure false:=by rfl)
 (hdb:(x==("__debug__":Str))=false:=by decide) (he:AN (e::es) X.env=(false,eval e X.env)::AN es X.env:=by rfl) (hpl:(backTo pos (AN es X.env)).any (·.1)=false:=by rfl):
 EX X E (.Expr (.Call (.Name x p) (e::es) [] pos) pos2) (a58 g m):=by
 obtain⟨f,fd,G,h1,h2,h3⟩:=d
 exact b8s G (hr.mono hk) hg h1 h2 h3 hx hn ha hs hdb he hpl
end
def Y7(K:AE)(C:AB)(x:Str):Bool:=match K.lookup C with
 |some ⟨_,_,.cls cd,_⟩=>cd.name==x
 |_=>false
structure XC(K:AE)(mg:Str->Option AA)(c:Str)(C:AB):Prop where
 mg:mg c=some (.ref C)
 named:K3 K c C
 exc:a40 K C=true
theorem b2x{K:AE}{mg:Str->Option AA}{h:Heap}{c:Str}{C:AB}(X:K.In h)(G:h.Ns mainGlobals mg)(e:PySem.W.nsIn K mainGlobals c=some (some (.ref C)))(q:(Y7 K C c && a40 K C)=true):XC K mg c C:=by
 rw [Bool.and_eq_true] at q
 obtain⟨q1,q3⟩:=q
 refine⟨PySem.W.mg_of X G e,⟨e, ?_⟩,q3⟩
 unfold Y7 at q1
 split at q1
 ·rename_i oc od cd sl hk
  exact⟨oc,od,cd,sl,hk,beq_iff_eq.mp q1⟩
 ·cases q1
theorem b3O{K:AE}{x D:AB}{c:AA}(e:PySem.W.kitOne K (.ref D) c=some true):Answers (fun s=>K.In s.heap/\∃o,s.heap.get? x=some o/\o.cls= .ref D) (.ref x) c true:=fun dep tk prog w A R s hs=>by
 obtain⟨hh,gg,dr,tt,oo⟩:=s
 obtain⟨⟨kin,o,h1,h2⟩,fin⟩:=hs
 have LT:PySem.W.Looks (model prog w) hh (typeOf (.ref x)) (.ref D):=h2▸(PySem.W.Looks.ld h1).andThen .now
 unfold Builtin.«isinstance.nested»
 refine AD ?_
 refine LT.at ?_
 cases q:(Value.ref D==c) with
 |true=>
  rw [if_pos rfl]
  exact AD (wpAny_rule (AI (fin tt)))
 |false=>
  rw [if_neg Ax]
  unfold PySem.W.kitOne at e
  rw [q,if_neg Ax] at e
  have z:=PySem.W.kit_cls (M:=model prog w) kin e
  have z3:PySem.W.Looks (model prog w) hh (isInstance (.ref x) c) true:=LT.andThen z.2.2
  refine AD ?_
  refine z.1.at ?_
  rw [if_pos (by decide)]
  k_delta "plainIsInstance"
  refine AD ?_
  refine AD ?_
  refine z.2.1.at ?_
  simp only [Bool.not_true,if_false,Ay]
  refine AD ?_
  refine z3.at ?_
  exact AI (AI (fin tt))
theorem b4J{K:AE}{prog:AL}{w:AJ}{A:AM}{E:AA->AC->Prop}{s:AC}{Q:AA->AC->Prop}{x D:AB}{c:AA}{o:Obj}(kin:K.In s.heap)(h1:s.heap.get? x=some o)(h2:o.cls= .ref D)(e:PySem.W.kitOne K (.ref D) c=some true)(fin:∀tk,Q (.bool true) {s with toks:=tk}):
 AF (model prog w) A (call (.builtin "isinstance") [.ref x,c]) Q E s:=by
 refine call_isinstance (S:=fun _ R s=>(K.In s.heap/\∃o,s.heap.get? x=some o/\o.cls= .ref D)/\∀tk,R (.ok (.ret (.bool true))) {s with toks:=tk}) (fun prog w A R s hs=> ?_) ⟨⟨kin,o,h1,h2⟩,fin⟩
 refine isinstance_outer ?_ (fun z=>nomatch z)
 exact b3O e 0 _ prog w A R s hs
def b9T:PV->Option Str
 | .dict [(.str c,.bool true)]=>some c
 | .dict ((.str c,.int 0)::_)=>some c
 |_=>none
def b2E(K:AE)(H:Hp)(x:Str)(v:V):Prop:=b76 K H x v\/∃fs,a9m K H x (.int 0) fs v
theorem b2E.mono{K:AE}{H H':Hp}{x:Str}{v:V}(s:j5 H H')(h:b2E K H x v):b2E K H' x v:=by
 rcases h with⟨a,C,φ,e,q,r⟩|⟨fs,h⟩
 ·exact .inl ⟨a,C,φ,e,s _ _ q,r⟩
 ·exact .inr ⟨fs,h.mono s⟩
theorem b7D{K:AE}{F:Hp}{p:PV}{v:V}{c:Str}(rr:B5 K F p v)(h:b9T p=some c):b2E K F c v:=by
 unfold b9T at h
 split at h
 ·cases h
  rcases rr with⟨_,_,_,_,kk,w,t,_,z,_⟩|⟨_,_,_,_,kk,w,t,_,z,_⟩|⟨y,t,e,hy⟩|⟨_,_,_,ho,hf⟩
  ·cases z
  ·cases z
  ·cases e
   rcases hy with⟨z,_⟩|⟨_,h1⟩
   ·cases z
   ·exact .inl h1
  ·rcases(b6T ho hf).2.1 with e|e<;>cases e
 ·cases h
  rcases rr with⟨_,_,_,_,kk,w,t,_,z,_⟩|⟨_,_,_,_,kk,w,t,_,z,_⟩|⟨y,t,e,hy⟩|⟨y,m,fs,ho,hf⟩
  ·cases z
  ·cases z
  ·cases e
   rcases hy with⟨z,_⟩|⟨z,_⟩<;>cases z
  ·obtain⟨g,w,t,e,z,q,_⟩:=hf
   cases z
   cases e
   cases q
   exact .inr ⟨_,ho⟩
 ·cases h
theorem b7G{X:Cx}{pins:List (AB×Obj)}{σ:L2.St}{H:Hp}{s:AC}(I:e9 X pins σ H s){x:Str}{v:V}(h:b2E X.K H x v):∃(a C:AB) (o:Obj) (od:Option Obj),v= .ref a/\K3 X.K x C/\PySem.W.InstAt s.heap a o C od:=by
 rcases h with h|⟨fs,⟨z,_⟩|⟨_,a,C,dx,φ,e,q,r,d,n⟩⟩
 ·obtain⟨a,C,o,vs,e,h1,h2,h3,n,h4⟩:=b7C I h
  exact⟨a,C,o,none,e,n,h1,h2,by unfold PySem.W.notCls;rw [h3],by rw [h4];trivial⟩
 ·cases z
 ·obtain⟨oe,vs,h1,h2,h3,h4⟩:=r _ (I.hok a _ q).1
  obtain⟨mA,⟨od,es,ep,ho,_⟩,_⟩:=I.hok dx _ d
  exact⟨a,C,oe,some od,e,n,h1,h2,by unfold PySem.W.notCls;rw [h3],by rw [h4];exact ho⟩
def a1v(tab:List (Str×Bool))(x:d0):Option d0:=(b9T x.rd).bind fun c=>(tab.lookup c).map fun b=> .val (.bool b)
section
variable {X:Cx}
end
def inL(l:List Str)(c:Str):Bool:=l.contains c
section
variable {X:Cx}
def Hin(X:Cx)(B:AB)(l:List Str):Prop:=∀c,inL l c=true->∃C,X.mg c=some (.ref C)/\a7Z X C B true/\K3 X.K c C
theorem b1Z{B:AB}:Hin X B []:=fun _ h=>nomatch h
theorem a0h{B C:AB}{b c:Str}{l:List Str}(xB:XC X.K X.mg b B)(x:XC X.K X.mg c C)(e:a0U X.K C B=true)(h:Hin X B l):Hin X B (c::l):=fun c1 q=>by
 unfold inL at q
 rw [List.contains_cons,Bool.or_eq_true] at q
 rcases q with q|q
 ·rw [beq_iff_eq.mp q]
  exact⟨C,x.mg,by rw [<-e];exact b3S x.exc xB.exc,x.named⟩
 ·exact h c1 q
theorem a7i{i:Nat}{l:List Str}{body:List Stmt}{x y:Str}{B:AB}{np hpos pos:Pos}{b₀:Stmt}{suite:List Stmt}{b:MX}{hd:MS}(hN:X.N.Nodup)(xB:XC X.K X.mg x B)(hin:Hin X B l)
 (hb:∀(Y:AA->AC->Prop) (pn:List (AB×Obj)) (E:L2.St->XK),S4 (CX1 X.prog X.w) (X.aim Y pn) E->EXs (X.aim Y pn) E body b) (hs:∀a Y,ESs (X.caught a Y) (b₀::suite) hd)
 (hi:X.N[i]?=some y:=by rfl) (hy:X.env.scope.names.lookup y=some .local:=by rfl) (hx0:X.ex=[]:=by rfl) (hst:X.stack=X.env::X.outer:=by rfl) (hfr:X.env.frame=some X.env.locals:=by rfl) (hg:Gl X x:=by rfl) (hdb:(x==("__debug__":Str))=false:=by decide):
 ES X (.Try body [.ExceptHandler (some (.Name x np)) (some y) (b₀::suite) hpos] [] [] pos) (R4 b i (inL l) hd):=
 b4i hN hi hy hx0 hst hfr hg xB.mg hdb hin hb hs
end
section
variable {X:Cx}
end
section
variable {X:Cx}
end
section
variable {X:Cx}
theorem a14{E:L2.St->XK}{st:List Stmt}{m:MS}(h:ESs X.nox st m):EXs X E st (a2M m):=b8v (PSs.nox h)
theorem b8u{E:L2.St->XK}{st:Stmt}{m:MS}(h:ES X.nox st m):EX X E st (a2M m):=c0c fun pins s σ H D I hw=>
 wpAny_mono (h pins s σ H D (I.wish _) hw) (fun fl s1 hq=>by
  cases fl with
  |next=>obtain⟨σ',H',J,q⟩:=hq;exact⟨σ',H',J.unwish,q⟩
  |brk=>obtain⟨σ',H',J,q⟩:=hq;exact⟨σ',H',J.unwish,q⟩
  |cont=>obtain⟨σ',H',J,q⟩:=hq;exact⟨σ',H',J.unwish,q⟩
  |ret u=>obtain⟨v,σ',H',J,r,q⟩:=hq;exact⟨v,σ',H',J.unwish,r,q⟩) fun _ _ z=>z.elim
end
abbrev exO(C:AB)(dd:Option AB)(t:AB):Obj:={cls:= .ref C,dict:=dd,data:= .fields #[.ref t,.none,.none,.none,.bool false,.none]}
def XQ(a C:AB)(dd:Option AB)(h:Heap):Prop:=∃t,h.get? a=some (exO C dd t)
def XD(d:AB)(fs:List (Str×V))(h:Heap):Prop:=∃mA,h.Ns1 d mA/\(∀f,a2V (fs.lookup f) (mA f))/\PySem.Within mA (fs.map (·.1))
theorem XQ.ok{P:AL}{w:AJ}{H:Hp}{h:Heap}{a C:AB}{dd:Option AB}(x:XQ a C dd h):A7 P w H h a (.ext (XQ a C dd)):=
 ⟨x,let ⟨t,e⟩:=x;⟨_,e⟩,fun h1 h2 ⟨t,e⟩ k=>⟨t,k _ e⟩⟩
theorem XD.ok{P:AL}{w:AJ}{H:Hp}{h:Heap}{d:AB}{fs:List (Str×V)}(x:XD d fs h):A7 P w H h d (.ext (XD d fs)):=
 ⟨x,let ⟨mA,⟨o,_,_,e,_⟩,_⟩:=x;⟨o,e⟩,fun h1 h2 ⟨mA,n,r⟩ k=>⟨mA,n.at k,r⟩⟩
structure a6K(K:Frag)(C:AB):Prop where
 ov:a3X K C=true
 sa:findIn K (.ref C) "__setattr__"=some (some (.builtin "object.__setattr__"))
 ga:findIn K (.ref C) "__getattribute__"=some (some (.builtin "BaseException.__getattribute__"))
 gg:findIn K (.ref C) "__getattr__"=some none
 ex:a40 K C=true
section
variable {X:Cx}{pins:List (AB×Obj)}{σ:L2.St}{H:Hp}{s:AC}{a C d:AB}
theorem b5P{H:Hp}{a:AB}{o:HO}(h:H a=some o):t8 H a o=H:=by
 funext b
 unfold t8
 split
 ·rename_i e;rw [e,h]
 ·rfl
theorem b5X{A:AM}{E:AA->AC->Prop}{us:List AA}{dd:Option AB}{Q:AA->AC->Prop}(I:e9 X pins σ H s)(hl:us.length<=AO)(cx:a6K X.K C)(e:H a=some (.ext (XQ a C dd)))
 (h:∀s',e9 X pins σ H s'->Q .none s'):AF (model X.prog X.w) A (call (.builtin "ValueError.__init__") (.ref a::us)) Q E s:=by
 obtain⟨t,he⟩:=(I.hok a _ e).1
 obtain⟨tl,N,nm,q,bs,hdct,sn,sub,ab,col,ddc,k0,k1,k2,k3,k5,hC,T⟩:=a9f I.kIn cx.ex
 have F:=PySem.F.excBase_ValueError
 obtain⟨hh,g,dr,tk,os⟩:=s
 refine wpAny_call (codeAny_call_builtin F.init.plain F.initEntry (wpAny_check_init_subT F T hC he rfl ?_))
 wp_walk
 have h1:=Ab (h:=hh) {cls:= .type "tuple",data:= .seq us.toArray} he
 have hget:((hh.push {cls:= .type "tuple",data:= .seq us.toArray}).update a (Obj.mapFields fun x=>x.setIfInBounds 0 (Value.ref hh.objs.size))).get? a=some (exO C dd hh.objs.size):=Heap.get?_update_self _ h1 rfl
 have I1:=I.write (x:=a) (e:=a) (o:= .ext (XQ a C dd)) (t':=tk) (h':=(hh.push {cls:= .type "tuple",data:= .seq us.toArray}).update a (Obj.mapFields fun x=>x.setIfInBounds 0 (Value.ref hh.objs.size))) (by rw [e];trivial) (.inl rfl) (fun b u hb z=>(Heap.get?_update_other _ _ (Ne.symm hb)).trans (Ab _ z)) ⟨_,hget⟩ (XQ.ok ⟨_,hget⟩)
 rw [b5P e] at I1
 exact h _ I1
theorem b0s{H:Hp}{a b:AB}{o u:HO}(h:a≠b):t8 (t8 H a o) b u=t8 (t8 H b u) a o:=by
 funext c
 unfold t8
 by_cases h1:c=b
 ·rw [if_pos h1,if_neg (by rw [h1];exact Ne.symm h),if_pos h1]
 ·rw [if_neg h1]
  by_cases h2:c=a
  ·rw [if_pos h2,if_pos h2]
  ·rw [if_neg h2,if_neg h2,if_neg h1]
theorem b1s{A:AM}{E:AA->AC->Prop}{f:Str}{y:V}{u:AA}{Q:Unit->AC->Prop}(I:e9 X pins σ H s)(hx0:X.ex=[])(cx:a6K X.K C)(n:T7 X.K C f)(e:H a=some (.ext (XQ a C none)))(ry:l8 y u)
 (h:∀s' d,d≠a->H d=none->e9 X pins σ (t8 (t8 H d (.ext (XD d [(f,y)]))) a (.ext (XQ a C (some d)))) s'->Q () s'):AF (model X.prog X.w) A (setAttr (.ref a) f u) Q E s:=by
 obtain⟨t,he⟩:=(I.hok a _ e).1
 refine b1l I.kIn he cx.ov n cx.sa fun h' d tk hd hsz hx hns hk=> ?_
 have hda:d≠a:=fun z=>by rw [z,he] at hd;cases hd
 have hdn:H d=none:=I.hok.fresh hsz
 have xd:XD d [(f,y)] h':=⟨_,hns,fun g=>by
  show a2V (List.lookup g [(f,y)]) (if g=f then some u else none)
  rw [List.lookup_cons]
  by_cases q:g=f
  ·rw [if_pos q,q,beq_self_eq_true];exact ry
  ·rw [if_neg q]
   rw [show(g==f)=false from by simpa using q]
   exact True.intro,fun g hg=>by
  by_cases q:g=f
  ·rw [q];exact List.mem_singleton.mpr rfl
  ·exact absurd (if_neg q) hg⟩
 have I1:e9 X pins σ (t8 H a (.ext (XQ a C (some d)))) {s with heap:=h',toks:=tk}:=
  I.write (x:=a) (e:=a) (o:= .ext (XQ a C (some d))) (t':=tk) (by rw [e];trivial) (.inl rfl) hk ⟨_,hx⟩ (XQ.ok ⟨t,hx⟩)
 have ap:Ap X pins d:=apart I hx0 hd
 have I2:=I1.track (o:= .ext (XD d [(f,y)])) (by rw [g6 hda];exact hdn) ap (XD.ok xd)
 rw [b0s (Ne.symm hda)] at I2
 exact h _ d hda hdn I2
theorem b3E{A:AM}{E:AA->AC->Prop}{f:Str}{y:V}{u:AA}{fs:List (Str×V)}{Q:Unit->AC->Prop}(I:e9 X pins σ H s)(cx:a6K X.K C)(n:T7 X.K C f)(e:H a=some (.ext (XQ a C (some d))))(ed:H d=some (.ext (XD d fs)))(hl:fs.length<1000)(ry:l8 y u)
 (h:∀s',e9 X pins σ (t8 H d (.ext (XD d (a4e f y fs)))) s'->Q () s'):AF (model X.prog X.w) A (setAttr (.ref a) f u) Q E s:=by
 obtain⟨t,he⟩:=(I.hok a _ e).1
 obtain⟨mA,hns,r,wi⟩:=(I.hok d _ ed).1
 have hz:(fs.map (·.1)).length<=AO:=by rw [Ac,sizeLine_eq];lia
 refine b3x I.kIn he rfl rfl ⟨_,rfl⟩ hns cx.ov n cx.sa wi hz fun h' tk hn2 sb=>h _ ?_
 have hd:∃o,h'.get? d=some o:=by obtain⟨o,_,_,e',_⟩:=hn2;exact⟨o,e'⟩
 refine I.write (x:=d) (e:=d) (by rw [ed];trivial) (.inl rfl) (fun b q hb z=>(sb.2 b hb).trans z) hd (XD.ok ⟨_,hn2,fun g=> ?_,fun g hg=> ?_⟩)
 ·show a2V ((a4e f y fs).lookup g) (if g=f then some u else mA g)
  rw [a4K]
  by_cases q:g=f
  ·rw [if_pos q,if_pos q];exact ry
  ·rw [if_neg q,if_neg q];exact r g
 ·by_cases q:g=f
  ·rw [q];exact(a33 f y fs).1
  ·refine(a33 f y fs).2 g (wi g fun z=>hg ?_)
   show(if g=f then some u else mA g)=none
   rw [if_neg q];exact z
end
def Df0(K:AE)(x:Str)(st:Stmt):Prop:=∃f fd,PySem.W.nsIn K mainGlobals x=some (some (.ref f))/\Fun K x x st f fd
def Df(K:AE)(mg:Str->Option AA)(x:Str)(st:Stmt):Prop:=∃f fd,Fun K x x st f fd/\mg x=some (.ref f)
theorem b96{K:AE}{x:Str}{st:Stmt}{f:AB}{oc:AA}{od an:Option AB}{osl:Array (Option AA)}{kV doc pm cdv ct:AA}(a:PySem.W.nsIn K mainGlobals x=some (some (.ref f)))
 (l:K.lookup f=some ⟨oc,od,.func (PySem.W.fnOf x x (O9 st) (z5 st) (c9 st) .none kV doc pm an cdv ct),osl⟩) (c:PySem.W.codeIn K cdv x=true) (k:PySem.W.keepIn K (.ref f)=true):Df0 K x st:=⟨_,_,a,b4q l c k⟩
theorem Df0.to{K:AE}{h:Heap}{mg:Str->Option AA}{x:Str}{st:Stmt}(d:Df0 K x st)(X:K.In h)(G:h.Ns mainGlobals mg):Df K mg x st:=by obtain⟨f,fd,a,F⟩:=d;exact⟨f,fd,F,PySem.W.mg_of X G a⟩
theorem mkS{N P:List Str}{sc:Scope}(h1:sc.kind= .function:=by rfl)(h2:sc.isCoroutine=false:=by rfl)(h3:sc.isGenerator=false:=by rfl)(h4:N.Nodup:=by decide+kernel)(h5:N.take P.length=P:=by rfl)
 (h6:∀x∈P,sc.names.lookup x=some .local\/sc.names.lookup x=some .cell:=by decide+kernel) (h7:∀y∈sc.names,y.2≠.free:=by decide+kernel):g5 N P sc:=⟨h1,h2,h3,h4,h5,h6,h7⟩
section
variable {P:AL}{w:AJ}{K:AE}{mg:Str->Option AA}{base:Heap}
theorem r8{x:Str}{st:Stmt}{N ps:List Str}{k:Nat}{m:MS}(D:Df K mg x st)(S:g5 N ps (c9 st))
 (hi:∀(kV doc pm:AA) (an:Option AB) (cdv ct:AA) (us:List AA),us.length=ps.length->bindArgs (PySem.W.fnOf x x (O9 st) (z5 st) (c9 st) .none kV doc pm an cdv ct) ⟨us,[]⟩=pure (ps.zip us))
 (hb:∀(f:AB) (cdv:AA) (A:AM) (outer:List Env) (s:AC) (H:Hp) (E:XK),D3 k (A.deeper (envOfC x (c9 st) s.heap.objs.size f cdv))->ESs (a1k CX0 P w K mg base N x (c9 st) f cdv A outer s H E).nox (z5 st) m):
 w6 P w K mg base x ps (k+1) (E8 (N.length - ps.length) m):=
 let ⟨f,fd,F,hm⟩:=D
 ⟨f,fd,b7N F S (hb f),hm,F.kp,F.binds hi⟩
theorem b6B{fa:AB}{st:Stmt}{x:Str}{k:Nat}{g:List PV->Option d0}(D:Df K mg "law" st)(hfa:mg "law"=some (.ref fa))
 (hi:∀(kV doc pm:AA) (an:Option AB) (cdv ct v:AA),bindArgs (PySem.W.fnOf "law" "law" (O9 st) (z5 st) (c9 st) .none kV doc pm an cdv ct) ⟨[v],[]⟩=pure [(x,v)])
 (main:∀ns:List Int,ns.length<=63->g [.list (ns.map .int)]=some (.val (.bool true)))
 (H:∀(base:Heap) (f:AB) (fd:FuncData),K.In base->Fun K "law" "law" st f fd->M4 P w K mg base CX0 k f fd [x] (spP K 1 g)):
 ∃fd:FuncData,(∀(s:AC) (v:AA),BindsTo s fd ⟨[v],[]⟩ [(x,v)])/\∀base:Heap,K.In base->base.Ns mainGlobals mg->M4 P w K mg base CX0 k fa fd [x] (b0l K):=by
 obtain⟨f,fd,F,hm⟩:=D
 have e:=hfa.symm.trans hm
 cases e
 refine⟨fd,fun s v=> ?_,fun base kb _=>(H base _ fd kb F).imp (b6C main)⟩
 obtain⟨oc,od,kV,doc,pm,an,cdv,ct,osl,rfl,lk,hcd⟩:=F.ex
 exact .of_eq (hi kV doc pm an cdv ct v)
end
theorem el1{C:List AA->Prop}(h:∀a,C [a])(us:List AA)(e:us.length=1):C us:=by
 obtain⟨a,rfl⟩:=List.length_eq_one_iff.mp e
 exact h a
theorem elS{n:Nat}{us:List AA}(e:us.length=n+1):∃a t,us=a::t/\t.length=n:=by
 cases us with
 |nil=>cases e
 |cons a t=>exact⟨a,t,rfl,Nat.succ.inj e⟩
theorem el2{C:List AA->Prop}(h:∀a b,C [a,b])(us:List AA)(e:us.length=2):C us:=by
 obtain⟨a,t,rfl,z⟩:=elS e
 exact el1 (C:=fun t=>C (a::t)) (h a) t z
theorem el3{C:List AA->Prop}(h:∀a b c,C [a,b,c])(us:List AA)(e:us.length=3):C us:=by
 obtain⟨a,t,rfl,z⟩:=elS e
 exact el2 (C:=fun t=>C (a::t)) (h a) t z
def b2S(f:Str):List (PV×PV)->Option PV
 |[]=>none
 |(.str g,p)::r=>if f==g then some p else b2S f r
 |_::_=>none
def b9V:List Str->List PV->List (PV×PV)
 |f::fs,q::qs=>(.str f,q)::b9V fs qs
 |_,_=>[]
section
variable {K:AE}{F:Hp}
theorem b1R{f:Str}:∀{es:List (PV×PV)} {fs:List (Str×V)} {p:PV},a2x K F es fs->b2S f es=some p->∃v,fs.lookup f=some v/\B5 K F p v
 |[],_,_,_,h=>by cases h
 |(k,q)::es,_,p,⟨g,v,t,e,z,r,rt⟩,h=>by
  subst e;subst z
  unfold b2S at h
  rw [List.lookup_cons]
  cases hg:f==g with
  |true=>rw [hg] at h;cases h;exact⟨v,rfl,r⟩
  |false=>rw [hg] at h;exact b1R rt h
theorem b0h:∀{fs:List Str} {qs:List PV} {vs:List V},j4 K F qs vs->a2x K F (b9V fs qs) (fs.zip vs)
 |[],qs,vs,_=>rfl
 |f::fs,[],vs,h=>by cases h;rfl
 |f::fs,q::qs,vs,⟨v,t,e,r,rt⟩=>by subst e;exact⟨f,v,_,rfl,rfl,r,b0h rt⟩
end
theorem b0c{f:Str}{v:V}:∀{gs:List (Str×V)},f∉gs.map (·.1)->a4e f v gs=gs++[(f,v)]
 |[],_=>rfl
 |(g,x)::r,h=>by
  simp only [AQ,Ag,not_or] at h
  show(if g=f then _ else _)=_
  rw [if_neg fun e=>h.1 e.symm,b0c h.2];rfl
section
variable {X:Cx}
end
section
variable {P:AL}{w:AJ}{K:AE}{mg:Str->Option AA}{base:Heap}
def Dm(K:AE)(x qual:Str)(st:Stmt)(f:AB):Prop:=PySem.W.isFn K (.ref f)=true/\∃fd,Fun K x qual st f fd
theorem b98{x qual:Str}{st:Stmt}{f:AB}{oc:AA}{od an:Option AB}{osl:Array (Option AA)}{kV doc pm cdv ct:AA}
 (l:K.lookup f=some ⟨oc,od,.func (PySem.W.fnOf x qual (O9 st) (z5 st) (c9 st) .none kV doc pm an cdv ct),osl⟩) (c:PySem.W.codeIn K cdv qual=true) (k:PySem.W.keepIn K (.ref f)=true) (i:PySem.W.isFn K (.ref f)=true):Dm K x qual st f:=⟨i,_,b4q l c k⟩
end
section
variable {X:Cx}
end
def b7K(st:Stmt)(j:Nat):Stmt:=match st with
 | .ClassDef _ _ _ body _ _ _ _ _ _ _=>body.getD j st
 |_=>st
def tXS(K:Frag)(t:TA):TS:=fun D σ H=>t σ H fun vs H1=>∃a C dd ws,vs= .ref a::ws/\ws.length<=AO/\a6K K C/\H1 a=some (.ext (XQ a C dd))/\D.nx σ H1
def sX(K:Frag)(ta tv:TE)(f:Str):TS:=fun D σ H=>tv σ H fun y H1=>ta σ H1 fun x H2=>∃a C,x= .ref a/\a6K K C/\T7 K C f/\
 ((H2 a=some (.ext (XQ a C none))/\∀d,d≠a->H2 d=none->D.nx σ (t8 (t8 H2 d (.ext (XD d [(f,y)]))) a (.ext (XQ a C (some d)))))\/
  ∃d fs,H2 a=some (.ext (XQ a C (some d)))/\H2 d=some (.ext (XD d fs))/\fs.length<1000/\D.nx σ (t8 H2 d (.ext (XD d (a4e f y fs)))))
section
variable {X:Cx}
theorem b0b{CE:AB}{x:Str}{np apos cpos pos:Pos}{e:AG}{es:List AG}{t:TA}{pl:Sem Bool}(hg:Gl X x)(hm:X.mg x=some (.ref CE))(hr:readsIn X.K CE (.type "type")=true)
 (hf:findCls X.K (.ref CE) (.type "type") "__init__"=some (.val (.builtin "ValueError.__init__"))) (hs:specialIn X.K (.ref CE) "__getattribute__"=some (some (.builtin "type.__getattribute__"))) (ha:PA X (e::es) t)
 (hsw:swapsWith (.Call (.Attribute (.Name x np) "__init__" apos) (e::es) [] cpos) none pos.line X.env=pure false:=by rfl)
 (hdb:(x==("__debug__":Str))=false:=by decide) (he:AN (e::es) X.env=(false,eval e X.env)::AN es X.env:=by rfl) (hpl:(backTo cpos (AN es X.env)).any (·.1)=false:=by rfl)
 (ht:eval (.Call (.Attribute (.Name x np) "__init__" apos) (e::es) [] cpos) X.env=(do
  let ov<-eval (.Name x np) X.env
  standAt apos.atName
  let (f,first)<-holding [ov] (getMethod ov "__init__" pl)
  callWith cpos f first (backTo cpos (AN (e::es) X.env)) (backToKw cpos (keywordEach [] X.env))):=by rfl):
 PS X (.Expr (.Call (.Attribute (.Name x np) "__init__" apos) (e::es) [] cpos) pos) (tXS X.K t):=by
 have h1:PE X (.Call (.Attribute (.Name x np) "__init__" apos) (e::es) [] cpos) (fun σ H Q=>t σ H fun vs H1=>∃a C dd ws,vs= .ref a::ws/\ws.length<=AO/\a6K X.K C/\H1 a=some (.ext (XQ a C dd))/\Q .non H1):=by
  intro pins s σ H Q I h
  refine methodCall_KW (pl:=pl) (X6 I hg hm ?_ hdb) ht
  refine method_cls I.kIn hs (cls_value I.kIn hr hf rfl ?_)
  refine PyProof.Rows.callWith_builtin1 (B8 (ha cpos pins _ σ H _ (I.tok _) h) fun us s1 ⟨vs,H1,I1,r1,a,C,dd,ws,ev,hl,cx,ea,q⟩=> ?_) he hpl
  subst ev
  cases r1 with
  |cons r1 r2=>
   cases r1
   exact b5X I1 (by rw [<-r2.length];exact hl) cx ea fun s' I'=>⟨.non,H1,I',rfl,q⟩
 exact a8Z h1 hsw
theorem b2l{o value:AG}{f:Str}{ta tv:TE}{pos pos':Pos}(hx0:X.ex=[])(ha:PE X o ta)(hv:PE X value tv)(hs:swapsWith value (some (.Attribute o f pos')) pos.line X.env=pure false:=by rfl):PS X (.Assign [.Attribute o f pos'] value pos) (sX X.K ta tv f):=by
 intro pins s σ H D I h
 refine plainObj_wpAny_Assign_Attribute (B8 (hv pins s σ H _ I h) fun u s1 h0=>j8 h0 fun y H1 I1 ry q=>B8 (ha pins s1 σ H1 _ I1 q) fun ov s2 ⟨x,H2,I2,rx,a,C,ex,cx,n,q2⟩=> ?_) hs
 subst ex
 obtain rfl:ov=Value.ref a:=rx
 rcases q2 with⟨e,q2⟩|⟨d,fs,e,ed,hl,q2⟩
 ·exact b1s I2 hx0 cx n e ry fun s3 d h1 h2 I3=>⟨σ,_,I3,q2 d h1 h2⟩
 ·exact b3E I2 cx n e ed hl ry fun s3 I3=>⟨σ,_,I3,q2⟩
end
def tVs:Nat->Nat->TA
 |_,0=>b7q
 |i,n+1=>b0p (a4n i) (tVs (i+1) n)
theorem b2s{σ:L2.St}{H:Hp}:∀(n i:Nat) (ws:List V) (Q:List V->Hp->Prop),ws.length=n->(∀j w,ws[j]?=some w->σ[i+j]?=some (some w))->Q ws H->tVs i n σ H Q
 |0,_,ws,Q,h,_,q=>by cases ws with
  |nil=>exact q
  |cons _ _=>cases h
 |n+1,i,ws,Q,h,hs,q=>by
  cases ws with
  |nil=>cases h
  |cons w ws=>
   exact⟨w,hs 0 w rfl,b2s n (i+1) ws _ (Nat.succ.inj h) (fun j u hj=>by
    have:=hs (j+1) u (by simpa using hj)
    rwa [show i+(j+1)=i+1+j by lia] at this) q⟩
def tXl(K:Frag):Nat->List Str->TS
 |_,[]=>b70
 |i,f::r=>b5I (sX K (a4n 0) (a4n i) f) (tXl K (i+1) r)
theorem b2t{K:Frag}{C:AB}(c:a6K K C){a d:AB}{D:M3}{σ:L2.St}(h0:σ[0]?=some (some (.ref a))):∀(fs:List Str) (i:Nat) (gs:List (Str×V)) (ws:List V) (H:Hp),
 (∀f∈fs,T7 K C f)->fs.Nodup->(∀f∈fs,f∉gs.map (·.1))->gs.length+fs.length<=1000->ws.length=fs.length->(∀j w,ws[j]?=some w->σ[i+j]?=some (some w))->d≠a->H a=some (.ext (XQ a C (some d)))->H d=some (.ext (XD d gs))->
 D.nx σ (t8 H d (.ext (XD d (gs++fs.zip ws))))->tXl K i fs D σ H
 |[],i,gs,ws,H,_,_,_,_,_,_,_,_,hH,k=>by
  rw [List.zip_nil_left,Ak,b5P hH] at k
  exact k
 |f::fs,i,gs,ws,H,hn,nd,hd,hl,hw,hs,hda,ha,hH,k=>by
  cases ws with
  |nil=>cases hw
  |cons w ws=>
   have hl':gs.length+(fs.length+1)<=1000:=hl
   refine⟨w,hs 0 w rfl,.ref a,h0,a,C,rfl,c,hn f Aq,.inr ⟨d,gs,ha,hH,by lia, ?_⟩⟩
   have hp:=b0c (v:=w) (hd f Aq)
   rw [hp]
   rw [List.nodup_cons] at nd
   refine b2t c h0 fs (i+1) (gs++[(f,w)]) ws _ (fun g hg=>hn g (An _ hg)) nd.2 (fun g hg=> ?_) (by simp only [Ar,AT,Ae];lia) (Nat.succ.inj hw) (fun j u hj=> ?_) hda (by rw [g6 (Ne.symm hda)];exact ha) j7 ?_
   ·simp only [BF,AQ,AW,BB,List.mem_singleton,not_or]
    exact⟨hd g (An _ hg),fun e=>nd.1 (e▸hg)⟩
   ·have:=hs (j+1) u (by simpa using hj)
    rwa [show i+(j+1)=i+1+j by lia] at this
   ·rw [b2w,List.append_assoc]
    exact k
def b7n(C:AB)(fs:List Str):Sp:=fun vs H Q _=>∃a ws,vs= .ref a::ws/\ws.length=fs.length/\H a=some (.ext (XQ a C none))/\∀d,d≠a->H d=none->Q .non (t8 (t8 H d (.ext (XD d (fs.zip ws)))) a (.ext (XQ a C (some d))))
theorem b6k{P:AL}{w:AJ}{K:Frag}{mg:Str->Option AA}{base:Heap}{qual:Str}{st:Stmt}{f C:AB}{fd:FuncData}{ps:List Str}{f0:Str}{fs:List Str}{k:Nat}(F:Fun K "__init__" qual st f fd)(S:g5 ps ps (c9 st))(hl:ps.length=fs.length+2)
 (c:a6K K C) (na:∀f∈f0::fs,T7 K C f) (nd:(f0::fs).Nodup) (hs:fs.length<=900)
 (hb:∀(cdv:AA) (A:AM) (outer:List Env) (s:AC) (H:Hp) (E:XK),D3 k (A.deeper (envOfC qual (c9 st) s.heap.objs.size f cdv))->PSs (a1k CX0 P w K mg base ps qual (c9 st) f cdv A outer s H E).nox (z5 st) (b5I (tXS K (tVs 0 (fs.length+2))) (tXl K 1 (f0::fs)))):
 M4 P w K mg base CX0 (k+1) f fd ps (b7n C (f0::fs)):=by
 refine F.ok S (fun vs H Q E h=> ?_) (fun cdv A outer s H vs Q E hr h=> ?_)
 ·obtain⟨a,ws,rfl,h2,_⟩:=h
  rw [AT,h2,hl];rfl
 ·obtain⟨a,ws,rfl,h2,hH,q⟩:=h
  refine⟨_,hb cdv A outer s H E hr, ?_⟩
  have at_:∀j u,(V.ref a::ws)[j]?=some u->(a0r ps (V.ref a::ws))[0+j]?=some (some u):=fun j u hj=>by
   unfold L2.a0r
   rw [Nat.zero_add,BD (by rw [Ac];exact(As.mp hj).1),Al,hj]
   rfl
  have hw:ws.length=fs.length+1:=h2
  unfold b5I tXS
  refine b2s (σ:=a0r ps (V.ref a::ws)) (H:=H) (fs.length+2) 0 (V.ref a::ws) _ (by rw [AT,hw]) at_ ?_
  refine⟨a,C,none,ws,rfl,by rw [sizeLine_eq];lia,c,hH, ?_⟩
  cases ws with
  |nil=>cases hw
  |cons w1 ws=>
   rw [List.nodup_cons] at nd
   refine⟨w1,at_ 1 w1 rfl,.ref a,at_ 0 _ rfl,a,C,rfl,c,na f0 Aq,.inl ⟨hH,fun d h1 h3=> ?_⟩⟩
   refine b2t (d:=d) c (at_ 0 _ rfl) fs 2 [(f0,w1)] ws _ (fun g hg=>na g (An _ hg)) nd.2 (fun g hg z=>nd.1 (by have e:g=f0:=List.mem_singleton.mp z;rw [<-e];exact hg)) (by simp only [AT,Ae];lia) (Nat.succ.inj hw) (fun j u hj=> ?_) h1 j7 (by rw [g6 h1,j7]) ?_
   ·have:=at_ (j+2) u (by simpa using hj)
    rwa [show 0+(j+2)=2+j by lia] at this
   ·rw [b0s (Ne.symm h1),b2w]
    exact q d h1 h3
def rem(H:Hp)(a:AB):Hp:=fun b=>if b=a then none else H b
theorem b0g{H:Hp}{a:AB}:rem H a a=none:=by unfold rem;rw [if_pos rfl]
theorem a2P{H:Hp}{a b:AB}(h:b≠a):rem H a b=H b:=by unfold rem;rw [if_neg h]
section
variable {X:Cx}{pins:List (AB×Obj)}{σ:L2.St}{H:Hp}{s:AC}
theorem _root_.L2.e9.untrack{a:AB}{φ:Heap->Prop}(I:e9 X pins σ H s)(e:H a=some (.ext φ)):e9 X pins σ (rem H a) s:=by
 have no:∀b u,H b=some u->(∀φ,u≠.ext φ)->b≠a:=fun b u q n z=>by
  rw [z,e] at q
  cases q
  exact n φ rfl
 have dn:∀b,H b=none->rem H a b=none:=fun b h=>by
  by_cases hb:b=a
  ·rw [hb,b0g]
  ·rw [a2P hb];exact h
 exact⟨I.ok,I.os,I.bare,⟨I.base.keep,I.base.slot,fun b ob q n hx=>dn b (I.base.free b ob q n hx),I.base.there,
  fun b xs q=>by have:=I.base.tups b xs q;rw [a2P (no b _ this fun _ z=>nomatch z)];exact this,
  fun b ob u q=>by have:=I.base.frzs b ob u q;rw [a2P (no b _ this fun _ z=>nomatch z)];exact this,
  fun b ps q=>by obtain⟨more,this⟩:=I.base.tbls b ps q;exact⟨more,by rw [a2P (no b _ this fun _ z=>nomatch z)];exact this⟩⟩,
  I.loc,I.cell,dn _ I.free,fun x c q=>dn _ (I.freeC x c q),fun p hp=>by
   obtain⟨h1,h2,h3⟩:=I.pin p hp
   exact⟨h1,dn _ h2,h3⟩,fun b u q=>by
   by_cases hb:b=a
   ·rw [hb,b0g] at q;cases q
   ·rw [a2P hb] at q
    exact(I.hok b u q).stay (fun c v _ z=>z) (fun c z=>by rw [a2P (no c _ z fun _ y=>nomatch y)];exact z) fun c xs z=>by rw [a2P (no c _ z fun _ y=>nomatch y)];exact z,I.len⟩
end
theorem b08{K:Frag}{h:Heap}{N:AB}{mg:Str->Option AA}{n:Str}{v:AA}(X:K.In h)(G:h.Ns N mg)(e:nsIn K N n=some (some v)):mg n=some v:=by
 obtain⟨o,es,ep,ho,hd,_,hf⟩:=G
 unfold nsIn at e
 split at e
 ·rename_i c d es' n' sl q
  have:=X _ _ q
  rw [ho] at this
  cases this
  cases hd
  split at e
  ·rename_i en he
   cases e
   rw [<-hf]
   unfold nsFind findBy
   rw [<-Array.find?_toList,he]
   rfl
  ·split at e<;>cases e
 ·cases e
def a3Y(K:Frag)(C f:AB):Bool:=b4l K C fun ns=>nsOkIn K ns && nsIn K ns "__init__"==some (some (.ref f))
theorem b7F{K:Frag}{h:Heap}{C f:AB}(X:K.In h)(q:a3Y K C f=true):∃tl N nm q bs hdct sn sub ab col dd k0 k1 k2 k3 k5,
 h.get? C=some (excClassObj nm q C N bs tl hdct sn sub ab col dd k0 k1 k2 k3 k5 "ValueError.__new__")/\h.Ns N (h.nsMap N)/\h.nsMap N "__init__"=some (.ref f)/\OwnTail h a3r tl:=by
 obtain⟨tl,N,nm,q,bs,hdct,sn,sub,ab,col,dd,k0,k1,k2,k3,k5,h1,h2,h3⟩:=b1Q X q
 rw [Bool.and_eq_true] at h3
 have h5:=Heap.Ns.of_isNs (isNs_of_in X h3.1)
 exact⟨tl,N,nm,q,bs,hdct,sn,sub,ab,col,dd,k0,k1,k2,k3,k5,h1,h5,b08 X h5 (beq_iff_eq.mp h3.2),h2⟩
theorem b8x{K:Frag}{f:AB}(h:PySem.W.isFn K (.ref f)=true):∃o,K.lookup f=some o/\o.cls= .type "function":=by
 have h:(K.lookup f).map (·.cls)=some (.type "function"):=beq_iff_eq.mp h
 obtain⟨o,h1,h2⟩:=Option.map_eq_some_iff.mp h
 exact⟨o,h1,h2⟩
section
variable {X:Cx}{x:Str}{C:AB}{np cpos pos:Pos}{e₀:AG}{rest:List AG}{t:TA}{W:Option AB->Hp->Prop}
theorem b3v{k:Nat}{f:AB}{fd:FuncData}{ps:List Str}{f0:Str}{fs:List Str}(G:M4 X.prog X.w X.K X.mg X.base CX0 k f fd ps (b7n C (f0::fs)))(hr:D3 (k+1) X.A)(hb:Z2 X.K fd ps [])(hi:a3Y X.K C f=true)(hfn:PySem.W.isFn X.K (.ref f)=true)
 (hc:X.calm=true) (hx0:X.ex=[]) (hg:Gl X x) (hm:X.mg x=some (.ref C)) (ha:PA X (e₀::rest) t)
 (hxe:∀(pins:List (AB×Obj)) (σ:L2.St) (H:Hp) (s:AC) (a:AB) (dd:Option AB),e9 X pins σ H s->Ex0 s.heap a C dd->X.s₀.heap.get? a=none->H a=none->W dd H->X.xe (.ref a) s)
 (he:AN (e₀::rest) X.env=(false,eval e₀ X.env)::AN rest X.env:=by rfl) (hplain:(backTo cpos (AN rest X.env)).any (·.1)=false:=by rfl) (hdb:(x==("__debug__":Str))=false:=by decide):
 PS X (.Raise (some (.Call (.Name x np) (e₀::rest) [] cpos)) none pos) (fun _ σ H=>t σ H fun vs H1=>vs.length=fs.length+1/\vs.length<=AO/\∀d,H1 d=none->W (some d) (t8 H1 d (.xd ((f0::fs).zip vs)))):=by
 intro pins s σ H D I h
 obtain⟨tl,N,nm,q,bs,hdct,sn,sub,ab,col,dd,k0,k1,k2,k3,k5,hC,hN,hni,T⟩:=b7F I.ok.mod.kin hi
 obtain⟨oI,hoI,hfc⟩:=b8x hfn
 have FB:=F.excBase_ValueError
 refine b0e (C:=C) (nm:=nm) (q:=q) (N:=N) (bs:=bs) (bm:=tl) (hdct:=hdct) (sn:=sn) (sub:=sub) (ab:=ab) (col:=col) (dd:=dd) (k0:=k0) (k1:=k1) (k2:=k2) (k3:=k3) (k5:=k5)
  FB (T.hasType FB.hasBase) (I.ok.hd hc) (by rw [he];show(false||(backTo cpos (AN rest X.env)).any (·.1))=false;rw [hplain];rfl) hni hfc (X6 I hg hm ⟨rfl, ?_⟩ hdb)
 have hA:=ha cpos pins s σ H _ I h
 rw [he] at hA ⊢
 refine Calls.evalArgs_plain (B8 hA fun us s2 ⟨vs,H2,I2,r2,hlen,hl,q2⟩=>⟨rfl,by rw [<-r2.length];exact hl,I2.bk _ _ hC,hN.keeps I2.bk,T.keeps I2.bk,I2.kIn _ _ hoI,fun h' e hmk=> ?_⟩)
 obtain⟨tt,h1,_,_⟩:=hmk.there
 have hn:H2 e=none:=by
  cases h:H2 e with
  |none=>rfl
  |some o=>
   obtain⟨ob,z⟩:=a5u (I2.hok e o h)
   rw [hmk.new] at z;cases z
 have ap:Ap X pins e:=apart I2 hx0 hmk.new
 have I3:e9 X pins σ H2 {s2 with heap:=h'}:=I2.kept (t':=s2.toks) hmk.keeps
 have I4:=I3.track (o:= .ext (XQ e C none)) hn ap (XQ.ok ⟨tt,h1⟩)
 have r4:l9 (V.ref e::vs) (Value.ref e::us):= .cons rfl r2
 have sp:b7n C (f0::fs) (V.ref e::vs) (t8 H2 e (.ext (XQ e C none))) (fun v H3=>v= .non/\∃d,d≠e/\H2 d=none/\H3=t8 (t8 (t8 H2 e (.ext (XQ e C none))) d (.ext (XD d ((f0::fs).zip vs)))) e (.ext (XQ e C (some d)))) (fun _ _ _=>False):=
  ⟨e,vs,rfl,hlen,j7,fun d h1 h2=>⟨rfl,d,h1,by rw [g6 h1] at h2;exact h2,rfl⟩⟩
 have hps:(Value.ref e::us).length=ps.length:=by rw [<-r4.length];exact G.len _ _ _ _ sp
 have hb':=hb {s2 with heap:=h'} (Value.ref e::us) I4.kIn (by rw [Ak];exact hps)
 rw [Ak] at hb'
 refine wpAny_call (codeAny_mono (G.run _ X.stack _ _ ⟨Value.ref e::us,[]⟩ (Value.ref e::us) _ _ (fun _ _ _=>False) (hr.make C us []) (I4.env0.make C us []) hb' r4 sp) fun r s' hq'=> ?_)
 cases r with
 |error e=>exact b7V pins σ _ _ e s' I4 hq'
 |ok fl=>
  cases fl with
  |ret u=>
   obtain⟨v,H',I5,rv,ev,d,hde,hd2,eH⟩:=I4.after hq'
   subst ev
   subst eH
   have e5:t8 (t8 (t8 H2 e (.ext (XQ e C none))) d (.ext (XD d ((f0::fs).zip vs)))) e (.ext (XQ e C (some d))) d=some (.ext (XD d ((f0::fs).zip vs))):=by rw [g6 hde,j7]
   obtain⟨t2,h2⟩:=(I5.hok e _ j7).1
   obtain⟨mA,hns,rel,_⟩:=(I5.hok d _ e5).1
   have I6:=I5.write (x:=d) (e:=d) (o:= .xd ((f0::fs).zip vs)) (h':=s'.heap) (t':=s'.toks) (by rw [e5];trivial) (.inl rfl) (fun b u hb z=>z) (let ⟨o,_,_,z,_⟩:=hns;⟨o,z⟩) ⟨mA,hns,rel⟩
   have I7:=I6.untrack (a:=e) (φ:=XQ e C (some d)) (by rw [g6 (Ne.symm hde),j7])
   have eq:rem (t8 (t8 (t8 (t8 H2 e (.ext (XQ e C none))) d (.ext (XD d ((f0::fs).zip vs)))) e (.ext (XQ e C (some d)))) d (.xd ((f0::fs).zip vs))) e=t8 H2 d (.xd ((f0::fs).zip vs)):=by
    funext b
    unfold rem t8
    by_cases hb:b=e
    ·rw [if_pos hb,if_neg (by rw [hb];exact Ne.symm hde),hb,hn]
    ·rw [if_neg hb]
     by_cases hb2:b=d
     ·rw [if_pos hb2,if_pos hb2]
     ·rw [if_neg hb2,if_neg hb2,if_neg hb,if_neg hb2,if_neg hb]
   rw [eq] at I7
   refine⟨rv,I5.bk _ _ hC,⟨_,_,h2,rfl,rfl,rfl⟩, ?_⟩
   exact hxe pins σ _ s' e (some d) I7 ⟨_,_,h2,rfl,rfl,rfl,rfl⟩ ap.1 (by rw [g6 (Ne.symm hde)];exact hn) (q2 d hd2)
  |next=>exact False.elim hq'
  |brk=>exact False.elim hq'
  |cont=>exact False.elim hq'
end
def b2D(P:AL)(w:AJ)(K:Frag)(mg:Str->Option AA)(base:Heap)(x:Str)(fs:List Str)(k:Nat):Prop:=
 ∃C f fd ps f0 r,fs=f0::r/\fs.length<=900/\M4 P w K mg base CX0 k f fd ps (b7n C (f0::r))/\mg x=some (.ref C)/\Z2 K fd ps []/\a3Y K C f=true/\PySem.W.isFn K (.ref f)=true
def b2e(x:Str)(fs:List Str)(m:MA):MX:=fun ρ=>(m ρ).bind fun qs=>some (.rz ⟨x,b9V fs qs⟩ ρ)
section
variable {X:Cx}
theorem a7j{E1:XK}{k k':Nat}{fs:List Str}{x:Str}{np cpos pos:Pos}{e₀:AG}{rest:List AG}{m:MA}(hc:X.calm=true)(hx0:X.ex=[])(hg:Gl X x)(d:b2D X.prog X.w X.K X.mg X.base x fs k)(hr:D3 k' X.A)(hk:k+1<=k')(hn:∀ρ qs,m ρ=some qs->qs.length=fs.length)(ha:EA X (e₀::rest) m)
 (hxe:∀(pins:List (AB×Obj)) (σ:L2.St) (H:Hp) (s:AC) (a C:AB) (dd:Option AB),e9 X pins σ H s->Ex0 s.heap a C dd->X.s₀.heap.get? a=none->H a=none->E1 (.ref C) dd H->X.xe (.ref a) s)
 (he:AN (e₀::rest) X.env=(false,eval e₀ X.env)::AN rest X.env:=by rfl) (hplain:(backTo cpos (AN rest X.env)).any (·.1)=false:=by rfl) (hdb:(x==("__debug__":Str))=false:=by decide):
 EX X (fun _=>E1) (.Raise (some (.Call (.Name x np) (e₀::rest) [] cpos)) none pos) (b2e x fs m):=by
 obtain⟨C,f,fd,ps,f0,r,rfl,hl,G,hm,hb,hi,hfn⟩:=d
 refine x6 (b3v (W:=fun dd H=>E1 (.ref C) dd H) G (hr.mono hk) hb hi hfn hc hx0 hg hm ha (fun pins σ H s a dd I x h0 hn w=>hxe pins σ H s a C dd I x h0 hn w) he hplain hdb) fun D σ H h0=>a2S h0 fun F0 H0 F ρ fx so e fin=> ?_
 obtain⟨qs,e1,e⟩:=bind_some e
 cases e
 obtain⟨C',h1,h2⟩:=fin
 have h1:X.mg x=some (.ref C'):=h1
 rw [hm] at h1
 cases h1
 refine⟨F,ρ,qs,so.e,e1,fun vs F1 H1 y rl=> ?_⟩
 have hq:=hn _ _ e1
 have hv:vs.length=r.length+1:=by rw [rl.length,hq];rfl
 have hl':r.length+1<=900:=hl
 refine⟨hv,by rw [hv,sizeLine_eq];lia,fun d hd=> ?_⟩
 have x3:W6 F1 H1 (t8 F1 d (.xd ((f0::r).zip vs))) (t8 H1 d (.xd ((f0::r).zip vs))):=W6.lay y.fh hd
 refine h2 σ (some d) _ _ (y.trans x3).f (so.ext (y.trans x3)) (.inr ⟨d,_,rfl,j7, ?_,a2x.mono x3.f _ (b0h rl)⟩)
 cases qs with
 |nil=>cases hq
 |cons q qs=>intro z;cases z
end
def a4r(K:Frag)(tab:List Str)(f:Str):Prop:=∀x,tab.contains x=true->∀C,K3 K x C->a6K K C/\T7 K C f
def gFx(tab:List Str)(f:Str)(r:d0):Option d0:=match r with
 | .val (.dict ((.str x,.int 0)::es))=>if tab.contains x=true then(b2S f es).map .val else none
 |_=>none
theorem c0X{K:Frag}{F:Hp}{x:Str}{es:List (PV×PV)}{v:V}(h:B5 K F (.dict ((.str x,.int 0)::es)) v):∃(a C dx:AB) (φ:Heap->Prop) (fs:List (Str×V)),v= .ref a/\F a=some (.ext φ)/\(∀h:Heap,φ h->∃oe vs,h.get? a=some oe/\oe.cls= .ref C/\oe.data= .fields vs/\oe.dict=some dx)/\F dx=some (.xd fs)/\K3 K x C/\a2x K F es fs:=by
 rcases h with⟨a,ys,_,_,kk,w,t,_,z,_⟩|⟨a,ys,_,_,kk,w,t,_,z,_⟩|⟨y,t,e,h⟩|⟨y,m,fs,ho,hf⟩
 ·cases z
 ·cases z
 ·cases e
  rcases h with⟨z,_⟩|⟨z,_⟩<;>cases z
 ·obtain⟨g,v',t,e,z,r,rt⟩:=hf
  cases e;cases z
  rcases ho with⟨rfl,_⟩|⟨rfl,a,C,dx,φ,e,q,k,d,n⟩
  ·cases r
  ·exact⟨a,C,dx,φ,fs,e,q,k,d,n,rt⟩
section
variable {X:Cx}
theorem b7L{tab:List Str}{f:Str}{e:AG}{m:M}{pos:Pos}(T:a4r X.K tab f)(ha:EE X e m)(hb:attributeBase e f X.env (eval e X.env)=eval e X.env:=by rfl):EE X (.Attribute e f pos) (m1 (gFx tab f) m):=by
 have h0:PE X (.Attribute e f pos) (fun σ H Q=>tM X.K m σ H fun v H1=>∃F1 x es q,j5 F1 H1/\B5 X.K F1 (.dict ((.str x,.int 0)::es)) v/\tab.contains x=true/\b2S f es=some q/\∀u,B5 X.K F1 q u->Q u H1):=by
  intro pins s σ H Q I h
  refine b52 hb (B8 (ha pins s σ H _ I h) fun u s1 ⟨v,H1,I1,rx,F1,x,es,q,sm,rp,hc,hp,k⟩=> ?_)
  obtain⟨a,C,dx,φ,fs,rfl,q1,k1,d1,nm,hr⟩:=c0X rp
  obtain rfl:u=Value.ref a:=rx
  obtain⟨oe,vs,g1,g2,g3,g4⟩:=k1 _ (I1.hok a _ (sm _ _ q1)).1
  obtain⟨mA,hns,rel⟩:=I1.hok dx _ (sm _ _ d1)
  obtain⟨v2,hl,rv⟩:=b1R hr hp
  obtain⟨cx,n⟩:=T x hc C nm
  obtain⟨u2,hu,ru⟩:=a2V.some_of (v:=v2) (o:=mA f) (by rw [<-hl];exact rel f)
  exact c03 I1.kIn g1 g2 g4 ⟨vs,g3⟩ hns cx.ov n cx.ga cx.gg hu (b2X ru) ⟨v2,H1,I1.tok _,ru,k v2 rv⟩
 exact u6 h0 fun σ H Q h0=>t6 h0 fun F ρ r en em k=>by
  obtain⟨rx,e1,e2⟩:=bind_some em
  refine⟨F,ρ,rx,en,e1,fun v F1 H1 o=> ?_⟩
  unfold gFx at e2
  split at e2
  ·rename_i x es
   split at e2
   ·rename_i hc
    cases hp:b2S f es with
    |none=>rw [hp] at e2;cases e2
    |some q=>
     rw [hp] at e2;cases e2
     exact⟨F1,x,es,q,o.x.fh,o.rep,hc,hp,fun u ru=>k u F1 H1 (r9.val o.x ru)⟩
   ·cases e2
  ·cases e2
end
structure KX(K:Frag)(x:Str)(C:AB):Prop where
 cls:a6K K C
 named:K3 K x C
def b6A(K:Frag)(C:AB):Bool:=a3X K C && findIn K (.ref C) "__setattr__"==some (some (.builtin "object.__setattr__"))&& findIn K (.ref C) "__getattribute__"==some (some (.builtin "BaseException.__getattribute__"))&& findIn K (.ref C) "__getattr__"==some none && a40 K C
theorem b7R{K:Frag}{x:Str}{C:AB}(e:nsIn K mainGlobals x=some (some (.ref C)))(q:(Y7 K C x && b6A K C)=true):KX K x C:=by
 rw [Bool.and_eq_true] at q
 obtain⟨q1,q2⟩:=q
 unfold b6A at q2
 simp only [Bool.and_eq_true,beq_iff_eq] at q2
 obtain⟨⟨⟨⟨h1,h2⟩,h3⟩,h4⟩,h5⟩:=q2
 refine⟨⟨h1,h2,h3,h4,h5⟩,e, ?_⟩
 unfold Y7 at q1
 split at q1
 ·rename_i oc od cd sl hk
  exact⟨oc,od,cd,sl,hk,beq_iff_eq.mp q1⟩
 ·cases q1
theorem a7m{K:Frag}{f:Str}:a4r K [] f:=fun _ h=>nomatch h
theorem a5N{K:Frag}{f x:Str}{C:AB}{t:List Str}(c:KX K x C)(n:T7 K C f)(h:a4r K t f):a4r K (x::t) f:=fun y q D nm=>by
 rw [List.contains_cons,Bool.or_eq_true] at q
 rcases q with q|q
 ·rw [beq_iff_eq.mp q] at nm
  cases nm.uniq c.named
  exact⟨c.cls,n⟩
 ·exact h y q D nm
section
variable {P:AL}{w:AJ}{K:Frag}{mg:Str->Option AA}{base:Heap}
theorem a9O{x qual:Str}{st:Stmt}{ps:List Str}{f0:Str}{fs:List Str}{k:Nat}{f C:AB}(D:Dm K "__init__" qual st f)(S:g5 ps ps (c9 st))(hl:ps.length=fs.length+2)(c:KX K x C)(hm:mg x=some (.ref C))(hi0:a3Y K C f=true)(na:∀f∈f0::fs,T7 K C f)(nd:(f0::fs).Nodup)(hs:fs.length<=800)
 (hi:∀(kV doc pm:AA) (an:Option AB) (cdv ct:AA) (us:List AA),us.length=ps.length->bindArgs (PySem.W.fnOf "__init__" qual (O9 st) (z5 st) (c9 st) .none kV doc pm an cdv ct) ⟨us,[]⟩=pure (ps.zip us))
 (hb:∀(cdv:AA) (A:AM) (outer:List Env) (s:AC) (H:Hp) (E:XK),D3 k (A.deeper (envOfC qual (c9 st) s.heap.objs.size f cdv))->PSs (a1k CX0 P w K mg base ps qual (c9 st) f cdv A outer s H E).nox (z5 st) (b5I (tXS K (tVs 0 (fs.length+2))) (tXl K 1 (f0::fs)))):
 b2D P w K mg base x (f0::fs) (k+1):=
 let ⟨i,fd,F⟩:=D
 ⟨C,f,fd,ps,f0,fs,rfl,by rw [AT];lia,b6k F S hl c.cls na nd (by lia) hb,hm,F.binds hi,hi0,i⟩
end
theorem b3N{K:Frag}{C:AB}{fs:List Str}(h:fs.all (fun g=>findIn K (.ref C) g==some none)=true):∀g∈fs,T7 K C g:=fun g hg=>beq_iff_eq.mp (List.all_eq_true.mp h g hg)
def a2e(body:MX)(tg:PV->a9->Option a9):List PV->a9->Option FX
 |[],ρ=>some (.fl (.nx ρ))
 |p::ps,ρ=>(tg p ρ).bind fun ρ1=>(body ρ1).bind fun fx=>match fx with
  | .fl (.nx ρ')=>a2e body tg ps ρ'
  | .fl (.ct ρ')=>a2e body tg ps ρ'
  | .fl (.bk ρ')=>some (.fl (.nx ρ'))
  | .fl (.rt r)=>some (.fl (.rt r))
  | .rz c ρ'=>some (.rz c ρ')
def a4O(it:MI)(tg:PV->a9->Option a9)(body:MX):MX:=fun ρ=>(it ρ).bind fun ps=>a2e body tg ps ρ
theorem b2U{body:MX}{tg:PV->a9->Option a9}{ps:List PV}{p:PV}{ρ:a9}{fl:FX}(h:a2e body tg (p::ps) ρ=some fl):∃ρ1 f1,tg p ρ=some ρ1/\body ρ1=some f1/\(match f1 with
 | .fl (.nx ρ')=>a2e body tg ps ρ'
 | .fl (.ct ρ')=>a2e body tg ps ρ'
 | .fl (.bk ρ')=>some (.fl (.nx ρ'))
 | .fl (.rt r)=>some (.fl (.rt r))
 | .rz c ρ'=>some (.rz c ρ'))=some fl:=by
 unfold a2e at h
 obtain⟨ρ1,e1,h⟩:=bind_some h
 obtain⟨f1,e2,h⟩:=bind_some h
 exact⟨ρ1,f1,e1,e2,h⟩
def PvX(K:AE)(F0 H0 F1:Hp)(body:MX)(tg:PV->a9->Option a9)(ps:List PV)(fl:FX)(k:Nat)(σ:L2.St)(H:Hp):Prop:=
 ∃F ρ,j5 F1 F/\SOk K F0 H0 F H σ ρ/\a2e body tg (ps.drop k) ρ=some fl
section
variable {K:AE}{mg:Str->Option AA}{E:L2.St->XK}{F0 H0 F1:Hp}{body:MX}{tg:PV->a9->Option a9}{g:TG}{ps:List PV}{fl:FX}{D:M3}{k:Nat}{p:PV}{x:V}{σ σ0:L2.St}{H:Hp}
theorem b4n{F:Hp}{f1:FX}{N:L2.St->Hp->Prop}{rs:List PV}(fin:a4Y K mg E F0 H0 F1 σ0 D fl)(up:j5 F1 F)
 (hN:∀σ' F' H' ρ',j5 F F'->SOk K F0 H0 F' H' σ' ρ'->a2e body tg rs ρ'=some fl->N σ' H')
 (e3:(match f1 with
 | .fl (.nx ρ')=>a2e body tg rs ρ'
 | .fl (.ct ρ')=>a2e body tg rs ρ'
 | .fl (.bk ρ')=>some (.fl (.nx ρ'))
 | .fl (.rt r)=>some (.fl (.rt r))
 | .rz c ρ'=>some (.rz c ρ'))=some fl):a4Y K mg E F0 H0 F σ {D with nx:=N,ct:=N,bk:=D.nx} f1:=by
 cases f1 with
 |rz c ρ'=>cases e3;exact a4Y.later (σ0:=σ0) (fx:= .rz c ρ') up fin
 |fl f=>
  cases f with
  |nx ρ'=>exact fun σ2 F2 H2 s2 so2=>hN σ2 F2 H2 ρ' s2 so2 e3
  |ct ρ'=>exact fun σ2 F2 H2 s2 so2=>hN σ2 F2 H2 ρ' s2 so2 e3
  |bk ρ'=>cases e3;exact fun σ2 F2 H2 s2 so2=>fin σ2 F2 H2 (up.trans s2) so2
  |rt r=>cases e3;exact fun v F' H' o=>a4Y.later (fx:= .fl (.rt r)) (σ1:=σ0) up fin v F' H' o
theorem a7y(fin:a4Y K mg E F0 H0 F1 σ0 D fl)(hp:PvX K F0 H0 F1 body tg ps fl ps.length σ H):D.nx σ H:=by
 obtain⟨F,ρ,s,so,e⟩:=hp
 rw [List.drop_length] at e
 cases e
 exact fin σ F H s so
theorem a56(T:a9o K g tg)(fin:a4Y K mg E F0 H0 F1 σ0 D fl)(ep:ps[k]?=some p)
 (hp:PvX K F0 H0 F1 body tg ps fl k σ H) (rx:∀F,j5 F1 F->B5 K F p x):
 g x σ H fun σ2 H2=>tMX K mg E body {D with nx:=PvX K F0 H0 F1 body tg ps fl (k+1),ct:=PvX K F0 H0 F1 body tg ps fl (k+1),bk:=D.nx} σ2 H2:=by
 obtain⟨F,ρ,s,so,e⟩:=hp
 have hk:k<ps.length:=(As.mp ep).1
 have hd:ps.drop k=p::ps.drop (k+1):=by
  rw [List.drop_eq_getElem_cons hk]
  congr 1
  exact(As.mp ep).2
 rw [hd] at e
 obtain⟨ρ1,f1,e1,e2,e3⟩:=b2U e
 refine T F0 H0 F H σ ρ ρ1 p x _ so (rx F s) e1 fun σ' so'=>⟨F0,H0,F,ρ1,f1,so',e2, ?_⟩
 exact b4n (σ0:=σ0) fin s (fun σ' F' H' ρ' s2 so2 e=>⟨F',ρ',s.trans s2,so2,e⟩) e3
end
section
variable {X:Cx}{E:L2.St->XK}
theorem b8t{tg iter:AG}{body:List Stmt}{m:M}{g:TG}{t:PV->a9->Option a9}{b:MX}{pos:Pos}(hp:PassesOwn (model X.prog X.w) X.A X.env X.xe)(hc:X.calm=true)(hi:EE X iter m)(hg:PG X tg g)(T:a9o X.K g t)(hb:EXs X E body b)
 (hs:∀x,foldedSetIterable iter X.env x=pure x:=by intro _;rfl):EX X E (.For tg iter body [] pos) (a4O (I0 m) t b):=
 x6 (a6n hp hc (b1i hi) hg hb hs) fun D σ H h0=>a2S h0 fun F0 H0 F ρ fl so e fin=>by
  obtain⟨ps,e1,e⟩:=bind_some e
  obtain⟨q,e1,e2⟩:=bind_some e1
  obtain⟨r,e1,e3⟩:=bind_some e1
  refine⟨F,ρ,r,so.e,e1,fun v F' H' o=> ?_⟩
  obtain⟨F1,o1⟩:=o.toVal e3
  have fin1:=a4Y.later (σ1:=σ) o1.x.f fin
  have so1:=so.ext o1.x
  obtain⟨a,xs,rfl,hq,rl⟩:=A9 (F:=F1) (H:=F1) (PU.j5.refl F1) (show N2 X.K F1 F1 v (.val q) from o1.rep) e2
  have hlen:=rl.length
  have get:∀k x,xs[k]?=some x->∃p,ps[k]?=some p/\∀F,j5 F1 F->B5 X.K F p x:=fun k x ex=>by
   obtain⟨p,ep,rp⟩:=rl.getV ex
   exact⟨p,ep,fun F s=>B5.mono s _ rp⟩
  rcases hq with hq|hq
  ·refine⟨a,rfl,.inl ⟨⟨xs,x9 o1.x.fh hq⟩,a9G (K:=X.K) (a:=a) (xs:=xs) (PvX X.K F0 H0 F1 b t ps fl) ⟨F1,ρ,PU.j5.refl F1,so1,e⟩ (fun k σ H _ ⟨F,_,s,so2,_⟩=>x9 (s.trans so2.e.fh) hq) (fun k x σ H ex hp=> ?_) (fun σ H hp=> ?_)⟩⟩
   ·obtain⟨p,ep,rp⟩:=get k x ex
    exact a56 T fin1 ep hp rp
   ·rw [hlen] at hp
    exact a7y fin1 hp
  ·refine⟨a,rfl,.inr ⟨⟨xs,u8 o1.x.fh hq⟩,b1T (K:=X.K) (a:=a) (xs:=xs) (PvX X.K F0 H0 F1 b t ps fl) ⟨F1,ρ,PU.j5.refl F1,so1,e⟩ (fun k σ H _ ⟨F,_,s,so2,_⟩=>u8 (s.trans so2.e.fh) hq) (fun k x σ H ex hp=> ?_) (fun σ H hp=> ?_)⟩⟩
   ·obtain⟨p,ep,rp⟩:=get k x ex
    exact a56 T fin1 ep hp rp
   ·rw [hlen] at hp
    exact a7y fin1 hp
end
def byT(w:AJ):Bool:=w.params.followText "set-order"
def D4(prog:AL)(w:AJ)(h:Heap)(a:AB)(es:Array (Int×AA))(ep:Nat):Prop:=
 ∃o t,h.get? a=some o/\o.ExactSet/\o.data= .set es ep t/\ElemsOf (l0 prog w) es.toList/\es.size<scanBound/\t.fits es.size=true/\t.led= !byT w/\(es.size≠0->t.plain=false)
def sOf:AA->Str
 | .str x _=>x
 |_=>⟨#[]⟩
abbrev a5Z(es:Array (Int×AA)):List Str:=es.toList.map fun e=>sOf e.2
structure TxE(es:Array (Int×AA))(zs:List Str):Prop where
 all:∀e∈es.toList,∃x t,e.2= .str x t
 nd:(a5Z es).Nodup
 mem:∀x,x∈a5Z es↔x∈zs
theorem D4.at'{prog:AL}{w:AJ}{h h':Heap}{a:AB}{es:Array (Int×AA)}{ep:Nat}(x:D4 prog w h a es ep)(e:∀o,h.get? a=some o->h'.get? a=some o):D4 prog w h' a es ep:=
 let ⟨o,t,ho,r⟩:=x;⟨o,t,e _ ho,r⟩
theorem b0U(t:SetTable)(es:Array (Int×AA))(h:Int)(x:AA):(layNew t es h x).2.1.led=t.led:=by
 unfold layNew
 split
 ·show(SetTable.orStandIn _ _).led=t.led
  unfold SetTable.orStandIn
  split<;>rfl
 ·rfl
theorem a82(t:SetTable)(es:Array (Int×AA))(n:Nat):(relayAll t es n).2.1.led=t.led:=by
 unfold relayAll
 split
 ·rename_i t' order e
  unfold SetTable.relaid SetTable.laid at e
  obtain⟨ow,e1,e2⟩:=bind_some e
  cases e2
  dsimp only
  split<;>rfl
 ·rfl
theorem a6s(t:SetTable)(es:Array (Int×AA))(n:Nat)(hp:t.plain=false):(relayAll t es n).2.1.plain=false:=by
 unfold relayAll
 split
 ·rename_i t' order e
  unfold SetTable.relaid SetTable.laid at e
  obtain⟨ow,e1,e2⟩:=bind_some e
  cases e2
  dsimp only
  split
  ·exact hp
  ·rfl
 ·rfl
section
variable {prog:AL}{w:AJ}{A:AM}{E:AA->AC->Prop}{s:AC}
theorem b2o{h:Heap}{a:AB}{o:Obj}{es:Array (Int×AA)}{ep:Nat}{t:SetTable}(ho:h.get? a=some o)(hex:o.ExactSet)(hd:o.data= .set es ep t)
 {es':Array (Int×AA)} {t':SetTable} (hel:ElemsOf (l0 prog w) es'.toList) (hb:es'.size<scanBound) (hf:t'.fits es'.size=true) (hl:t'.led= !byT w) (hp:t'.plain=false):
 (h.update a (Obj.putSet es' t')).get? a=some {o with data:= .set es' (ep+1) t'}/\D4 prog w (h.update a (Obj.putSet es' t')) a es' (ep+1):=by
 have hg:(h.update a (Obj.putSet es' t')).get? a=some {o with data:= .set es' (ep+1) t'}:=by
  have:=Heap.get?_update_self (Obj.putSet es' t') ho (by rw [putSet_of es' t' hd];rfl)
  rw [putSet_of es' t' hd] at this;exact this
 exact⟨hg,_,t',hg,hex,rfl,hel,hb,hf,hl,fun _=>hp⟩
theorem b5J{g:Bool->Sem Unit}(hg:∀(b:Bool) (s₁:AC) (Q':Unit->AC->Prop),Q' () s₁->AF (model prog w) A (g b) Q' E s₁)
 {a:AB} {o:Obj} {es:Array (Int×AA)} {ep:Nat} {t:SetTable} (ho:s.heap.get? a=some o) (hex:o.ExactSet) (hd:o.data= .set es ep t)
 {es1:Array (Int×AA)} {t2:SetTable} (hel1:ElemsOf (l0 prog w) es1.toList) (hb1:es1.size<scanBound) (hf2:t2.fits es1.size=true) (hl:t2.led= !byT w) (hpl:t2.plain=false) {wasDummy:Bool} {R:Option Bool->AC->Prop}
 (h:∀h' es' ep',Heap.SameBut a s.heap h'->es'.toList.Perm es1.toList->D4 prog w h' a es' ep'->R (some true) {s with heap:=h'}):
 AF (model prog w) A (do
  storeSet a es1 t2
  if(!wasDummy && t2.tooFull)=true then do
     g (relayAll t2 es1 (SetTable.grown es1.size)).2.2
     storeSet a (relayAll t2 es1 (SetTable.grown es1.size)).1 (relayAll t2 es1 (SetTable.grown es1.size)).2.1
     pure (some true)
   else pure (some true)) R E s:=by
 refine AD (wpAny_storeSet_of ho hd ?_ (fits_of_scanBound hb1))
 obtain⟨ho1,hS1⟩:=b2o (prog:=prog) (w:=w) ho hex hd hel1 hb1 hf2 hl hpl
 have hsb1:=Heap.SameBut.update s.heap a (Obj.putSet es1 t2)
 split
 ·have hp:=relayAll_perm t2 es1 (SetTable.grown es1.size)
  have hfr:=relayAll_fits t2 es1 (SetTable.grown es1.size)
  have hl2:=a82 t2 es1 (SetTable.grown es1.size)
  have hp2:=a6s t2 es1 (SetTable.grown es1.size) hpl
  generalize hRl:relayAll t2 es1 (SetTable.grown es1.size)=Rl at hp hfr hl2 hp2 ⊢
  obtain⟨es2,t3,gave2⟩:=Rl
  dsimp only at hp hfr hl2 hp2 ⊢
  have hel2:ElemsOf (l0 prog w) es2.toList:=hel1.perm hp
  have hsz:es2.size=es1.size:=by rw [<-Array.length_toList,hp.length_eq,Array.length_toList]
  have hb2:es2.size<scanBound:=by rw [hsz];exact hb1
  refine AD (hg _ _ _ ?_)
  refine AD (wpAny_storeSet_of ho1 rfl ?_ (fits_of_scanBound hb2))
  obtain⟨_,hS2⟩:=b2o (prog:=prog) (w:=w) ho1 hex rfl hel2 hb2 hfr (hl2.trans hl) hp2
  exact AI (h _ _ _ (hsb1.trans (Heap.SameBut.update _ a _)) hp hS2)
 ·exact AI (h _ _ _ hsb1 (List.Perm.refl _) hS1)
theorem TxE.perm{es es':Array (Int×AA)}{zs:List Str}(p:es'.toList.Perm es.toList)(T:TxE es zs):TxE es' zs where
 all:=fun e he=>T.all e (p.mem_iff.mp he)
 nd:=((p.map _).nodup_iff).mpr T.nd
 mem:=fun x=>((p.map _).mem_iff).trans (T.mem x)
theorem b92{a:AB}{es:Array (Int×AA)}{ep:Nat}{zs:List Str}{x:Str}{tk:Tok}{Q:Bool->AC->Prop}(hS:D4 prog w s.heap a es ep)(T:TxE es zs)(hroom:es.size+1<scanBound)
 (h:∀h' es' ep' b,Heap.SameBut a s.heap h'->D4 prog w h' a es' ep'->TxE es' (x::zs)->es'.size<=es.size+1->Q b {s with heap:=h'}):
 AF (model prog w) A (setAddHashed a (.str x tk) ((l0 prog w).hash (.inr x))) Q E s:=by
 obtain⟨o,t,ho,hex,hd,hel,hb,hf,hl,hpl⟩:=hS
 have hsc:(Value.str x tk).scannable=true:=rfl
 have hkey:(l0 prog w).is (.inr x) (.str x tk)=true:=Q5 prog w x tk
 unfold setAddHashed setAddHashedIn
 refine wpAny_holding (AD (wpAny_setState_of ho hd hf ?_))
 dsimp only
 rw [byScan_of hsc hb hel]
 simp only [↓reduceIte]
 unfold setAddByScan
 refine AD ?_
 refine AD (wpAny_rule ?_)
 refine AD (wpAny_setScan_of hkey ho hd hf hel ?_)
 cases hr:List.findIdx? (fun e=>(l0 prog w).is (.inr x) e.2) es.toList with
 |some j=>
  dsimp only
  obtain⟨hj,hpj,_⟩:=List.findIdx?_eq_some_iff_getElem.mp hr
  have hm:x∈a5Z es:=by
   refine Aj.mpr ⟨es.toList[j],List.getElem_mem hj, ?_⟩
   rcases v9 (show a5X (.inr x) es.toList[j].2=true from hpj) with⟨i,u,q,_⟩|⟨y,u,q,e2⟩
   ·exact nomatch q
   ·cases q;rw [e2];rfl
  refine AI (AI ?_)
  have e:s={s with heap:=s.heap}:=by cases s;rfl
  rw [e]
  exact h s.heap es ep false (Heap.SameBut.refl a s.heap) ⟨o,t,ho,hex,hd,hel,hb,hf,hl,hpl⟩ ⟨T.all,T.nd,fun y=>by
   rw [T.mem y,Ag]
   exact⟨.inr,fun z=>z.elim (fun z=>by rw [z];exact(T.mem x).mp hm) id⟩⟩ (Nat.le_succ _)
 |none=>
  dsimp only
  have hgw:∀(b:Bool) {s₁:AC} {Q':Unit->AC->Prop},Q' () s₁->AF (model prog w) A (match b with|true=>rule "set.scan.the-table-gave-way"|false=>pure ()) Q' E s₁:=
   fun b s₁ Q' hq=>by cases b<;>first|exact AI hq|exact wpAny_rule hq
  have hperm:=layNew_perm t es ((l0 prog w).hash (.inr x)) (.str x tk)
  have hfits:=layNew_fits t es ((l0 prog w).hash (.inr x)) (.str x tk)
  have hled:=b0U t es ((l0 prog w).hash (.inr x)) (.str x tk)
  generalize hL:layNew t es ((l0 prog w).hash (.inr x)) (.str x tk)=L at hperm hfits hled ⊢
  obtain⟨es1,t1,wasDummy,gave⟩:=L
  dsimp only at hperm hfits hled ⊢
  rw [Array.toList_push] at hperm
  have hel1:ElemsOf (l0 prog w) es1.toList:=(hel.push hkey hsc).perm hperm
  have hb1':es1.size<scanBound:=by rw [<-Array.length_toList,hperm.length_eq,Ar,Array.length_toList];simpa using hroom
  have hn:x∉a5Z es:=fun hm=>by
   obtain⟨e,he,e2⟩:=Aj.mp hm
   obtain⟨y,u,ey⟩:=T.all e he
   have:=List.findIdx?_eq_none_iff.mp hr e he
   rw [ey] at e2 this
   cases(show y=x from e2)
   rw [Q5] at this
   cases this
  have T1:TxE es1 (x::zs):=by
   refine⟨fun e he=> ?_, ?_,fun y=> ?_⟩
   ·rcases BB.mp (hperm.mem_iff.mp he) with h|h
    ·exact T.all e h
    ·rw [List.mem_singleton] at h;subst h;exact⟨x,tk,rfl⟩
   ·refine((hperm.map _).nodup_iff).mpr ?_
    rw [BF]
    refine List.nodup_append.mpr ⟨T.nd,by simp,fun y hy z hz=> ?_⟩
    simp only [AQ,AW,List.mem_singleton] at hz
    intro e
    subst e
    subst hz
    exact hn hy
   ·rw [(hperm.map _).mem_iff,BF,BB,T.mem y,Ag]
    simp only [AQ,AW,List.mem_singleton]
    exact⟨fun z=>z.elim .inr (fun z=> .inl z),fun z=>z.elim (fun z=> .inr z) .inl⟩
  have hsz1:es1.size=es.size+1:=by rw [<-Array.length_toList,hperm.length_eq,Ar,Array.length_toList];rfl
  refine AD (hgw _ ?_)
  have hend:∀h' es' ep',Heap.SameBut a s.heap h'->es'.toList.Perm es1.toList->D4 prog w h' a es' ep'->Q true {s with heap:=h'}:=fun h' es' ep' hsb p hS'=>by
   refine h h' es' ep' true hsb hS' (T1.perm p) ?_
   rw [<-Array.length_toList,p.length_eq,Array.length_toList,hsz1];exact AS _
  split
  ·rename_i hpt
   refine AD ?_
   rw [hashByValue_scannable 8 hsc]
   refine AI ?_
   have hpk:plainKind (Value.str x tk)=false:=rfl
   simp only [hpk,Ay,↓reduceIte]
   refine b5J ?_ ho hex hd hel1 hb1' (SetTable.fits_plain_off hfits) (hled.trans hl) rfl ?_
   ·intro b s₁ Q' hq;cases b<;>first|exact AI hq|exact wpAny_rule hq
   ·intro h' es' ep' hsb p hS';dsimp only;exact AI (hend h' es' ep' hsb p hS')
  ·rename_i hpt
   refine AD (AI ?_)
   simp only [↓reduceIte]
   refine b5J ?_ ho hex hd hel1 hb1' hfits (hled.trans hl) (by simpa using hpt) ?_
   ·intro b s₁ Q' hq;cases b<;>first|exact AI hq|exact wpAny_rule hq
   ·intro h' es' ep' hsb p hS';dsimp only;exact AI (hend h' es' ep' hsb p hS')
end
end PU
set_option maxHeartbeats 3200000
namespace PU
open PySem PySem.Spec PyProof.Rows L2 PySem.W
def b3y(x:Str)(i:Nat):Str:=⟨#[x.cps.getD i 0]⟩
def sgs(x:Str)(i:Nat):List Str:=((AR i).map (b3y x)).reverse
theorem b5C(x:Str)(i:Nat):sgs x (i+1)=b3y x i::sgs x i:=by simp [sgs,List.range_succ]
abbrev X9(w:AJ):Obj:={cls:= .type "set",dict:=none,data:= .set #[] 0 (.fresh 0 0 (!byT w))}
section
variable {prog:AL}{w:AJ}{A:AM}{E:AA->AC->Prop}{s:AC}
theorem b8R{R:Result->AC->Prop}{I:AB}{fp wr:List AB}{G:Array GenState->Array GenState->Prop}{n:Nat}{St:Nat->AC->Prop}{x:Str}
 (W:WalksS prog w A.in1 I fp wr G n (SignAt x) St) (S:AB) (hSf:S∉fp) (hb:n+1<scanBound):
 ∀(k i:Nat) (s:AC) (es:Array (Int×AA)) (ep:Nat),n - i=k->i<=n->St i s->D4 prog w s.heap S es ep->TxE es (sgs x i)->es.size<=i->
  (∀s' es' ep',Moved (S::wr) G s s'->D4 prog w s'.heap S es' ep'->TxE es' (sgs x n)->es'.size<=n->R (.ok (.ret .none)) s')->
  codeAny (model prog w) A (.builtin "set.update.loop" ⟨[.ref S,.ref I],[]⟩) R s:=by
 have hSw:S∉wr:=fun h=>hSf (W.sub _ h)
 have hsub:∀b∈wr,b∈S::wr:=fun b hb=>An _ hb
 intro k
 induction k with
 |zero=>
  intro i s es ep hk hi hst hS hT hz hR
  have hin:i=n:=by lia
  subst hin
  refine codeAny_builtin F.entry_set_update_loop ?_
  rw [Around.under_plainId F.plain_set_update_loop _]
  show AF _ A.in1 (pyNext (.ref I)>>=_) _ _ s
  refine AD (W.done s _ _ hst fun s' hm=> ?_)
  show AF _ A.in1 (ret Value.none) _ _ s'
  exact AI (hR s' es ep (hm.mono hsub) (hS.at' fun o e=>hm.heap S _ hSw e) hT hz)
 |succ k ih=>
  intro i s es ep hk hi hst hS hT hz hR
  have hlt:i<n:=by lia
  refine codeAny_builtin F.entry_set_update_loop ?_
  rw [Around.under_plainId F.plain_set_update_loop _]
  show AF _ A.in1 (pyNext (.ref I)>>=_) _ _ s
  refine AD (W.item i s _ _ hlt hst fun v s' hP hst' hm=> ?_)
  obtain⟨c,u,hc,rfl⟩:=hP
  have hS':D4 prog w s'.heap S es ep:=hS.at' fun o e=>hm.heap S _ hSw e
  have hsg:(⟨#[c]⟩:Str)=b3y x i:=by unfold b3y;rw [Array.getD_eq_getD_getElem?,hc];rfl
  show AF _ A.in1 (holding [Value.str ⟨#[c]⟩ u] (setAdd S (.str ⟨#[c]⟩ u))>>=_) _ _ s'
  refine AD (wpAny_holding ?_)
  unfold setAdd
  refine wpAny_holding ?_
  refine AD ((l0 prog w).pyHash (k:= .inr ⟨#[c]⟩) (Q5 _ _ _ _) ?_)
  refine b92 (s:={s' with toks:=s'.toks+1}) hS' hT (by lia) fun h' es' ep' b hsb hS2 hT2 hz2=> ?_
  rw [hsg,<-b5C] at hT2
  refine AI ⟨plainId_quiet F.plain_set_update_loop _,ih (i+1) _ es' ep' (by lia) hlt (W.frame _ s' _ _ hst' (Nat.le_succ _) fun b hb o e=> ?_) hS2 hT2 (by lia) fun s'' es'' ep'' hm'' hS'' hT'' hz''=> ?_⟩
  ·rw [hsb.2 b (fun h:b=S=>hSf (by rw [<-h];exact hb))];exact e
  ·refine hR s'' es'' ep'' (Moved.trans W.gtrans ((hm.mono hsub).then_heap (Nat.le_succ _) fun b o hb e=> ?_) hm'') hS'' hT'' hz''
   rw [hsb.2 b (fun h:b=S=>hb (by rw [h];exact Aq))];exact e
theorem c0k(a:AA){Q₁:AA->AC->Prop}(h:Q₁ (.ref s.heap.objs.size) {s with heap:=s.heap.push (X9 w)}):
 codeAny (model prog w) A (.call (.builtin "set.__new__") ⟨[.type "set",a],[]⟩) (wants Q₁ E) s:=by
 refine codeAny_of_tree ?_
 show AF _ A.in1 (do checkBuiltinCall "set.__new__" ⟨[.type "set",a],[]⟩;again (.builtin "set.__new__" ⟨[.type "set",a],[]⟩)) _ _ s
 refine AD (wpAny_of_eq (F.newCall_set_1 a) (AI ⟨plainId_quiet F.plain_set_new _,codeAny_builtin F.entry_set_new ?_⟩))
 rw [Around.under_plainId F.plain_set_new _]
 unfold Builtin.«set.__new__» Builtin.Frozenset.newClass
 have hsub:=sub_set_self
 obtain⟨hp,g,d,tk,os⟩:=s
 dsimp only
 wp_walk
 refine wpAny_askSetting (AI ?_)
 dsimp only
 simp only [newObj]
 refine AD (wpAny_alloc (AI ?_))
 exact AI h
theorem b0n:isSubtype (.type "str") (.type "set")=pure false:=by rw [isSubtype_type];kernel_rfl
theorem a3H:isSubtype (.type "str") (.type "frozenset")=pure false:=by rw [isSubtype_type];kernel_rfl
theorem c0F{x:Str}{t:Tok}{Q:AA->AC->Prop}(hh:A.handled=none)(hb:x.cps.size+1<scanBound)
 (h:∀(h':Heap) (tk:Nat) es ep,D4 prog w h' s.heap.objs.size es ep->TxE es (sgs x x.cps.size)->es.size<=x.cps.size->
  (∀b o,b<s.heap.objs.size->s.heap.get? b=some o->h'.get? b=some o)->Q (.ref s.heap.objs.size) {s with heap:=h',toks:=tk}):
 AF (model prog w) A (call (.type "set") [.str x t]) Q E s:=by
 obtain⟨c,tl,hmro⟩:=F.called_set.mro
 have hmade:=F.called_set.made
 have hsub:=F.called_set.sub
 refine wpAny_call (codeAny_of_tree ?_)
 show AF _ _ (callAny (.type "set") _) _ _ _
 refine AI ⟨Code.quiet_builtin _ (by decide+kernel),codeAny_builtin F.entry_type_call ?_⟩
 rw [Around.under_plain (weight_type_call_type "set" [.str x t] []) rfl]
 have h1:=F.called_set.notType
 have h2:=F.called_set.canCreate
 have hct:=F.typeCall_set_1 (.str x t)
 repeat (any_goals (first|assumption|wp_step))
 refine codeAny_mono (c0k (.str x t) (E:=E) (Q₁:=fun obj s₁=>obj= .ref s.heap.objs.size/\s₁={s with heap:=s.heap.push (X9 w)}) ⟨rfl,rfl⟩) fun r s₁ hr=> ?_
 cases r with
 |error e=>exact hr
 |ok fl=>
  cases fl with
  |ret obj=>
   obtain⟨rfl,rfl⟩:=hr
   have hS:(s.heap.push (X9 w)).get? s.heap.objs.size=some (X9 w):=Ao _ rfl
   have hT:Shared.TypeIs {s with heap:=s.heap.push (X9 w)} (.ref s.heap.objs.size) "set":=⟨_,hS,rfl⟩
   have hli:=F.called_set.init.lookup
   have hbi:=F.called_set.init.bind (.ref s.heap.objs.size)
   repeat (any_goals (first|assumption|wp_step))
   refine codeAny_mono (codeAny_call_builtin (R:=wants (fun r s₂=>r= .none/\∃h' tk es ep,s₂={s with heap:=h',toks:=tk}/\
    D4 prog w h' s.heap.objs.size es ep/\TxE es (sgs x x.cps.size)/\es.size<=x.cps.size/\
    (∀b o,b<s.heap.objs.size->s.heap.get? b=some o->h'.get? b=some o)) E) F.called_set.init.plain F.entry_set_init (check_set_init_1 hT ?_)) fun r₂ s₂ hr₂=> ?_
   ·have hsls:=b0n
    have hslf:=a3H
    have hne:(Value.type "str"==Value.type "dict")=false:=by decide
    unfold Builtin.«set.__init__» noKeywords Builtin.Frozenset.updateFrom
    generalize hPI:pyIter=PI
    wp_walk
    subst hPI
    refine wpAny_pyIter_str fun oI St W hst=> ?_
    refine AD (wpAny_runValue ?_)
    have hh3:A.in1.in1.in1.handled=none:=by simp [hh]
    have hSf:s.heap.objs.size∉[(s.heap.push (X9 w)).objs.size]:=by
     rw [Heap.size_push,List.mem_singleton]
     exact Ai (Nat.lt_succ_self _)
    refine b8R ((W _ hh3).toS) s.heap.objs.size hSf hb (x.cps.size - 0) 0 _ #[] 0 (by lia) (Nat.zero_le _) hst ?hS0 ⟨fun e he=>by simp at he,by simp [a5Z],fun y=>by simp [a5Z,sgs]⟩ (AS _) ?hR
    case hS0=>
     exact⟨X9 w,_,Ab _ hS,⟨rfl,rfl,rfl⟩,rfl,fun e he=>by simp at he,by decide,by rfl,rfl,fun z=>absurd rfl z⟩
    case hR=>
     intro s' es ep hm hS' hT' hz'
     obtain⟨h',g',d',tk',os'⟩:=s'
     have eg:g'=s.gens:=hm.gens
     have ed:d'=s.drawn:=hm.drawn
     have eo:os'=s.os:=hm.os
     subst eg;subst ed;subst eo
     show AF _ _ _ _ _ _
     refine AI ?_
     show AF _ _ (ret Value.none) _ _ _
     refine AI ⟨rfl,h',tk',es,ep,rfl,hS',hT',hz',fun b o hb e=> ?_⟩
     have hb1:b≠s.heap.objs.size:=Ai hb
     have hb2:b≠(s.heap.push (X9 w)).objs.size:=by
      rw [Heap.size_push];exact Ai (Nat.lt_succ_of_lt hb)
     exact hm.heap b o (by simp only [Ag,List.mem_singleton,List.not_mem_nil,or_false,not_or];exact⟨hb1,hb2⟩) (Ab _ (Ab _ e))
   ·cases r₂ with
    |error e=>exact hr₂
    |ok fl₂=>
     cases fl₂ with
     |ret r=>
      obtain⟨rfl,h',tk,es,ep,rfl,hS',hT',hz',hk'⟩:=hr₂
      repeat (any_goals (first|assumption|wp_step))
      exact h _ _ es ep hS' hT' hz' hk'
     |_=>exact hr₂.elim
  |_=>exact hr.elim
end
end PU
set_option maxHeartbeats 1000000
namespace PU
open PySem PySem.Spec PyProof.Rows L2 PySem.W
theorem n8:Slot "set_iterator" "__next__" "set_iterator.__next__":=
 .of (owner:="set_iterator") (n:="__next__") (by rw [typeLookup_type,builtinLookup_eq_fast];kernel_rfl) (by decide+kernel) (by decide+kernel) (by decide+kernel)
  (by first|exact .inl (by decide+kernel)|exact .inr (by decide+kernel)) (by rw [isSubtype_type];kernel_rfl)
theorem a2w:Slot "set_iterator" "__iter__" "set_iterator.__iter__":=
 .of (owner:="set_iterator") (n:="__iter__") (by rw [typeLookup_type,builtinLookup_eq_fast];kernel_rfl) (by decide+kernel) (by decide+kernel) (by decide+kernel)
  (by first|exact .inl (by decide+kernel)|exact .inr (by decide+kernel)) (by rw [isSubtype_type];kernel_rfl)
theorem K7:entryFor table "set_iterator.__next__"=some Builtin.«set_iterator.__next__»:=entryFor_of_tree (by kernel_rfl)
theorem a5F:entryFor table "set_iterator.__iter__"=some Builtin.«dict_keyiterator.__iter__»:=entryFor_alias (id':="dict_keyiterator.__iter__") (by kernel_rfl) rfl (by decide+kernel) (by kernel_rfl)
theorem a8i:entryFor table "set.__iter__"=some Builtin.«frozenset.__iter__»:=entryFor_alias (id':="frozenset.__iter__") (by kernel_rfl) rfl (by decide+kernel) (by kernel_rfl)
theorem a7M:Manifest.owners.lookup (String.ofList ['r', 'o', 't', 'a', 'r', 'e', 't', 'i', '_', 't', 'e', 's'].reverse)=some Manifest.sig_set_iterator:=by kernel_rfl
theorem O6(a:AA):argsOk "set_iterator.__next__" ⟨[a],[]⟩:=by
 unfold argsOk;rw [signature?_of (id:="set_iterator.__next__") (n:=['_', '_', 't', 'x', 'e', 'n', '_', '_']) (o:=['r', 'o', 't', 'a', 'r', 'e', 't', 'i', '_', 't', 'e', 's']) (by kernel_rfl) a7M];kernel_rfl
theorem a6O(a:AA):argsOk "set_iterator.__iter__" ⟨[a],[]⟩:=by
 unfold argsOk;rw [signature?_of (id:="set_iterator.__iter__") (n:=['_', '_', 'r', 'e', 't', 'i', '_', '_']) (o:=['r', 'o', 't', 'a', 'r', 'e', 't', 'i', '_', 't', 'e', 's']) (by kernel_rfl) a7M];kernel_rfl
def P7(h:Heap)(it:AB)(first:AA)(i:Nat)(a:AB)(n ep:Nat):Prop:=∃o,h.get? it=some o/\o.cls= .type "set_iterator"/\o.data= .fields #[first,.int i 0,.ref a,.int n 0,.int ep 0]
theorem P7.typeIs{s:AC}{it:AB}{first:AA}{i:Nat}{a:AB}{n ep:Nat}(x:P7 s.heap it first i a n ep):s.TypeIs (.ref it) "set_iterator":=by obtain⟨o,ho,hc,_⟩:=x;exact⟨o,ho,hc⟩
theorem P7.at'{h h':Heap}{it:AB}{first:AA}{i:Nat}{a:AB}{n ep:Nat}(x:P7 h it first i a n ep)(e:∀o,h.get? it=some o->h'.get? it=some o):P7 h' it first i a n ep:=by obtain⟨o,ho,r⟩:=x;exact⟨o,e _ ho,r⟩
theorem a2A{α:Type}:∀{l:List α} {i:Nat} (h:i<l.length),(l[i]::l.eraseIdx i).Perm l
 |x::l,0,h=>List.Perm.refl _
 |x::l,i+1,h=>by
  have ih:=a2A (l:=l) (i:=i) (by simpa using h)
  show(l[i]'(by simpa using h)::x::l.eraseIdx i).Perm (x::l)
  exact(List.Perm.swap _ _ _).trans (ih.cons x)
theorem a7P{α:Type}(f:Nat->Nat):∀(n k:Nat) (left:List α) (out:Array α),left.length=n->(pickOrder.go f n k left out).toList.Perm (out.toList++left)
 |0,k,left,out,h=>by
  cases left with
  |nil=>rw [Ak];exact List.Perm.refl _
  |cons a l=>cases h
 |n+1,k,left,out,h=>by
  unfold pickOrder.go
  have hlt:f k % left.length<left.length:=Nat.mod_lt _ (by lia)
  rw [Az hlt]
  dsimp only
  refine(a7P f n (k+1) _ _ (by rw [List.length_eraseIdx];split<;>lia)).trans ?_
  rw [Array.toList_push,List.append_assoc]
  exact List.Perm.append_left _ (a2A hlt)
theorem W0{α:Type}(f:Nat->Nat)(xs:Array α):(pickOrder f xs).toList.Perm xs.toList:=by
 have:=a7P f xs.size 0 xs.toList #[] (by simp)
 simpa [pickOrder] using this
section
variable {prog:AL}{w:AJ}{A:AM}{E:AA->AC->Prop}{s:AC}{it a:AB}{i ep:Nat}{es:Array (Int×AA)}
theorem a9d{src:Source}{n:Nat}{Q:Nat->AC->Prop}(hn:n≠0)(h:∀i,i<n->Q i {s with drawn:=s.drawn.bump src}):AF (model prog w) A (choose src n) Q E s:=
 fun _ _ _=>⟨hn,h _ (Nat.mod_lt _ (Nat.pos_of_ne_zero hn))⟩
theorem a7f{α:Type}:∀(n:Nat) (xs:List α) (s:AC) (Q:List α->AC->Prop),xs.length=n->(∀ys d,ys.Perm xs->Q ys {s with drawn:=d})->AF (model prog w) A (drawOrder n xs) Q E s
 |0,xs,s,Q,h,k=>by
  unfold drawOrder
  cases xs with
  |nil=>exact AI (k [] s.drawn (List.Perm.refl _))
  |cons a l=>cases h
 |n+1,[],s,Q,h,k=>by cases h
 |n+1,x::l,s,Q,h,k=>by
  unfold drawOrder
  refine AD (a9d (by simp) fun i hi=> ?_)
  rw [Az hi]
  dsimp only
  refine AD (a7f n _ _ _ (by rw [List.length_eraseIdx];split<;>lia) fun ys d p=> ?_)
  refine AI ?_
  exact k _ d ((p.cons _).trans (a2A hi))
theorem a78{Q:Bool->AC->Prop}(h:Q (byT w) s):AF (model prog w) A setsByText Q E s:=by
 unfold setsByText
 exact AD (wpAny_askSetting (AI h))
theorem D4.typeIs(x:D4 prog w s.heap a es ep):s.TypeIs (.ref a) "set":=by obtain⟨o,_,ho,hc,_⟩:=x;exact⟨o,ho,hc.1⟩
theorem b7S{sl:Nat}{Q:Option (AA×Nat)->AC->Prop}(hb:byT w=true)(hS:D4 prog w s.heap a es ep)(h:Q (((pickOrder (w.params.setOrder a ep) es)[i]?).map fun e=>(e.2,sl)) s):AF (model prog w) A (setNext a sl i ep) Q E s:=by
 obtain⟨o,t,ho,hex,hd,hel,hz,hf,hl,hpl⟩:=hS
 unfold setNext
 refine AD (wpAny_setState_of ho hd hf ?_)
 dsimp only
 refine AD (a78 ?_)
 rw [hb]
 simp only [↓reduceIte,bne_self_eq_false,Ay]
 unfold setWalk
 refine AD (AD (wpAny_setState_of ho hd hf ?_))
 dsimp only
 refine AD (a78 ?_)
 rw [hb]
 simp only [↓reduceIte]
 refine AD (wpAny_askSetting ?_)
 exact AI (AI h)
end
section
variable {prog:AL}{w:AJ}{A:AM}{E:AA->AC->Prop}{s:AC}{it a:AB}{i ep:Nat}{es:Array (Int×AA)}
theorem a0a{Q:Array (Int×AA)->AC->Prop}(hS:D4 prog w s.heap a es ep)(h:Q es s):AF (model prog w) A (setEntries a) Q E s:=
 let ⟨_,_,ho,_,hd,_,_,hf,_⟩:=hS;wpAny_setEntries_of ho hd hf h
theorem b0k{sl nxt:Nat}{v:AA}{Q:Option AA->AC->Prop}(hit:P7 s.heap it (.int sl 0) i a es.size ep)(hS:D4 prog w s.heap a es ep)
 (hN:∀(A:AM) (E:AA->AC->Prop) (Q:Option (AA×Nat)->AC->Prop),Q (some (v,nxt)) s->AF (model prog w) A (setNext a sl i ep) Q E s)
 (hQ:∀h',P7 h' it (.int nxt 0) (i+1) a es.size ep->Heap.SameBut it s.heap h'->Q (some v) {s with heap:=h'}):AF (model prog w) A (pyNext (.ref it)) Q E s:=by
 obtain⟨o,ho,hc,hd⟩:=id hit
 unfold pyNext
 refine AD (wpAny_attempt (wpAny_callSpecial?_slot (name:=AK "__next__") hit.typeIs n8 (wpAny_call_entry n8 hit.typeIs K7 ?_ (O6 _))))
 unfold Builtin.«set_iterator.__next__»
 refine AD (AI ?_)
 refine AD (wpAny_fieldsOf ho hd ?_)
 show AF _ _ (setEntries a>>=_) _ _ s
 refine AD (a0a hS ?_)
 rw [if_neg (by simp)]
 refine AD (hN _ _ _ ?_)
 dsimp only
 refine AD (wpAny_setField ho hd (by simp) ?_)
 have hg1:=Heap.get?_update_self (Obj.mapFields (·.setIfInBounds 0 (rawInt nxt))) ho (Obj.isFreed_of_fields (Obj.data_mapFields hd _))
 have hd1:=Obj.data_mapFields hd (·.setIfInBounds 0 (rawInt nxt))
 refine AD (wpAny_setField hg1 hd1 (by simp) ?_)
 have hg2:=Heap.get?_update_self (Obj.mapFields (·.setIfInBounds 1 (rawInt ((i:Int)+1)))) hg1 (Obj.isFreed_of_fields (Obj.data_mapFields hd1 _))
 have hd2:=Obj.data_mapFields hd1 (·.setIfInBounds 1 (rawInt ((i:Int)+1)))
 refine AI ⟨_,rfl,AI (hQ _ ⟨_,hg2, ?_, ?_⟩ ((Heap.SameBut.update ..).trans (Heap.SameBut.update ..)))⟩
 ·exact(Obj.cls_mapFields ..).trans ((Obj.cls_mapFields ..).trans hc)
 ·rw [hd2];simp [rawInt]
theorem b2n{sl:Nat}{Q:Option AA->AC->Prop}(hh:A.handled=none)(hit:P7 s.heap it (.int sl 0) i a es.size ep)(hS:D4 prog w s.heap a es ep)
 (hN:∀(A:AM) (E:AA->AC->Prop) (Q:Option (AA×Nat)->AC->Prop),Q none s->AF (model prog w) A (setNext a sl i ep) Q E s)
 (hQ:∀h',Heap.ExtBut it s.heap h'->Q none {s with heap:=h'}):AF (model prog w) A (pyNext (.ref it)) Q E s:=by
 obtain⟨o,ho,hc,hd⟩:=id hit
 unfold pyNext
 refine AD (wpAny_attempt (wpAny_callSpecial?_slot (name:=AK "__next__") hit.typeIs n8 (wpAny_call_entry n8 hit.typeIs K7 ?_ (O6 _))))
 unfold Builtin.«set_iterator.__next__»
 refine AD (AI ?_)
 refine AD (wpAny_fieldsOf ho hd ?_)
 show AF _ _ (setEntries a>>=_) _ _ s
 refine AD (a0a hS ?_)
 rw [if_neg (by simp)]
 refine AD (hN _ _ _ ?_)
 dsimp only
 refine AD (wpAny_setField ho hd (by simp) ?_)
 refine AD ?_
 simp only [newExc,newTuple];refine AD (wpAny_newObj_type ?_ (by size_fits))
 refine AD (m:=firstArgMember _ _) (wpAny_of_eq (a:=Value.none) (by first|rfl|(simp only [firstArgMember];rfl)) (wpAny_newObj_type ?_ (by size_fits)))
 simp only [raiseNew];refine AD (wpAny_handled ?_);rw [show A.in1.handled=none from hh]
 refine AD (AI (wpAny_throw ?_));refine AD (wpAny_isInstance (T:="StopIteration") (b:=true) ⟨_,Ao _ rfl,rfl⟩ isSubtype_stop ?_)
 exact AI (hQ _ (((Heap.SameBut.update ..).extBut.push _).push _))
theorem b3A{ft:AB}{ps:List Nat}{pl:Nat}{v:Int×AA}{Q:Option AA->AC->Prop}(hit:P7 s.heap it (.ref ft) i a es.size ep)(hS:D4 prog w s.heap a es ep)(hf:IsTup s.heap ft (ps.map fun i:Nat=>rawInt i).toArray)
 (hp:ps[i]?=some pl) (hv:es[pl]?=some v)
 (hQ:∀h',P7 h' it (.ref ft) (i+1) a es.size ep->Heap.SameBut it s.heap h'->Q (some v.2) {s with heap:=h'}):AF (model prog w) A (pyNext (.ref it)) Q E s:=by
 obtain⟨o,ho,hc,hd⟩:=id hit
 obtain⟨oq,tq,hoq,hexq,hdq,helq,hzq,hfq,hlq,hplq⟩:=id hS
 obtain⟨of,hof,hcf,nf,hdf⟩:=id hf
 unfold pyNext
 refine AD (wpAny_attempt (wpAny_callSpecial?_slot (name:=AK "__next__") hit.typeIs n8 (wpAny_call_entry n8 hit.typeIs K7 ?_ (O6 _))))
 unfold Builtin.«set_iterator.__next__»
 refine AD (AI ?_)
 refine AD (wpAny_fieldsOf ho hd ?_)
 show AF _ _ (setEntries a>>=_) _ _ s
 refine AD (a0a hS ?_)
 rw [if_neg (by simp)]
 show AF _ _ (seqItems? (.ref ft)>>=_) _ _ s
 refine AD (wpAny_seqItems hof hdf ?_)
 have hg:((ps.map fun i:Nat=>rawInt i).toArray)[i]?=some (rawInt pl):=by
  rw [List.getElem?_toArray,Al,hp];rfl
 dsimp only
 rw [show((i:Int).toNat)=i from BG i,hg]
 show AF _ _ (setNextDrawn a ((pl:Int).toNat) ((ep:Int).toNat)>>=_) _ _ s
 unfold setNextDrawn
 refine AD (AD (wpAny_setState_of hoq hdq hfq ?_))
 dsimp only
 rw [show((ep:Int).toNat)=ep from BG ep,show((pl:Int).toNat)=pl from BG pl,hv]
 simp only [bne_self_eq_false,Ay,↓reduceIte]
 refine AI ?_
 refine AD (wpAny_setField ho hd (by simp) ?_)
 have hg1:=Heap.get?_update_self (Obj.mapFields (·.setIfInBounds 1 (rawInt ((i:Int)+1)))) ho (Obj.isFreed_of_fields (Obj.data_mapFields hd _))
 have hd1:=Obj.data_mapFields hd (·.setIfInBounds 1 (rawInt ((i:Int)+1)))
 refine AI ⟨_,rfl,AI (hQ _ ⟨_,hg1, ?_, ?_⟩ (Heap.SameBut.update ..))⟩
 ·exact(Obj.cls_mapFields ..).trans hc
 ·rw [hd1];simp [rawInt]
theorem b5D{ft:AB}{ps:List Nat}{Q:Option AA->AC->Prop}(hh:A.handled=none)(hit:P7 s.heap it (.ref ft) i a es.size ep)(hS:D4 prog w s.heap a es ep)(hf:IsTup s.heap ft (ps.map fun i:Nat=>rawInt i).toArray)
 (hp:ps[i]?=none)
 (hQ:∀h',Heap.ExtBut it s.heap h'->Q none {s with heap:=h'}):AF (model prog w) A (pyNext (.ref it)) Q E s:=by
 obtain⟨o,ho,hc,hd⟩:=id hit
 obtain⟨of,hof,hcf,nf,hdf⟩:=id hf
 unfold pyNext
 refine AD (wpAny_attempt (wpAny_callSpecial?_slot (name:=AK "__next__") hit.typeIs n8 (wpAny_call_entry n8 hit.typeIs K7 ?_ (O6 _))))
 unfold Builtin.«set_iterator.__next__»
 refine AD (AI ?_)
 refine AD (wpAny_fieldsOf ho hd ?_)
 show AF _ _ (setEntries a>>=_) _ _ s
 refine AD (a0a hS ?_)
 rw [if_neg (by simp)]
 show AF _ _ (seqItems? (.ref ft)>>=_) _ _ s
 refine AD (wpAny_seqItems hof hdf ?_)
 have hg:((ps.map fun i:Nat=>rawInt i).toArray)[i]?=none:=by
  rw [List.getElem?_toArray,Al,hp];rfl
 dsimp only
 rw [show((i:Int).toNat)=i from BG i,hg]
 dsimp only
 refine AD (wpAny_setField ho hd (by simp) ?_)
 have hg1:=Heap.get?_update_self (Obj.mapFields (·.setIfInBounds 0 (rawInt 0))) ho (Obj.isFreed_of_fields (Obj.data_mapFields hd _))
 have hd1:=Obj.data_mapFields hd (·.setIfInBounds 0 (rawInt 0))
 refine AD (wpAny_setField hg1 hd1 (by simp) ?_)
 refine AD ?_
 simp only [newExc,newTuple];refine AD (wpAny_newObj_type ?_ (by size_fits))
 refine AD (m:=firstArgMember _ _) (wpAny_of_eq (a:=Value.none) (by first|rfl|(simp only [firstArgMember];rfl)) (wpAny_newObj_type ?_ (by size_fits)))
 simp only [raiseNew];refine AD (wpAny_handled ?_);rw [show A.in1.handled=none from hh]
 refine AD (AI (wpAny_throw ?_));refine AD (wpAny_isInstance (T:="StopIteration") (b:=true) ⟨_,Ao _ rfl,rfl⟩ isSubtype_stop ?_)
 exact AI (hQ _ ((((Heap.SameBut.update ..).trans (Heap.SameBut.update ..)).extBut.push _).push _))
theorem a6z{first:AA}{n:Nat}{Q:AA->AC->Prop}(hit:P7 s.heap it first i a n ep)(h:Q (.ref it) s):AF (model prog w) A (pyIter (.ref it)) Q E s:=by
 refine wpAny_pyIter_slot hit.typeIs a2w (wpAny_call_entry a2w hit.typeIs a5F ?_ (a6O _))
 show AF _ _ (ret (.ref it)) _ _ s
 exact AI ⟨_,rfl,"set_iterator",_,hit.typeIs,n8.lookup,h⟩
end
section
variable {prog:AL}{w:AJ}{A:AM}{E:AA->AC->Prop}{s:AC}{a:AB}{ep:Nat}{es:Array (Int×AA)}
def PlX(h:Heap)(a:AB)(es:Array (Int×AA))(ep:Nat)(pl:Array Nat):Prop:=∃o t,h.get? a=some o/\o.data= .set es ep t/\t.place=pl
theorem b4Y{i sl:Nat}{pl:Array Nat}{Q:Option (AA×Nat)->AC->Prop}(hb:byT w=false)(hS:D4 prog w s.heap a es ep)(hP:PlX s.heap a es ep pl)(h1:es.size<=1)
 (h:Q (match es[SetTable.below pl sl]?,pl[SetTable.below pl sl]? with|some (_,x),some j=>some (x,j+1)|_,_=>none) s):AF (model prog w) A (setNext a sl i ep) Q E s:=by
 obtain⟨o,t,ho,hex,hd,hel,hz,hf,hl,hpl⟩:=hS
 obtain⟨o',t',ho',hd',ep'⟩:=hP
 rw [ho] at ho';cases ho'
 rw [hd] at hd';cases hd'
 subst ep'
 rw [hb] at hl
 unfold setNext
 refine AD (wpAny_setState_of ho hd hf ?_)
 dsimp only
 refine AD (a78 ?_)
 rw [hb]
 simp only [Ay,↓reduceIte]
 show AF _ _ (if(!t.plain && decide (es.size>1))=true then _ else _) _ _ s
 rw [if_neg (by simp;lia)]
 show AF _ _ ((if(!t.led && !es.isEmpty)=true then _ else _)>>=_) _ _ s
 rw [hl]
 refine AD (AI ?_)
 exact AI h
theorem b8c(j:Nat):SetTable.below #[j] 0=0:=by simp [SetTable.below,SetTable.below.go]
theorem b8d(j:Nat):SetTable.below #[j] (j+1)=1:=by simp [SetTable.below,SetTable.below.go]
theorem b9S(hb:byT w=true)(hh:A.handled=none)(I:AB)(hne:a≠I):Walks prog w A I [I,a] [I] es.size (fun i v=>((pickOrder (w.params.setOrder a ep) es).toList.map (·.2))[i]?=some v) (fun i h=>P7 h I (.int (0:Nat) 0) i a es.size ep/\D4 prog w h a es ep) where
 sub:=fun b hb=>by simp at hb;simp [hb]
 frame:=fun _ _ _ st hk=>⟨st.1.at' fun o e=>hk I (by simp) o e,st.2.at' fun o e=>hk a (by simp) o e⟩
 item:=fun i s Q E hi st hQ=>by
  have hz:(pickOrder (w.params.setOrder a ep) es).size=es.size:=by
   have:=(W0 (w.params.setOrder a ep) es).length_eq
   simpa using this
  have hi':i<(pickOrder (w.params.setOrder a ep) es).size:=by lia
  refine b0k (nxt:=0) (v:=(pickOrder (w.params.setOrder a ep) es)[i].2) st.1 st.2 (fun A E Q q=>b7S hb st.2 (by rw [getElem?_pos _ i hi'];exact q)) fun h' hit' hs'=>hQ _ h' s.toks ?_ ⟨hit',st.2.at' fun o e=>hs'.extBut a o hne e⟩ fun b o hb e=>hs'.extBut b o (fun h=>hb (by simp [h])) e
  rw [Al,Array.getElem?_toList,getElem?_pos _ i hi'];rfl
 done:=fun s Q E st hQ=>by
   have hz:(pickOrder (w.params.setOrder a ep) es).size=es.size:=by
    have:=(W0 (w.params.setOrder a ep) es).length_eq
    simpa using this
   exact b2n hh st.1 st.2 (fun A E Q q=>b7S hb st.2 (by rw [getElem?_neg _ es.size (by lia)];exact q)) fun h' he'=>hQ h' s.toks fun b o hb e=>he' b o (fun h=>hb (by simp [h])) e
 self:=fun _ _ _ _ st hQ=>a6z st.1 hQ
theorem b9Q(hb:byT w=false)(h1:es.size<=1)(hh:A.handled=none)(I:AB)(hne:a≠I){pl:Array Nat}(hp:pl.size=es.size):
 Walks prog w A I [I,a] [I] es.size (fun i v=>(es.toList.map (·.2))[i]?=some v) (fun i h=>∃sl:Nat,P7 h I (.int sl 0) i a es.size ep/\D4 prog w h a es ep/\PlX h a es ep pl/\(i=0->sl=0)/\(i≠0->sl=pl.getD 0 0+1)) where
 sub:=fun b hb=>by simp at hb;simp [hb]
 frame:=fun _ _ _ ⟨sl,st1,st2,⟨o,t,ho,r⟩,st4,st5⟩ hk=>⟨sl,st1.at' fun o e=>hk I (by simp) o e,st2.at' fun o e=>hk a (by simp) o e,⟨o,t,hk a (by simp) o ho,r⟩,st4,st5⟩
 item:=fun i s Q E hi ⟨sl,st1,st2,st3,st4,st5⟩ hQ=>by
  have hi0:i=0:=by lia
  subst hi0
  cases st4 rfl
  have hs1:es.size=1:=by lia
  obtain⟨j,rfl⟩:∃j,pl= #[j]:=by
   obtain⟨l⟩:=pl
   cases l with
   |nil=>simp at hp;lia
   |cons j l=>
    cases l with
    |nil=>exact⟨j,rfl⟩
    |cons k l=>simp at hp;lia
  have h0:0<es.size:=by lia
  refine b0k (nxt:=j+1) (v:=es[0].2) st1 st2 (fun A E Q q=>b4Y hb st2 st3 h1 (by rw [b8c,getElem?_pos _ 0 h0];exact q)) fun h' hit' hs'=>hQ _ h' s.toks ?_ ⟨j+1,hit',st2.at' fun o e=>hs'.extBut a o hne e, ?_,fun z=>absurd z (Nat.succ_ne_zero 0),fun _=>rfl⟩ fun b o hb e=>hs'.extBut b o (fun h=>hb (by simp [h])) e
  ·rw [Al,Array.getElem?_toList,getElem?_pos _ 0 h0];rfl
  ·obtain⟨o,t,ho,r⟩:=st3
   exact⟨o,t,hs'.extBut a o hne ho,r⟩
 done:=fun s Q E ⟨sl,st1,st2,st3,st4,st5⟩ hQ=>by
   refine b2n hh st1 st2 (fun A E Q q=>b4Y hb st2 st3 h1 ?_) fun h' he'=>hQ h' s.toks fun b o hb e=>he' b o (fun h=>hb (by simp [h])) e
   by_cases h0:es.size=0
   ·have e0:es[SetTable.below pl sl]?=none:=getElem?_neg _ _ (by lia)
    rw [e0];exact q
   ·cases st5 h0
    obtain⟨j,rfl⟩:∃j,pl= #[j]:=by
     obtain⟨l⟩:=pl
     cases l with
     |nil=>simp at hp;lia
     |cons j l=>
      cases l with
      |nil=>exact⟨j,rfl⟩
      |cons k l=>simp at hp;lia
    have e1:SetTable.below #[j] ((#[j]:Array Nat).getD 0 0+1)=1:=b8d j
    rw [e1,getElem?_neg _ 1 (by lia)];exact q
 self:=fun _ _ _ _ ⟨_,st,_⟩ hQ=>a6z st hQ
theorem b9R(hh:A.handled=none)(I ft:AB)(hne:a≠I)(hnf:ft≠I){ps:List Nat}(hp:ps.Perm (AR es.size)):
 Walks prog w A I [I,a,ft] [I] es.size (fun i v=>(ps.map fun p:Nat=>(es[p]?.map (·.2)).getD .none)[i]?=some v) (fun i h=>P7 h I (.ref ft) i a es.size ep/\D4 prog w h a es ep/\IsTup h ft (ps.map fun i:Nat=>rawInt i).toArray) where
 sub:=fun b hb=>by simp at hb;simp [hb]
 frame:=fun _ _ _ ⟨st1,st2,⟨o,ho,r⟩⟩ hk=>⟨st1.at' fun o e=>hk I (by simp) o e,st2.at' fun o e=>hk a (by simp) o e,⟨o,hk ft (by simp) o ho,r⟩⟩
 item:=fun i s Q E hi ⟨st1,st2,st3⟩ hQ=>by
  have hl:ps.length=es.size:=by have:=hp.length_eq;simpa using this
  have hi':i<ps.length:=by lia
  have hm:ps[i]<es.size:=List.mem_range.mp (hp.mem_iff.mp (List.getElem_mem hi'))
  refine b3A (pl:=ps[i]) (v:=es[ps[i]]) st1 st2 st3 (Az hi') (getElem?_pos es ps[i] hm) fun h' hit' hs'=>hQ _ h' s.toks ?_ ⟨hit',st2.at' fun o e=>hs'.extBut a o hne e, ?_⟩ fun b o hb e=>hs'.extBut b o (fun h=>hb (by simp [h])) e
  ·rw [Al,Az hi',Av,getElem?_pos es ps[i] hm];rfl
  ·obtain⟨o,ho,r⟩:=st3
   exact⟨o,hs'.extBut ft o hnf ho,r⟩
 done:=fun s Q E ⟨st1,st2,st3⟩ hQ=>by
   have hl:ps.length=es.size:=by have:=hp.length_eq;simpa using this
   exact b5D hh st1 st2 st3 (List.getElem?_eq_none (by lia)) fun h' he'=>hQ h' s.toks fun b o hb e=>he' b o (fun h=>hb (by simp [h])) e
 self:=fun _ _ _ _ st hQ=>a6z st.1 hQ
theorem b0a{es:Array (Int×AA)}{ps:List Nat}(hp:ps.Perm (AR es.size)):(ps.map fun p:Nat=>(es[p]?.map (·.2)).getD .none).Perm (es.toList.map (·.2)):=by
 refine(hp.map _).trans ?_
 have:(AR es.size).map (fun p:Nat=>(es[p]?.map (·.2)).getD .none)=es.toList.map (·.2):=by
  apply List.ext_getElem
  ·simp
  ·intro i h1 h2
   simp only [Ac,At] at h1
   simp [h1]
 rw [this]
theorem b6d{Q:Bool->AC->Prop}(hS:D4 prog w s.heap a es ep)(h:∀t:SetTable,(es.size≠0->t.plain=false)->Q (!byT w &&(!t.plain && decide (es.size>1))) s):AF (model prog w) A (setDrawn a) Q E s:=by
 obtain⟨o,t,ho,hex,hd,hel,hz,hf,hl,hpl⟩:=hS
 unfold setDrawn
 refine AD (wpAny_setState_of ho hd hf ?_)
 dsimp only
 refine AD (a78 ?_)
 exact AI (h t hpl)
theorem b1M{Q:Nat->AC->Prop}(hS:D4 prog w s.heap a es ep)(h:Q ep s):AF (model prog w) A (setEpoch a) Q E s:=
 let ⟨_,_,ho,_,hd,_,_,hf,_⟩:=hS;wpAny_setEpoch_of ho hd hf h
theorem b8H{Q:AA->AC->Prop}(hS:D4 prog w s.heap a es ep)
 (h:∀(h':Heap) d I fp (St:Nat->Heap->Prop) (ord:List AA),(∀b o,s.heap.get? b=some o->h'.get? b=some o)->s.heap.objs.size<=I->(∀b∈fp,s.heap.objs.size<=b\/b=a)->ord.Perm (es.toList.map (·.2))->
  (∀A':AM,A'.handled=none->Walks prog w A' I fp [I] es.size (fun i v=>ord[i]?=some v) St)->St 0 h'->Q (.ref I) {s with heap:=h',drawn:=d}):AF (model prog w) A (pyIter (.ref a)) Q E s:=by
 have hlt:a<s.heap.objs.size:=by obtain⟨_,_,ho,_⟩:=hS;exact Af ho
 refine wpAny_pyIter_slot hS.typeIs F.slot_set_iter (wpAny_call_entry F.slot_set_iter hS.typeIs a8i ?_ (F.args_set_iter_1 _))
 unfold Builtin.«frozenset.__iter__»
 refine AD (AI ?_)
 show AF _ _ (Builtin.Frozenset.sizeOf a>>=_) _ _ s
 unfold Builtin.Frozenset.sizeOf
 refine AD (AD (a0a hS (AI ?_)))
 refine AD (b6d hS fun t ht=> ?_)
 by_cases hd:(!byT w &&(!t.plain && decide (es.size>1)))=true
 ·rw [if_pos hd]
  simp only [Bool.and_eq_true,Bool.not_eq_true',decide_eq_true_eq] at hd
  refine AD (a7f es.size (AR es.size) s _ (by simp) fun ps d hp=> ?_)
  simp only [newTuple]
  refine AD (wpAny_newObj_type ?_ ?_)
  ·have hk:∀b o,s.heap.get? b=some o->(s.heap.push {cls:= .type "tuple",data:= .seq (ps.map fun i:Nat=>rawInt i).toArray}).get? b=some o:=fun b o e=>Ab _ e
   refine AD (b1M (hS.at' fun o e=>hk a o e) ?_)
   simp only [newFields]
   refine AD (wpAny_newObj_type ?_ (by size_fits))
   refine AI ⟨_,rfl,"set_iterator",_,⟨_,Ao _ rfl,rfl⟩,n8.lookup, ?_⟩
   refine h _ d _ [s.heap.objs.size+1,a,s.heap.objs.size] (fun i h=>P7 h (s.heap.objs.size+1) (.ref s.heap.objs.size) i a es.size ep/\D4 prog w h a es ep/\IsTup h s.heap.objs.size (ps.map fun i:Nat=>rawInt i).toArray) _ (fun b o e=>Ab _ (hk b o e)) (by rw [Heap.size_push];exact Nat.le_succ _) (fun b hb=> ?_) (b0a hp) (fun A' hA=> ?_) ?_
   rotate_left
   ·have:=b9R (prog:=prog) (w:=w) (ep:=ep) hA (s.heap.objs.size+1) s.heap.objs.size (Ai (Nat.lt_succ_of_lt hlt)) (Ai (Nat.lt_succ_self _)) hp
    rw [Heap.size_push]
    exact this
   ·have e1:(s.heap.push {cls:= .type "tuple",data:= .seq (ps.map fun i:Nat=>rawInt i).toArray}).objs.size=s.heap.objs.size+1:=Heap.size_push ..
    refine⟨⟨{cls:= .type "set_iterator",data:= .fields [.ref s.heap.objs.size,rawInt 0,.ref a,rawInt es.size,rawInt ep].toArray}, ?_,rfl,rfl⟩,hS.at' fun o e=>Ab _ (hk a o e),_,Ab _ (Ao _ rfl),rfl,_,rfl⟩
    rw [<-e1]
    exact Ao _ rfl
   ·simp only [Ag,List.not_mem_nil,or_false] at hb
    rcases hb with rfl|rfl|rfl
    ·exact .inl (Nat.le_succ _)
    ·exact .inr rfl
    ·exact .inl (AS _)
  ·have hz:es.size<scanBound:=by obtain⟨_,_,_,_,_,_,hz,_⟩:=hS;exact hz
   have hl:ps.length=es.size:=by have:=hp.length_eq;simpa using this
   have hsl:=sizeLine_eq
   unfold scanBound at hz
   show(ps.map fun i:Nat=>rawInt i).toArray.size<=AO
   simp [hl]
   lia
 ·rw [if_neg hd]
  refine AD (AI ?_)
  refine AD (b1M hS ?_)
  simp only [newFields]
  refine AD (wpAny_newObj_type ?_ (by size_fits))
  refine AI ⟨_,rfl,"set_iterator",_,⟨_,Ao _ rfl,rfl⟩,n8.lookup, ?_⟩
  have hit:P7 (s.heap.push {cls:= .type "set_iterator",data:= .fields [rawInt 0,rawInt 0,.ref a,rawInt es.size,rawInt ep].toArray}) s.heap.objs.size (.int (0:Nat) 0) 0 a es.size ep:=⟨_,Ao _ rfl,rfl,rfl⟩
  have hS':=hS.at' (h':=s.heap.push {cls:= .type "set_iterator",data:= .fields [rawInt 0,rawInt 0,.ref a,rawInt es.size,rawInt ep].toArray}) fun o e=>Ab _ e
  have hfp:∀b∈[s.heap.objs.size,a],s.heap.objs.size<=b\/b=a:=fun b hb=>by
   simp only [Ag,List.not_mem_nil,or_false] at hb
   rcases hb with rfl|rfl
   ·exact .inl (AS _)
   ·exact .inr rfl
  cases hb:byT w with
  |true=>exact h _ s.drawn _ [s.heap.objs.size,a] _ _ (fun b o e=>Ab _ e) (AS _) hfp ((W0 (w.params.setOrder a ep) es).map _) (fun A' hA=>b9S hb hA _ (Ai hlt)) ⟨hit,hS'⟩
  |false=>
   have h1:es.size<=1:=by
    rw [hb] at hd
    by_cases hz:es.size<=1
    ·exact hz
    ·exfalso
     rw [ht (by lia)] at hd
     simp at hd
     lia
   obtain⟨o,t',ho,hex,hdd,hel,hzz,hf,hl,hpl⟩:=id hS
   have hps:t'.place.size=es.size:=by
    simp only [SetTable.fits,Bool.and_eq_true,beq_iff_eq] at hf
    exact hf.1
   exact h _ s.drawn _ [s.heap.objs.size,a] _ _ (fun b o e=>Ab _ e) (AS _) hfp (List.Perm.refl _) (fun A' hA=>b9Q hb h1 hA _ (Ai hlt) hps) ⟨0,hit,hS',⟨o,t',Ab _ ho,hdd,rfl⟩,fun _=>rfl,fun z=>absurd rfl z⟩
end
section
variable {prog:AL}{w:AJ}{A:AM}{E:AA->AC->Prop}{s:AC}{a:AB}{ep:Nat}{es:Array (Int×AA)}
theorem b4C{r:AB}{Q:Bool->AC->Prop}(hT:s.TypeIs (.ref r) "set")(h:Q false s):AF (model prog w) A (Builtin.List.listLengthHint (.ref r)) Q E s:=by
 unfold Builtin.List.listLengthHint
 refine AD (wpAny_specialOf hT PySem.F.slot_set_len.lookup ?_)
 generalize hid:("set.__len__":String)=id0
 wp_delta
 rw [show splitId id0=some ("set","__len__") from by subst hid;decide+kernel]
 subst hid
 refine AD (wpAny_isInstance (T:="set") (b:=true) hT (by rw [isSubtype_type];kernel_rfl) ?_)
 refine wpAny_ite_split (fun hab=>absurd hab (by decide)) (fun _=> ?_)
 refine wpAny_ite_split (fun _=> ?_) (fun hab=>absurd (by decide+kernel) hab)
 refine AD (wpAny_typeOf hT ?_)
 exact AI h
theorem b2J{Q:List AA->AC->Prop}(hh:A.handled=none)(hS:D4 prog w s.heap a es ep)
 (hQ:∀h' tk d ord,(∀b o,s.heap.get? b=some o->h'.get? b=some o)->ord.Perm (es.toList.map (·.2))->Q ord {s with heap:=h',toks:=tk,drawn:=d}):AF (model prog w) A (collect (.ref a)) Q E s:=by
 have hlt:a<s.heap.objs.size:=by obtain⟨_,_,ho,_⟩:=hS;exact Af ho
 have hn:es.size<=AO:=by
  have hz:es.size<scanBound:=by obtain⟨_,_,_,_,_,_,hz,_⟩:=hS;exact hz
  have hsl:=sizeLine_eq
  unfold scanBound at hz
  lia
 unfold collect
 refine AD (wpAny_runValue (codeAny_builtin F.entry_proto_collect ?_));rw [Around.under_plainId F.plain_proto_collect _]
 show AF _ A.in1 (newList []>>=fun l=>again (.builtin "list.__iadd__" ⟨[l,.ref a],[]⟩)) _ _ s;refine AD (wpAny_newObj_type ?_)
 refine AI ⟨plainId_quiet F.plain_list_iadd _,codeAny_builtin F.entry_list_iadd ?_⟩;rw [Around.under_plainId F.plain_list_iadd _]
 show AF _ A.in1 (Builtin.List.listExtendWith (.ref s.heap.objs.size) (.ref a) (.ref s.heap.objs.size)) _ _ _
 have hS0:(s.heap.push {cls:= .type "list",data:= .seq ([]:List AA).toArray}).get? s.heap.objs.size=some {cls:= .type "list",data:= .seq ([]:List AA).toArray}:=Ao _ rfl
 have hSX:=hS.at' (h':=s.heap.push {cls:= .type "list",data:= .seq ([]:List AA).toArray}) fun o e=>Ab _ e
 have hk0:∀b o,s.heap.get? b=some o->(s.heap.push {cls:= .type "list",data:= .seq ([]:List AA).toArray}).get? b=some o:=fun b o e=>Ab _ e
 have hsz:(s.heap.push {cls:= .type "list",data:= .seq ([]:List AA).toArray}).objs.size=s.heap.objs.size+1:=Heap.size_push ..
 generalize hH:s.heap.push {cls:= .type "list",data:= .seq ([]:List AA).toArray}=H at hS0 hSX hk0 hsz ⊢
 unfold Builtin.List.listExtendWith
 refine AD (wpAny_typeOf (T:="set") hSX.typeIs ?_)
 have hne:s.heap.objs.size≠a:=Nat.ne_of_gt hlt
 have h1:Builtin.List.listSameRef (.ref s.heap.objs.size) (.ref a)=false:=by simp [Builtin.List.listSameRef,hne]
 have h2:(Value.type "set"==Value.type "list")=false:=by decide
 have h3:(Value.type "set"==Value.type "tuple")=false:=by decide
 simp only [h1,h2,h3,Bool.or_false,Ay,if_false]
 refine AD (b8H hSX fun h' d I fp St ord hk hI hfp hp W hst=> ?_)
 refine AD (wpAny_holding (b4C (hSX.at' fun o e=>hk _ _ e).typeIs ?_))
 have hSf:s.heap.objs.size∉fp:=fun hb=>by
  rcases hfp _ hb with h|h
  ·rw [hsz] at h;exact absurd h (Nat.not_le.mpr (Nat.lt_succ_self _))
  ·exact hne h
 have hIlt:s.heap.objs.size<I:=by
  have hI':s.heap.objs.size+1<=I:=by rw [<-hsz];exact hI
  exact hI'
 have key:∀(h2:Heap) (c₁:Nat),St 0 h2->(∀b o,b≠s.heap.objs.size->s.heap.get? b=some o->h2.get? b=some o)->h2.get? s.heap.objs.size=some {cls:= .type "list",data:= .seq #[] c₁}->
  codeAny (model prog w) A (.builtin "list.extend.loop" ⟨[.ref s.heap.objs.size,.ref I,.ref s.heap.objs.size],[]⟩) (fun r s'=>match r with| .ok (.ret v)=>AF (model prog w) A (match v with| .ref a=>(do let o<-load a;match o.data with| .seq xs _=>pure xs.toList|_=>unsupported "internal:collect")|_=>unsupported "internal:collect") Q E s'| .ok _=>False| .error e=>E e s') {s with heap:=h2,drawn:=d}:=by
  intro h2 c₁ hst2 hk2 hS2
  refine codeAny_extend_loopS (W A.in1 hh).toS hn s.heap.objs.size hSf _ es.size 0 _ #[] c₁ rfl (Nat.zero_le _) hst2 hS2 (ItemsOf.nil _) fun s' acc' c' hm hS' hacc=> ?_
  show AF _ A (load s.heap.objs.size>>=_) _ _ _
  refine AD (wpAny_load hS' ?_)
  have e:acc'.toList=ord:=by
   have hl:ord.length=es.size:=by have:=hp.length_eq;simpa using this
   apply List.ext_getElem?
   intro j
   by_cases hj:j<acc'.size
   ·have h1:j<acc'.size:=hj
    have:=hacc.2 j acc'[j] (by simp [h1])
    rw [this,Array.getElem?_toList,getElem?_pos acc' j h1]
   ·rw [Array.getElem?_toList,getElem?_neg acc' j hj,List.getElem?_eq_none (by rw [hl,<-hacc.1];lia)]
  refine AI ?_
  obtain⟨h3,g3,d3,tk3,os3⟩:=s'
  have eg:g3=s.gens:=hm.gens
  have ed:d3=d:=hm.drawn
  have eo:os3=s.os:=hm.os
  subst eg;subst ed;subst eo
  show Q acc'.toList _
  rw [e]
  refine hQ h3 tk3 d3 ord (fun b o q=> ?_) hp
  have hblt:=Af q
  refine hm.heap b o (fun hb=> ?_) (hk2 b o (Ai hblt) q)
  rcases Ag.mp hb with h|h
  ·exact absurd hblt (by rw [h];exact Nat.lt_irrefl _)
  ·rw [List.mem_singleton.mp h] at hblt;exact absurd hblt (Nat.not_lt.mpr (BE hIlt))
 refine wpAny_ite_split (fun _=> ?_) (fun _=>AI ⟨plainId_quiet PySem.F.plain_extend_loop _,key _ _ hst (fun b o hb q=>hk _ _ (hk0 _ _ q)) (hk _ _ hS0)⟩)
 refine AD (wpAny_rule ?_)
 refine AD ?_
 show AF _ _ (updateSeq s.heap.objs.size (·.push .none)>>=fun _=>updateSeq s.heap.objs.size (·.pop)) _ _ _
 have hS1:=hk _ _ hS0
 refine AD (wpAny_updateSeq hS1 rfl ?_)
 have hS₂:=Heap.get?_update_self (Obj.mapSeq (·.push Value.none)) hS1 rfl
 refine wpAny_updateSeq (hz:=by seq_fits) hS₂ rfl ?_
 have hS₃:=Heap.get?_update_self (Obj.mapSeq (·.pop)) hS₂ rfl
 refine AI ⟨plainId_quiet PySem.F.plain_extend_loop _,key _ _ ?_ (fun b o hb e=> ?_) hS₃⟩
 ·refine(W A.in1 hh).frame 0 _ _ hst fun b hb o e=> ?_
  have hbS:b≠s.heap.objs.size:=fun h=>hSf (h▸hb)
  exact(Heap.get?_update_other _ _ (Ne.symm hbS)).trans ((Heap.get?_update_other _ _ (Ne.symm hbS)).trans e)
 ·exact(Heap.get?_update_other _ _ (Ne.symm hb)).trans ((Heap.get?_update_other _ _ (Ne.symm hb)).trans (hk _ _ (hk0 _ _ e)))
theorem a4W{l:AA}{C:List AA->Prop}{Q:AA->AC->Prop}
 (hcol:∀(Q':List AA->AC->Prop) (E':AA->AC->Prop),(∀h1 tk d vs,(∀b o,s.heap.get? b=some o->h1.get? b=some o)->C vs->Q' vs {s with heap:=h1,toks:=tk,drawn:=d})->AF (model prog w) A.in1 (collect l) Q' E' s)
 (hC:∀vs,C vs->vs.length<64/\∃ss,StrsAre vs ss)
 (h:∀(h1 h':Heap) (tk:Tok) d (e:Nat) (vs us:List AA) (ss:List Str),(∀b o',s.heap.get? b=some o'->h1.get? b=some o')->(∀b o',h1.get? b=some o'->h'.get? b=some o')->C vs->StrsAre vs ss->StrsAre us (M9 ss)->
  h'.get? h1.objs.size=some (seqObj "list" us.toArray e)->Q (.ref h1.objs.size) {s with heap:=h',toks:=tk,drawn:=d}):
 AF (model prog w) A (call (.builtin "sorted") [l]) Q E s:=by
 refine Calls.call_function_entry kind_sorted plain_sorted entry_sorted (args_sorted1 _) ?_
 unfold Builtin.«sorted»
 refine AD (m:=checkCount "sorted" 1 1 _) (AI ?_)
 refine AD (hcol _ _ fun h1 tk d vs k1 hv=> ?_)
 obtain⟨h64,ss,hS⟩:=hC vs hv
 refine AD (wpAny_newList ?_ (by rw [sizeLine_eq];lia))
 have hoL:(h1.push (seqObj "list" vs.toArray 0)).get? h1.objs.size=some (seqObj "list" vs.toArray 0):=Ao _ rfl
 show AF _ _ _ _ _ {s with heap:=h1.push (seqObj "list" vs.toArray 0),toks:=tk,drawn:=d}
 refine AD (wpAny_holding (wpAny_call_entry slot_list_sort ⟨_,hoL,rfl⟩ entry_list_sort (list_sort_treeK strKind_oneLt hoL hS.keysOf (fun v₁ v₂ rest e=>keyKind_strs (by rw [<-e];exact hS)) h64 fun st' a1 a2=>⟨_,rfl, ?_⟩) (args_list_sort _)))
 obtain⟨ss',g1,g2,g3⟩:=sorted_out_str hS a1 a2
 have e1:ss'=M9 ss:=Y0 (a6C g3) (M1 ss) (g2.trans (B7 ss).symm)
 subst e1
 obtain⟨e,he⟩:=sortedHeap_at (out:=(arrOf st').map (·.2)) hoL
 refine AI ⟨_,rfl,h h1 _ tk d e vs _ ss k1 (fun b o' hb1=> ?_) hv hS g1 (by rw [Array.toArray_toList];exact he)⟩
 have hlt:=Af hb1
 rw [sortedHeap_old (Ai hlt) (by rw [size_push'];exact Nat.lt_succ_of_lt hlt),Heap.get?_push_ne _ _ _ (Ai hlt)]
 exact hb1
end
def b0R(x:Str):List Str->List Str
 |[]=>[x]
 |y::r=>if x=y then y::r else if y.cps.toList<x.cps.toList then y::b0R x r else x::y::r
def S3:List Str->List Str
 |[]=>[]
 |x::r=>b0R x (S3 r)
theorem a5T(x z:Str):∀l:List Str,z∈b0R x l↔z=x\/z∈l
 |[]=>by simp [b0R]
 |y::r=>by
  unfold b0R
  split
  ·rename_i c;subst c
   rw [Ag]
   exact⟨fun h=> .inr h,fun h=>h.elim .inl id⟩
  ·split
   ·rw [Ag,a5T x z r,Ag]
    exact⟨fun h=>h.elim (fun h=> .inr (.inl h)) fun h=>h.elim .inl fun h=> .inr (.inr h),fun h=>h.elim (fun h=> .inr (.inl h)) fun h=>h.elim .inl fun h=> .inr (.inr h)⟩
   ·rw [Ag]
theorem a4m(z:Str):∀l:List Str,z∈S3 l↔z∈l
 |[]=>Iff.rfl
 |x::r=>by unfold S3;rw [a5T,a4m z r,Ag]
def ltS(a b:Str):Prop:=a.cps.toList<b.cps.toList
theorem b3b{a b c:Str}(h:ltS a b)(g:ltS b c):ltS a c:=List.lt_trans h g
theorem b10(x:Str):∀{l:List Str},l.Pairwise ltS->(b0R x l).Pairwise ltS
 |[],_=>List.pairwise_singleton _ _
 |y::r,h=>by
  unfold b0R
  have h':=List.pairwise_cons.mp h
  split
  ·exact h
  ·rename_i c
   split
   ·rename_i c2
    refine List.pairwise_cons.mpr ⟨fun z hz=> ?_,b10 x h'.2⟩
    rcases(a5T x z r).mp hz with e|e
    ·subst e;exact c2
    ·exact h'.1 z e
   ·rename_i c2
    have hxy:ltS x y:=by
     have h1:leS x y:=c2
     rcases Classical.em (ltS x y) with h|h
     ·exact h
     ·exact absurd (a9U h1 h) c
    refine List.pairwise_cons.mpr ⟨fun z hz=> ?_,h⟩
    rcases Ag.mp hz with e|e
    ·subst e;exact hxy
    ·exact b3b hxy (h'.1 z e)
theorem a3G:∀l:List Str,(S3 l).Pairwise ltS
 |[]=>List.Pairwise.nil
 |x::r=>b10 x (a3G r)
theorem b6G(a:Str):¬ltS a a:=List.lt_irrefl _
theorem b5O{l:List Str}(h:l.Pairwise ltS):l.Nodup:=h.imp fun {a b} c e=>by subst e;exact b6G a c
theorem c0U{l:List Str}(h:l.Pairwise ltS):l.Pairwise leS:=h.imp fun {a b} c=>List.lt_asymm c
theorem b1m{l zs:List Str}(h:l.Pairwise leS)(nd:l.Nodup)(m:∀x,x∈l↔x∈zs):l=S3 zs:=
 Y0 h (c0U (a3G zs)) ((List.perm_ext_iff_of_nodup nd (b5O (a3G zs))).mpr fun x=>(m x).trans (a4m x zs).symm)
def m8(z:Str):List Str:=z.cps.toList.map fun c=>(⟨#[c]⟩:Str)
theorem b7k(z x:Str):x∈sgs z z.cps.size↔x∈m8 z:=by
 unfold sgs m8
 rw [List.mem_reverse,Aj,Aj]
 constructor
 ·rintro⟨i,hi,rfl⟩
  have hi:=List.mem_range.mp hi
  refine⟨z.cps[i],by simp, ?_⟩
  unfold b3y
  rw [Array.getD_eq_getD_getElem?,getElem?_pos z.cps i hi];rfl
 ·rintro⟨c,hc,rfl⟩
  obtain⟨i,hi,rfl⟩:=List.getElem_of_mem hc
  have hi':i<z.cps.size:=by simpa using hi
  refine⟨i,List.mem_range.mpr hi', ?_⟩
  unfold b3y
  rw [Array.getD_eq_getD_getElem?,getElem?_pos z.cps i hi'];rfl
def a0d(x:d0):Option d0:=match x with
 | .val (.str z)=>if z.length+1<4096/\(S3 (m8 z)).length<64 then some (.own ((S3 (m8 z)).map .str)) else none
 |_=>none
theorem a6D:∀{vs:List AA},(∀v∈vs,∃x t,v= .str x t)->StrsAre vs (vs.map sOf)
 |[],_=> .nil
 |v::r,h=>by
  obtain⟨x,t,rfl⟩:=h v Aq
  exact .cons x t (a6D fun u hu=>h u (An _ hu))
theorem Y1:∀{vs:List AA} {ss:List Str},StrsAre vs ss->ss=vs.map sOf
 |_,_,.nil=>rfl
 |_,_,.cons x t h=>by rw [AQ,<-Y1 h];rfl
section
variable {X:Cx}{pins:List (AB×Obj)}{σ:L2.St}{H:Hp}{s:AC}
theorem b12(I:e9 X pins σ H s)(d:Drawn):e9 X pins σ H {s with drawn:=d}:=⟨I.ok,I.os,I.bare,I.base,I.loc,I.cell,I.free,I.freeC,I.pin,I.hok,I.len⟩
def c0B(X:Cx):List V->Hp->VK->Prop:=fun xs H Q=>∃z:Str,xs=[.str z]/\z.length+1<4096/\∀p es ep,H p=none->TxE es (m8 z)->es.size<=z.length->Q (.ref p) (t8 H p (.ext fun h=>D4 X.prog X.w h p es ep))
theorem b2H(hc:X.calm=true):E9 X (.type "set") (c0B X):=by
 intro pins s σ H xs us Q I rv h
 obtain⟨z,rfl,hz,q⟩:=h
 obtain⟨u,rfl,ru⟩:=a01 rv
 obtain⟨t,rfl⟩:=ru
 refine c0F (I.ok.hd hc) (by unfold scanBound;exact hz) fun h' tk es ep hS hT hle hk=> ?_
 refine⟨.ref s.heap.objs.size,_,I.laid (a:=s.heap.objs.size) (t':=tk) (o:= .ext fun h=>D4 X.prog X.w h s.heap.objs.size es ep) (fun b o e=>hk b o (Af e) e) (AS _) ⟨hS, ?_, ?_⟩,rfl,q _ es ep (I.hok.fresh (AS _)) ⟨hT.all,hT.nd,fun x=>(hT.mem x).trans (b7k z x)⟩ hle⟩
 ·obtain⟨o,_,ho,_⟩:=hS;exact⟨o,ho⟩
 ·exact fun h1 h2 p k=>p.at' k
def b9y(X:Cx):List V->Hp->VK->Prop:=fun xs H Q=>∃p es ep zs,xs=[.ref p]/\H p=some (.ext fun h=>D4 X.prog X.w h p es ep)/\TxE es zs/\(S3 zs).length<64/\∀q,H q=none->Q (.ref q) (t8 H q (.lst ((S3 zs).map V.str)))
theorem b0E(hc:X.calm=true):E9 X (.builtin "sorted") (b9y X):=by
 intro pins s σ H xs us Q I rv h
 obtain⟨p,es,ep,zs,rfl,hp,hT,h64,q⟩:=h
 obtain⟨u,rfl,ru⟩:=a01 rv
 cases ru
 obtain⟨hS,_,_⟩:=(show A7 X.prog X.w H s.heap p (.ext fun h=>D4 X.prog X.w h p es ep) from I.hok p _ hp)
 have facts:∀vs:List AA,vs.Perm (es.toList.map (·.2))->StrsAre vs (vs.map sOf)/\M9 (vs.map sOf)=S3 zs:=fun vs pm=>by
  refine⟨a6D fun v hv=> ?_, ?_⟩
  ·obtain⟨e,he,rfl⟩:=Aj.mp (pm.mem_iff.mp hv)
   exact hT.all e he
  ·have pk:(M9 (vs.map sOf)).Perm (a5Z es):=by
    refine(B7 _).trans ?_
    have:=pm.map sOf
    rw [Aw] at this
    exact this
   exact b1m (M1 _) (pk.nodup_iff.mpr hT.nd) fun x=>(pk.mem_iff).trans (hT.mem x)
 refine a4W (C:=fun vs=>vs.Perm (es.toList.map (·.2))) (fun Q' E' hq=>b2J (A:=X.A.in1) (I.ok.hd hc) hS fun h' tk d ord kp pm=>hq h' tk d ord kp pm) (fun vs pm=> ?_) fun hp1 hp2 tk d en vs us ss k1 k2 pm hs hu he=> ?_
 ·obtain⟨f1,f2⟩:=facts vs pm
  refine⟨?_,_,f1⟩
  have:=(B7 (vs.map sOf)).length_eq
  rw [f2,Ac] at this
  lia
 ·obtain⟨f1,f2⟩:=facts vs pm
  cases Y1 hs
  rw [f2] at hu
  have I1:e9 X pins σ H {s with heap:=hp1,toks:=tk,drawn:=d}:=b12 (I.kept (t':=tk) k1) d
  have hf:H hp1.objs.size=none:=I1.hok.fresh (AS _)
  exact⟨.ref hp1.objs.size,_,I1.laid (t':=tk) (h':=hp2) (o:= .lst ((S3 zs).map V.str)) k2 (AS _) ⟨by rw [Ac,sizeLine_eq];lia,us,en,a2b hu,he⟩,rfl,q _ hf⟩
theorem b0J{e:AG}{m:M}{p p2 pos pos2:Pos}(hc:X.calm=true)(hg:Gl X "sorted")(hm:X.mg "sorted"=none)(hg2:Gl X "set")(hm2:X.mg "set"=none)(ha:EE X e m)
 (hv:bootBuiltins "sorted"=some (.builtin "sorted"):=by rfl) (hv2:bootBuiltins "set"=some (.type "set"):=by rfl)
 (hs:AN [e] X.env=(false,eval e X.env)::AN [] X.env:=by rfl) (hpl:(backTo pos2 (AN [] X.env)).any (·.1)=false:=by rfl)
 (hs2:AN [.Call (.Name "set" p2) [e] [] pos2] X.env=(false,eval (.Call (.Name "set" p2) [e] [] pos2) X.env)::AN [] X.env:=by rfl) (hpl2:(backTo pos (AN [] X.env)).any (·.1)=false:=by rfl):
 EE X (.Call (.Name "sorted" p) [.Call (.Name "set" p2) [e] [] pos2] [] pos) (m1 a0d m):=
 u6 (a1L (b0E hc) hg hm hv (y3 (a7N (b2H hc) hg2 hm2 hv2 (y3 ha O3 hs) (by decide) (by decide) hs hpl) O3 hs2) (by decide) (by decide) hs2 hpl2) fun σ H Q h0=>t6 h0 fun F ρ r en em k=>by
  obtain⟨rx,e1,e2⟩:=bind_some em
  refine⟨F,ρ,rx,en,e1,fun v F1 H1 o1=> ?_⟩
  unfold a0d at e2
  split at e2
  ·rename_i z
   split at e2
   ·rename_i c
    cases e2
    refine⟨z,by rw [show v=V.str z from o1.rep],c.1,fun p es ep hp hT hle=> ?_⟩
    refine⟨p,es,ep,m8 z,rfl,j7,hT,c.2,fun q hq=>k _ F1 _ ?_⟩
    have s1:j5 F1 (t8 H1 p (.ext fun h=>D4 X.prog X.w h p es ep)):=o1.x.fh.trans (Q6 hp)
    have x1:W6 F1 H1 F1 (t8 H1 p (.ext fun h=>D4 X.prog X.w h p es ep)):=W6.layH o1.x.fh hp
    exact r9.trans (o1.x.trans x1) (r9.lst x1.fh hq (a19 _))
   ·cases e2
  ·cases e2
end
theorem b0P(z:Str):a0d (.val (.str z))=if z.length+1<4096/\(S3 (m8 z)).length<64 then some (.own ((S3 (m8 z)).map .str)) else none:=Eq.trans rfl rfl
open PySem PySem.Spec PyProof.Rows L2
section
variable {X:Cx}
end
section
variable {K:AE}{F:Hp}{a:AB}{xs:List (List m3×V)}
end
section
variable {X:Cx}
end
section
variable {prog:AL}{w:AJ}{K:Type}[DecidableEq K]{kd:KeyKind prog w K}{A:AM}{E:AA->AC->Prop}{s:AC}
end
section
variable {X:Cx}{pins:List (AB×Obj)}{σ:L2.St}{H:Hp}{s:AC}{a:AB}{kvs:List (List m3×V)}{A:AM}{E:AA->AC->Prop}
end
section
variable {X:Cx}{o i:AG}{td ty:TE}
end
section
variable {X:Cx}
end
section
variable {X:Cx}
end
section
variable {prog:AL}{w:AJ}{K:Type}[DecidableEq K]{knd:KeyKind prog w K}{A:AM}{E:AA->AC->Prop}{s:AC}
end
section
variable {prog:AL}{w:AJ}{A:AM}{E:AA->AC->Prop}{s:AC}
end
end PU
namespace TS
open PySem PySem.Spec PyProof.Rows L2 PU
section
variable {prog:AL}{w:AJ}{A:AM}{E:AA->AC->Prop}{s:AC}
variable {κ:SortKind}{S:Heap->Keyed->Prop}{R:Heap->Keyed->Keyed->Bool}
end
end TS
namespace PU
open PySem PySem.Spec PyProof.Rows L2 PySem.W
section
variable {X:Cx}{pins:List (AB×Obj)}{σ:L2.St}{H H':Hp}{s:AC}{h':Heap}
end
section
variable {X:Cx}
end
section
variable {X:Cx}
end
open PySem PySem.Spec PyProof.Rows L2
section
variable {X:Cx}{pins:List (AB×Obj)}{σ:L2.St}{H:Hp}{s:AC}{a:AB}{kvs:List (m3×V)}{k:m3}{v:V}{u r:AA}{A:AM}{E:AA->AC->Prop}
end
section
variable {X:Cx}{pins:List (AB×Obj)}{σ:L2.St}{A:AM}{R:Result->AC->Prop}
end
section
variable {X:Cx}
end
section
variable {X:Cx}
end
section
variable {X:Cx}
end
section
variable {K:AE}{F:Hp}{a:AB}{xs:List (m3×V)}
end
section
variable {X:Cx}
end
section
variable {prog:AL}{w:AJ}{A:AM}{E:AA->AC->Prop}{s:AC}{z TI TO i1 i2:AB}{n1 n2 i:Nat}{P1 P2:Nat->AA->Prop}{St1 St2:Nat->Heap->Prop}{a b:AA}
end
section
variable {X:Cx}
end
section
variable {prog:AL}{w:AJ}{K:Type}[DecidableEq K]{knd:KeyKind prog w K}{A:AM}{E:AA->AC->Prop}{s:AC}
end
section
variable {X:Cx}
end
section
variable {X:Cx}{tg:AG}
end
end PU
set_option maxHeartbeats 3200000
namespace PU
open PySem PySem.Spec PyProof.Rows L2 PySem.W
section
variable {prog:AL}{w:AJ}{A:AM}{E:AA->AC->Prop}{s:AC}
end
end PU
set_option maxHeartbeats 1000000
namespace PU
open PySem PySem.Spec PyProof.Rows L2
section
variable {X:Cx}
end
section
variable {X:Cx}
end
section
variable {X:Cx}
end
section
variable {X:Cx}
end
end PU
set_option maxHeartbeats 2000000
namespace PU
open PySem PySem.Spec PyProof.Rows L2 PySem.W
section
variable {prog:AL}{w:AJ}{A:AM}{E:AA->AC->Prop}{s:AC}
end
section
variable {X:Cx}
end
section
variable {X:Cx}
end
section
variable {P:AL}{w:AJ}{K:AE}{mg:Str->Option AA}{base:Heap}
theorem a5h{x:Str}{st:Stmt}{N ps:List Str}{k:Nat}{m:MX}(D:Df K mg x st)(S:g5 N ps (c9 st))
 (hi:∀(kV doc pm:AA) (an:Option AB) (cdv ct:AA) (us:List AA),us.length=ps.length->bindArgs (PySem.W.fnOf x x (O9 st) (z5 st) (c9 st) .none kV doc pm an cdv ct) ⟨us,[]⟩=pure (ps.zip us))
 (hb:∀(f:AB) (cdv:AA) (A:AM) (outer:List Env) (s:AC) (H:Hp) (E:XK),D3 k (A.deeper (envOfC x (c9 st) s.heap.objs.size f cdv))->S4 (CX1 P w) (a1k (CX1 P w) P w K mg base N x (c9 st) f cdv A outer s H E) (fun _=>E)->EXs (a1k (CX1 P w) P w K mg base N x (c9 st) f cdv A outer s H E) (fun _=>E) (z5 st) m):
 a05 P w K mg base x ps (k+1) (b0i (N.length - ps.length) m):=
 let ⟨f,fd,F,hm⟩:=D
 ⟨f,fd,b8w F S fun cdv A outer s H E hr=>hb f cdv A outer s H E hr fun pins σ H s e s' I h=>b0V pins σ H s e s' I h,hm,F.kp,F.binds hi⟩
end
open PySem PySem.Spec PyProof.Rows L2
end PU
set_option maxHeartbeats 1000000
namespace PU
open PySem PySem.Spec PyProof.Rows L2
section
open AutoSeq1 (wpAny_loadPart')
open PySem.MeetsSeq3 (plain_eq_loop entry_eq_loop)
variable {A:AM}{s:AC}
end
open PySem PySem.Spec PyProof.Rows L2 PySem.W
section
variable {X:Cx}{pins:List (AB×Obj)}{σ:L2.St}{H:Hp}{s:AC}
end
end PU
namespace L2
open PySem PySem.Spec PyProof.Rows
end L2
namespace PU
open PySem PySem.Spec PyProof.Rows L2
open PySem.W (Looks InstAt looks_findIn looks_find looks_subIn looks_mroIn)
def a9e(K:AE)(D:AB):Bool:=(PySem.W.clsIn K D).isSome && PySem.W.findIn K (.ref D) "__getattribute__"==some (some (.builtin "BaseException.__getattribute__"))&& PySem.W.findIn K (.ref D) "__getattr__"==some none
 && PySem.W.findIn K (.ref D) "__class__"==some (some (.builtin "object.__class__"))&& PySem.W.specialIn K (.builtin "object.__class__") "__get__"==some (some (.builtin "getset_descriptor.__get__"))&& PySem.W.takesIn K (.builtin "object.__class__")==some true
 && PySem.W.mroIn K D (.type "object")==some true && PySem.W.subIn K (.ref D) (.type "BaseException")==some true
structure XcF(K:AE)(D:AB):Prop where
 cl:(PySem.W.clsIn K D).isSome=true
 ga:PySem.W.findIn K (.ref D) "__getattribute__"=some (some (.builtin "BaseException.__getattribute__"))
 gt:PySem.W.findIn K (.ref D) "__getattr__"=some none
 ob:∀od,PySem.W.findObj K D od "__class__"=some (.bind (.builtin "getset_descriptor.__get__") (.builtin "object.__class__"))
 mo:PySem.W.mroIn K D (.type "object")=some true
 sb:PySem.W.subIn K (.ref D) (.type "BaseException")=some true
theorem b7A{K:AE}{D:AB}(h:a9e K D=true):XcF K D:=by
 unfold a9e at h
 simp only [Bool.and_eq_true,beq_iff_eq] at h
 obtain⟨⟨⟨⟨⟨⟨⟨h1,h2⟩,h3⟩,h4⟩,h5⟩,h6⟩,h7⟩,h8⟩:=h
 refine⟨h1,h2,h3,fun od=> ?_,h7,h8⟩
 obtain⟨cd,hc⟩:=Option.isSome_iff_exists.mp h1
 unfold PySem.W.findObj
 rw [hc,AH,h4,AH]
 simp [h5,h6]
section
variable {prog:AL}{w:AJ}{A:AM}{E:AA->AC->Prop}{s:AC}{K:AE}{x D:AB}{ox:Obj}{od:Option Obj}
theorem b5W{tk:Tok}{Q:PySem.Fin->AC->Prop}(X:K.In s.heap)(I:InstAt s.heap x ox D od)(F:XcF K D)(hq:Q (.done (.ret (.ref D))) s):
 AF (model prog w) A (Builtin.«object.__getattribute__» ⟨[.ref x,.str "__class__" tk],[]⟩) Q E s:=by
 obtain⟨hh,g,d,t,os⟩:=s
 have L0:=I.type (M:=model prog w)
 have L1:=looks_find (M:=model prog w) X I (F.ob od)
 unfold Builtin.«object.__getattribute__»
 repeat (any_goals (first|assumption|with_reducible refine L0.at ?_|with_reducible refine L1.at ?_|wp_step))
 exact PySem.W.class_get (s:=⟨hh,g,d,t,os⟩) X I F.mo (AI hq)
theorem b5U{nameV:AA}{Q:Unit->AC->Prop}(X:K.In s.heap)(I:InstAt s.heap x ox D od)(F:XcF K D)(hq:Q () s):AF (model prog w) A (checkBuiltinCall "BaseException.__getattribute__" ⟨[.ref x,nameV],[]⟩) Q E s:=by
 obtain⟨hh,g,d,t,os⟩:=s
 have L0:=I.type (M:=model prog w)
 have L1:=looks_subIn (M:=model prog w) X F.sb
 have hk:builtinKind "BaseException.__getattribute__"=some .slot:=by decide+kernel
 have hsplit:splitId "BaseException.__getattribute__"=some ("BaseException","__getattribute__"):=by decide+kernel
 have ha:=PySem.F.args_bexc_ga (.ref x) nameV
 simp only [checkBuiltinCall,hk,hsplit]
 refine AD ?_
 ·unfold isInstance
  repeat (first|with_reducible refine L0.at ?_|with_reducible refine L1.at ?_|wp_step)
  exact hq
theorem c0W{tk:Tok}{fill expr:Bool}{Q:AA->AC->Prop}(X:K.In s.heap)(I:InstAt s.heap x ox D od)(F:XcF K D)(hq:Q (.ref D) s):AF (model prog w) A (getAttrBy (.ref x) (.str "__class__" tk) fill expr) Q E s:=by
 obtain⟨hh,g,d,t,os⟩:=s
 have L0:=I.type (M:=model prog w)
 have L1:=looks_findIn (M:=model prog w) X F.ga
 have L2:=looks_findIn (M:=model prog w) X F.gt
 have FB:=PySem.F.attr_ValueError
 have f3:=FB.ga.bind (.ref x)
 have hx0:(expr && onTheHeap (Value.builtin "BaseException.__getattribute__"))=false:=by cases expr<;>rfl
 have hx2:(Value.builtin "BaseException.__getattribute__"==Value.builtin "object.__getattribute__")=false:=by decide+kernel
 have hx1:(onTheHeap (Value.ref D)&& Value.builtin "BaseException.__getattribute__"==Value.builtin "object.__getattribute__")=false:=by rw [hx2];rfl
 repeat (any_goals (first|assumption|with_reducible refine L0.at ?_|with_reducible refine L1.at ?_|with_reducible refine L2.at ?_|wp_step))
 refine codeAny_call_builtin FB.ga.plain PySem.F.entry_bexc_ga (b5U (s:=⟨hh,g,d,t,os⟩) X I F (b5W (s:=⟨hh,g,d,t,os⟩) X I F ?_))
 repeat (any_goals (first|assumption|wp_step))
theorem b5V{Q:Option AA->AC->Prop}(X:K.In s.heap)(I:InstAt s.heap x ox D od)(F:XcF K D)(hq:Q (some (.ref D)) {s with toks:=s.toks+1}):AF (model prog w) A (getAttr? (.ref x) "__class__") Q E s:=by
 obtain⟨hh,g,d,t,os⟩:=s
 unfold getAttr? getAttrBy?
 refine AD (wpAny_mkText (AD (wpAny_attempt (c0W (s:=⟨hh,g,d,t+1,os⟩) X I F ?_))))
 exact AI hq
end
theorem b2F{K:AE}{x D:AB}{c:AA}(F:XcF K D)(e:PySem.W.kitOne K (.ref D) c=some false):Answers (fun s=>K.In s.heap/\∃o od,InstAt s.heap x o D od) (.ref x) c false:=fun dep tk prog w A R s hs=>by
 obtain⟨hh,gg,dr,tt,oo⟩:=s
 obtain⟨⟨kin,o,od,I⟩,fin⟩:=hs
 have L0:=I.type (M:=model prog w)
 have hisD:Looks (model prog w) hh (isType (.ref D)) true:=by
  obtain⟨cdD,hcD⟩:=Option.isSome_iff_exists.mp F.cl
  unfold PySem.W.clsIn at hcD
  split at hcD
  ·rename_i c' d' cd' sl' ho
   intro A' Q' E' s' k q
   unfold isType loadHead
   exact AD (wpAny_loadPart (k _ _ (kin _ _ ho)) (AI q))
  ·cases hcD
 unfold Builtin.«isinstance.nested»
 refine AD ?_
 refine L0.at ?_
 cases q:(Value.ref D==c) with
 |true=>
  unfold PySem.W.kitOne at e
  rw [q,if_pos rfl] at e
  cases e
 |false=>
  rw [if_neg Ax]
  unfold PySem.W.kitOne at e
  rw [q,if_neg Ax] at e
  have z:=PySem.W.kit_cls (M:=model prog w) kin e
  have z3:Looks (model prog w) hh (isInstance (.ref x) c) false:=L0.andThen z.2.2
  refine AD ?_
  refine z.1.at ?_
  rw [if_pos (by decide)]
  k_delta "plainIsInstance"
  refine AD ?_
  refine AD ?_
  refine z.2.1.at ?_
  simp only [Bool.not_true,if_false,Ay]
  refine AD ?_
  refine z3.at ?_
  simp only [Ay,if_false]
  refine AD (b5V (s:=⟨hh,gg,dr,tt,oo⟩) kin I F ?_)
  refine AD (hisD.at ?_)
  simp only [Bool.not_true,Ay,if_false]
  refine AD (wpAny_rule ?_)
  refine z.2.2.at ?_
  first
   |exact AI (fin _)
   |exact AI (AI (fin _))
   |exact AD (AI (AI (fin _)))
theorem b23{K:AE}{prog:AL}{w:AJ}{A:AM}{E:AA->AC->Prop}{s:AC}{Q:AA->AC->Prop}{x D:AB}{c:AA}{o:Obj}{od:Option Obj}(kin:K.In s.heap)(I:InstAt s.heap x o D od)(F:XcF K D)(e:PySem.W.kitOne K (.ref D) c=some false)(fin:∀tk,Q (.bool false) {s with toks:=tk}):
 AF (model prog w) A (call (.builtin "isinstance") [.ref x,c]) Q E s:=by
 refine call_isinstance (S:=fun _ R s=>(K.In s.heap/\∃o od,InstAt s.heap x o D od)/\∀tk,R (.ok (.ret (.bool false))) {s with toks:=tk}) (fun prog w A R s hs=> ?_) ⟨⟨kin,o,od,I⟩,fin⟩
 refine isinstance_outer ?_ (fun z=>nomatch z)
 exact b2F F e 0 _ prog w A R s hs
def b50(K:AE)(cv:AA)(tab:List (Str×Bool)):Prop:=∀c b,tab.lookup c=some b->∃C,K3 K c C/\XcF K C/\PySem.W.kitOne K (.ref C) cv=some b
theorem a3I{K:AE}{cv:AA}:b50 K cv []:=fun _ _ h=>nomatch h
theorem z0{K:AE}{mg:Str->Option AA}{cv:AA}{c:Str}{b:Bool}{C:AB}{t:List (Str×Bool)}(x:XC K mg c C)(f:a9e K C=true)(e:PySem.W.kitOne K (.ref C) cv=some b)(h:b50 K cv t):b50 K cv ((c,b)::t):=fun c1 b1 q=>by
 rw [List.lookup_cons] at q
 split at q
 ·rename_i z
  cases q
  rw [beq_iff_eq.mp z]
  exact⟨C,x.named,b7A f,e⟩
 ·exact h c1 b1 q
section
variable {X:Cx}
theorem a8h{tab:List (Str×Bool)}{cv:AA}{cV:V}{e:AG}{n:Str}{m:M}{p p2 pos:Pos}(T:b50 X.K cv tab)(rv:∀u,l8 cV u->u=cv)(hg:Gl X "isinstance")(hm:X.mg "isinstance"=none)(ha:EE X e m)(hT:PE X (.Name n p2) (tC cV))
 (he:AN [e,.Name n p2] X.env=(false,eval e X.env)::AN [.Name n p2] X.env:=by rfl) (he2:AN [.Name n p2] X.env=(false,eval (.Name n p2) X.env)::AN [] X.env:=by rfl) (hpl:(backTo pos (AN [.Name n p2] X.env)).any (·.1)=false:=by rfl)
 (hv:bootBuiltins "isinstance"=some (.builtin "isinstance"):=by rfl):
 EE X (.Call (.Name "isinstance" p) [e,.Name n p2] [] pos) (m1 (a1v tab) m):=by
 have hc:E9 X (.builtin "isinstance") (fun xs H Q=>∃F x c b,xs=[x,cV]/\j5 F H/\b2E X.K F c x/\tab.lookup c=some b/\Q (.bl b) H):=by
  intro pins s σ H xs us Q I rv0 h
  obtain⟨F,x,c,b,rfl,s0,h1,hl,q⟩:=h
  obtain⟨u,u2,rfl,ru,ru2⟩:∃u1 u2,us=[u1,u2]/\l8 x u1/\l8 cV u2:=by
   cases rv0 with
   |cons p q=>
    cases q with
    |cons p' q'=>
     cases q'
     exact⟨_,_,rfl,p,p'⟩
  cases rv _ ru2
  obtain⟨C,nm,fc,k1⟩:=T c b hl
  have fin:∀tk,EP X pins σ Q (.bool b) {s with toks:=tk}:=fun tk=>⟨.bl _,H,I.tok tk,rfl,q⟩
  obtain⟨a,C',o,od,rfl,g4,J⟩:=b7G I (h1.mono s0)
  cases g4.uniq nm
  cases(show u=Value.ref a from ru)
  cases b with
  |true=>exact b4J I.kIn J.at_ J.cls k1 fin
  |false=>exact b23 I.kIn J fc k1 fin
 exact u6 (a1L hc hg hm hv (y3 ha (y3 hT O3 he2) he) (by decide) (by decide) he hpl) fun σ H Q h0=>t6 h0 fun F ρ r h1 h2 k=>by
  obtain⟨rx,e1,h2⟩:=bind_some h2
  refine⟨F,ρ,rx,h1,e1,fun v F1 H1 o=> ?_⟩
  obtain⟨c,hc,h2⟩:=bind_some h2
  cases hl:tab.lookup c with
  |none=>rw [hl] at h2;cases h2
  |some b=>
   rw [hl] at h2
   cases h2
   exact⟨H1,v,c,b,rfl,j5.refl H1,b7D (o.rep.rd o.x.fh) hc,hl,k _ F1 H1 (r9.val o.x rfl)⟩
end
end PU
namespace ZT
open PySem PySem.Spec PyProof.Rows L2 PU
section
variable {prog:AL}{w:AJ}{A:AM}{E:AA->AC->Prop}{s:AC}{z TI TO i1 i2:AB}{n1 n2 i:Nat}{P1 P2:Nat->AA->Prop}{St1 St2:Nat->Heap->Prop}{a b:AA}{l1 l2:AB}
end
section
variable {prog:AL}{w:AJ}{A:AM}{E:AA->AC->Prop}{s:AC}
end
section
variable {X:Cx}
end
end ZT
namespace PU
open PySem PySem.Spec PyProof.Rows L2
section
variable {X:Cx}
end
section
variable {X:Cx}
end
section
variable {X:Cx}
theorem b46:OpM X (inplaceOp .Mult) (M5 a4X fun i j=> .int (i*j)):=a6k b6w fun _ _ _=>rfl
end
def b5B(n:Nat):m3->Bool
 | .inr s=>s.length==n
 |_=>false
def b5G(n:Nat):AA->Bool
 | .str s _=>s.length==n
 |_=>false
def a5Y(k:List m3):Bool:=((k.length==2||k.length==3)&& k.any Sum.isLeft)||((Nat.blt 0 k.length && Nat.blt k.length 6)&& k.all (b5B k.length))
def a7V(o:Obj):Bool:=match o with
 |⟨.type "tuple",_,.seq its _,_⟩=>((its.size==2||its.size==3)&& its.toList.any b4E)||((Nat.blt 0 its.size && Nat.blt its.size 6)&& its.toList.all (b5G its.size))
 |_=>false
def a6e(K:AE):Bool:=K.all fun p=> !a7V p.2
theorem b1w{n:Nat}:∀{k:List m3} {us:List AA},l9 (k.map kV) us->k.all (b5B n)=true->us.all (b5G n)=true
 |[],_,r,_=>by
  rw [AW] at r
  cases r;rfl
 |k::ks,_,r,h=>by
  rw [AQ] at r
  cases r with
  |cons r1 r2=>
   rw [List.all_cons,Bool.and_eq_true] at h ⊢
   refine⟨?_,b1w r2 h.2⟩
   cases k with
   |inl i=>cases h.1
   |inr x=>obtain⟨t,rfl⟩:=(show ∃t,_=Value.str x t from r1);exact h.1
theorem b3l{K:AE}(nk:a6e K=true){a:AB}{o:Obj}{its:Array AA}{n:Nat}{k:List m3}(e:K.lookup a=some o)(hc:o.cls= .type "tuple")(hd:o.data= .seq its n)(r:l9 (k.map kV) its.toList)(hk:a5Y k=true):False:=by
 obtain⟨b,hb⟩:=b0W e
 have h:=List.all_eq_true.mp nk _ hb
 obtain⟨cls,d,data,sl⟩:=o
 simp only at hc hd
 subst hc hd
 unfold a5Y at hk
 have h2:=r.length
 have h2:k.length=its.size:=by simpa using h2
 have h3:a7V ⟨.type "tuple",d,.seq its n,sl⟩=true:=by
  show(((its.size==2||its.size==3)&& its.toList.any b4E)||((Nat.blt 0 its.size && Nat.blt its.size 6)&& its.toList.all (b5G its.size)))=true
  rw [Bool.or_eq_true,Bool.and_eq_true,Bool.and_eq_true] at hk ⊢
  rcases hk with hk|hk
  ·exact .inl ⟨by rw [<-h2];exact hk.1,b1x r hk.2⟩
  ·exact .inr ⟨by rw [<-h2];exact hk.1,b1w r (by rw [<-h2];exact hk.2)⟩
 rw [h3] at h
 cases h
def a4I(r:d0):Option (List m3):=match r with
 | .val (.tuple ps)=>(keysOf ps).bind fun k=>if a5Y k=true then some k else none
 |_=>none
theorem a7r{K:AE}{F H:Hp}{r:d0}{k:List m3}{v:V}(nk:a6e K=true)(e:a4I r=some k)(h:N2 K F H v r):∃b,v= .ref b/\F b=some (.tup (k.map kV)):=by
 unfold a4I at e
 split at e
 ·obtain⟨k',e1,e⟩:=bind_some e
  split at e
  ·rename_i hk
   cases e
   obtain⟨b,xs,rfl,hq,rl⟩:=h
   have ex:=a2H e1 rl
   subst ex
   rcases hq with hq|⟨o,its,n,h1,h2,h3,h4,h5⟩
   ·exact⟨b,rfl,hq⟩
   ·exact(b3l nk h1 h2 h3 h5 hk).elim
  ·cases e
 ·cases e
section
variable {X:Cx}
def a5k(i:Nat)(mk mv:M):MS:=fun ρ=>((mv ρ).bind d0.toVal).bind fun p=>((mk ρ).bind a4I).bind (a9A i ρ p)
theorem a7h(i:Nat){x:Str}{p tp2 pos:Pos}{ek e:AG}{mk mv:M}(hu:X.A.units+64<cLine)(nk:a6e X.K=true)(hx:PE X (.Name x p) (a4n i))(hi:EE X ek mk)(he:EE X e mv)
 (hs:swapsWith e (some (.Subscript (.Name x p) ek tp2)) pos.line X.env=pure false:=by rfl):ES X (.Assign [.Subscript (.Name x p) ek tp2] e pos) (a5k i mk mv):=
 x6 (b69 (by lia) hx hi he hs) fun D σ H h0=>C8 h0 fun F0 H0 F ρ fl so e fin=>by
  obtain⟨q,e1,e⟩:=bind_some e
  obtain⟨r,e2,e3⟩:=bind_some e1
  obtain⟨k,e4,e⟩:=bind_some e
  obtain⟨rk,e4,e5⟩:=bind_some e4
  refine⟨F,ρ,r,so.e,e2,fun v F1 H1 o=> ?_⟩
  obtain⟨F2,o2⟩:=o.toVal e3
  have so2:=so.ext o2.x
  unfold a9A at e
  split at e
  ·rename_i kvs eo
   split at e
   ·rename_i hl
    cases e
    obtain⟨w,hw1,a,xs,rfl,fa,ha',rl⟩:=so2.e.at_ i _ eo
    refine⟨.ref a,hw1,F2,ρ,rk,so2.e,e4,fun y F3 H3 o3=> ?_⟩
    obtain⟨b,rfl,hb⟩:=a7r nk e5 o3.rep
    have ha3:=o3.x.h _ _ ha'
    have so3:=so2.ext o3.x
    refine⟨a,_,rfl,b3F.t (k:=k) ha3 (o3.x.fh _ _ hb) (by rw [rl.length];exact hl), ?_⟩
    exact fin σ _ _ (o2.x.f.trans o3.x.f) (so3.putD eo hw1 ((C7.mono o3.x.f _ rl).put (B5.mono o3.x.f _ o2.rep)))
   ·cases e
  ·cases e
def b18(neg:Bool)(i:Nat)(mk:M):M:=fun ρ=>((mk ρ).bind a4I).bind (b2P neg i ρ)
theorem b39{i:Nat}{mk:M}{neg:Bool}{σ:L2.St}{H:Hp}{Q:VK}(nk:a6e X.K=true)(h:tM X.K (b18 neg i mk) σ H Q):
 tM X.K mk σ H fun y H1=>a4n i σ H1 fun x H2=>∃a o,x= .ref a/\a6L H2 a y o/\Q (.bl (if neg then !o.isSome else o.isSome)) H2:=by
 obtain⟨F,ρ,r,en,e,k⟩:=h
 obtain⟨kk,e4,e⟩:=bind_some e
 obtain⟨rk,e4,e5⟩:=bind_some e4
 unfold b2P at e
 split at e
 ·rename_i kvs eo
  cases e
  refine⟨F,ρ,rk,en,e4,fun y F3 H3 o3=> ?_⟩
  obtain⟨b,rfl,hb⟩:=a7r nk e5 o3.rep
  obtain⟨w,hw1,a,xs,rfl,fa,ha',rl⟩:=(en.ext o3.x).at_ i _ eo
  refine⟨.ref a,hw1,a,a04 xs kk,rfl,a6L.t ha' (o3.x.fh _ _ hb), ?_⟩
  rw [rl.isSome]
  exact k _ _ _ (r9.val o3.x rfl)
 ·cases e
theorem b0L(i:Nat){x:Str}{p pos:Pos}{ek:AG}{mk:M}(hu:X.A.units+64<cLine)(nk:a6e X.K=true)(hx:PE X (.Name x p) (a4n i))(hi:EE X ek mk)(hm:behindInMarks .NotIn (.Name x p)=false):ET X (.Compare ek [.NotIn] [.Name x p] pos) (mtB (b18 true i mk)):=
 a81 (b9u (b3s (by lia) hi hx) hm) fun σ H Q h=>c0I (fun _ _ _ h=>b39 nk h) h
end
section
variable {X:Cx}
end
theorem a4L(i:Nat)(mk mv:M)(ρ:a9):a5k i mk mv ρ=((mv ρ).bind d0.toVal).bind fun p=>((mk ρ).bind a4I).bind (a9A i ρ p):=Eq.trans rfl rfl
theorem a7A(neg:Bool)(i:Nat)(mk:M)(ρ:a9):b18 neg i mk ρ=((mk ρ).bind a4I).bind (b2P neg i ρ):=Eq.trans rfl rfl
theorem b6z(i j:Int):a4I (.val (.tuple [.int i,.int j]))=some [.inl i,.inl j]:=Eq.trans rfl rfl
section
variable {X:Cx}
variable {Φ:L2.St->Hp->Prop}{I:List Nat}
end
section
variable {X:Cx}
end
section
variable {X:Cx}
end
section
variable {X:Cx}{tg:AG}
end
section
variable {X:Cx}
end
open PySem PySem.Spec PyProof.Rows L2 PySem.W
section
variable {X:Cx}
end
section
variable {X:Cx}
end
section
variable {X:Cx}
end
section
variable {X:Cx}
end
section
variable {X:Cx}
end
section
variable {X:Cx}
end
section
variable {X:Cx}
end
def a2E(x:d0):Option d0:=match x with
 | .val (.str z)=>if z.length<64 then some (.own ((M9 (m8 z)).map .str)) else none
 |_=>none
theorem b2p:∀{vs:List AA} {ss:List Str},vs.length=ss.length->(∀(i:Nat) (v:AA),vs[i]?=some v->∃x u,ss[i]?=some x/\v= .str x u)->StrsAre vs ss
 |[],[],_,_=> .nil
 |[],_::_,h,_=>by cases h
 |_::_,[],h,_=>by cases h
 |v::vs,x::ss,h,k=>by
  obtain⟨y,u,e,rfl⟩:=k 0 v rfl
  cases e
  exact .cons _ _ (b2p (Nat.succ.inj h) fun i w e=>k (i+1) w e)
theorem b3z{z:Str}{acc:Array AA}(h:ItemsOf (SignAt z) acc z.cps.size):StrsAre acc.toList (m8 z):=by
 refine b2p ?_ fun i v e=> ?_
 ·unfold m8
  rw [Ac,Array.length_toList,Array.length_toList,h.1]
 ·rw [Array.getElem?_toList] at e
  obtain⟨c,u,e1,rfl⟩:=h.2 i v e
  refine⟨_,u, ?_,rfl⟩
  unfold m8
  rw [Al,Array.getElem?_toList,e1]
  rfl
section
variable {X:Cx}
theorem b33(hc:X.calm=true):E9 X (.builtin "sorted") (rC1 X.K a2E):=by
 intro pins s σ H xs us Q I rv h
 obtain⟨F,x,rx,rz,rfl,s0,h1,h2,k⟩:=h
 unfold a2E at h2
 split at h2
 ·rename_i z
  split at h2
  ·rename_i c
   cases h2
   obtain⟨u,rfl,ru⟩:=a01 rv
   cases h1
   obtain⟨t,rfl⟩:=ru
   have hz:z.cps.size<64:=c
   have hlen:(M9 (m8 z)).length=z.cps.size:=by
    rw [(B7 _).length_eq]
    unfold m8
    rw [Ac,Array.length_toList]
   refine a4W (C:=fun vs=>StrsAre vs (m8 z)) (fun Q' E' hq=>wpAny_collect_str (A:=X.A.in1) (I.ok.hd hc) z t (fun s' acc kp g d o it=> ?_) (by rw [sizeLine_eq];lia)) (fun vs hv=>⟨?_,_,hv⟩) fun hp1 hp2 tk d en vs us ss k1 k2 hv hs hu he=> ?_
   ·have e:s'={s with heap:=s'.heap,toks:=s'.toks,drawn:=s.drawn}:=by
     obtain⟨a,b,c,d',e'⟩:=s'
     cases g;cases d;cases o
     rfl
    rw [e]
    exact hq _ _ _ _ kp (b3z it)
   ·rw [a6F hv]
    unfold m8
    rw [Ac,Array.length_toList]
    exact hz
   ·have es:ss=m8 z:=by rw [Y1 hs,Y1 hv]
    subst es
    have I1:e9 X pins σ H {s with heap:=hp1,toks:=tk,drawn:=d}:=b12 (I.kept (t':=tk) k1) d
    have hf:H hp1.objs.size=none:=I1.hok.fresh (AS _)
    exact⟨.ref hp1.objs.size,_,I1.laid (t':=tk) (h':=hp2) (o:= .lst ((M9 (m8 z)).map V.str)) k2 (AS _) ⟨by rw [Ac,hlen,sizeLine_eq];lia,us,en,a2b hu,he⟩,rfl,k _ F _ (r9.lst s0 hf (a19 _))⟩
  ·cases h2
 ·cases h2
end
theorem b4z{z:Str}(h:z.length<64):a2E (.val (.str z))=some (.own ((M9 (m8 z)).map .str)):=if_pos h
section
variable {X:Cx}{tg:AG}
def iOr(K:AE)(tl:TE):TI:=fun σ H R=>tl σ H fun x H1=>(∃a xs,x= .ref a/\Z3 K H1 a xs/\R (Itl K a) H1)\/∃z,x= .str z/\R (Its z) H1
theorem c0x{l:AG}{tl:TE}(hl:PE X l tl):PI X tg l (iOr X.K tl):=by
 intro pins s σ H R I h
 refine B8 (hl pins s σ H _ I h) fun v s1 h0=>j8 h0 fun x H1 I1 r1 q1=> ?_
 have fin:∀(J:It) (st:Nat->Heap->Prop) (o:Obj),b0y X.prog X.w X.K tg J [s1.heap.objs.size] s1.heap.objs.size st->st 0 (s1.heap.push o)->R J H1->PIE X pins σ tg R (.ref s1.heap.objs.size) {s1 with heap:=s1.heap.push o}:=fun J st o T h0 q=>by
  refine⟨s1.heap.objs.size,[s1.heap.objs.size],st,_,H1,rfl,I1.kept (t':=s1.toks) fun b o e=>Ab _ e,T,h0,fun b hb=> ?_,q⟩
  have e:b=s1.heap.objs.size:=by simpa using hb
  subst e
  exact I1.fpOk (AS _) (I1.hok.fresh (AS _))
 rcases q1 with⟨a,xs,rfl,hq,q⟩|⟨z,rfl,q⟩
 ·cases r1
  obtain⟨its,rv,p,hz⟩:=I1.list hq
  exact wpAny_pyIter_list p.isList (fin _ _ _ (a7W a _) ⟨_,Ao _ rfl,rfl,rfl⟩ q)
 ·obtain⟨t,rfl⟩:=r1
  cases ha:z.cps.all (· <128)
  ·exact wpAny_pyIter_wide ha (fin _ _ _ (b0r false _ z t) ⟨_,Ao _ rfl,rfl,rfl⟩ q)
  ·exact wpAny_pyIter_ascii ha (fin _ _ _ (b0r true _ z t) ⟨_,Ao _ rfl,rfl,rfl⟩ q)
def b3e(m:M):MI:=fun ρ=>(m ρ).bind fun r=>match r with
 | .val (.str z)=>some (z.cps.toList.map fun c=> .str ⟨#[c]⟩)
 | .val (.list ps)=>some ps
 |_=>none
theorem b8n{l:AG}{m:M}(h:EE X l m):EIF X tg l (b3e m):=⟨_,c0x h,fun F H σ ρ ps R en e k=>by
 obtain⟨r,e1,e2⟩:=bind_some e
 refine⟨F,ρ,r,en,e1,fun v F1 H1 o1=> ?_⟩
 split at e2
 ·rename_i z
  cases e2
  cases o1.rep
  refine .inr ⟨z,rfl,k F1 H1 _ o1.x ⟨fun i H2 s h=> ?_,fun i p H2 s h=> ?_,fun i p x H2 H3 s h y=> ?_⟩⟩
  ·have h:z.cps.size<=i:=by simpa using h
   exact h
  ·have:=(As.mp h).1
   have h:i<z.cps.size:=by simpa using this
   exact h
  ·obtain⟨e,c,hc,rfl⟩:=y
   refine⟨e, ?_⟩
   rw [Al,Array.getElem?_toList,hc] at h
   cases h
   rfl
 ·rename_i qs
  cases e2
  obtain⟨a,xs,rfl,hq,rl⟩:=o1.rep
  have hq:Z3 X.K F1 a xs:=hq
  have hlen:=rl.length
  refine .inl ⟨a,xs,rfl,x9 o1.x.fh hq,k F1 H1 _ o1.x ⟨fun i H2 s h=>⟨xs,x9 s hq,by lia⟩,fun i p H2 s h=> ?_,fun i p x H2 H3 s h y=> ?_⟩⟩
  ·obtain⟨v,ev,_⟩:=rl.get h
   exact⟨xs,v,x9 s hq,ev⟩
  ·obtain⟨v,ev,rv⟩:=rl.get h
   obtain⟨e,y⟩:=y
   have:=y xs (x9 s hq)
   rw [ev] at this;cases this
   exact⟨e,rv⟩
 ·cases e2⟩
end
def a4G(x y:d0):Option d0:=match x,y with
 | .val (.tuple []),.val (.tuple qs)=>some (.val (.tuple qs))
 |x,y=>E5 x y
theorem b45{X:Cx}:OpM X (binaryOp .Add) a4G:=by
 intro pins s σ H x y v u Q I rx ry h
 obtain⟨F,ra,rb,rz,s0,h1,h2,h3,k⟩:=h
 unfold a4G at h3
 split at h3
 ·rename_i qs
  cases h3
  obtain⟨a,xs,rfl,hq,r⟩:=id h1
  obtain⟨b,ys,rfl,hq',r'⟩:=id h2
  cases rx
  cases ry
  obtain⟨its,r1,p1,_⟩:=I.tuple (u8 s0 hq.sq)
  obtain⟨its2,r2,p2,_⟩:=I.tuple (u8 s0 hq'.sq)
  have e:its=[]:=r1.nil_iff.mpr (List.length_eq_zero_iff.mp (by rw [r.length];rfl))
  obtain⟨⟨cls,dd,data,sl⟩,ho,hc,n,hd⟩:=id p1
  obtain⟨⟨cls2,dd2,data2,sl2⟩,ho2,hc2,n2,hd2⟩:=id p2
  simp only at hc hd hc2 hd2
  subst hc hd hc2 hd2
  refine wpAny_binaryOp_concat (T:="tuple") ⟨_,ho,rfl⟩ ⟨_,ho2,rfl⟩ noFill_tuple_add seq_tuple_add ?_
  exact call_meets PySem.F.slot_tuple_add ⟨_,ho,rfl⟩ PySem.F.entry_tuple_add (PySem.F.args_tuple_add_2 _ _) (tuple_addW0 a b its.toArray its2.toArray n n2 dd dd2 sl sl2 (by simp [e])) ⟨ho,ho2,.ref b,H,I,rfl,k _ F H (r9.here s0 h2)⟩
 ·exact v6 pins s σ H x y v u Q I rx ry ⟨F,_,_,rz,s0,h1,h2,h3,k⟩
end PU
set_option maxHeartbeats 4000000
namespace LW
open PySem PySem.Spec PyProof.Rows L2 PU
def a9b:PV:=(.tuple [(.str "stay"),(.str "turn"),(.str "half"),(.str "back"),(.str "side"),(.str "flip"),(.str "cross"),(.str "other")])
def D0:List (m3×PV):=[((.inr "stay"),(.tuple [(.int 1),(.int 0),(.int 0),(.int 1)])),((.inr "turn"),(.tuple [(.int 0),(.int 1),(.int (-1)),(.int 0)])),((.inr "half"),(.tuple [(.int (-1)),(.int 0),(.int 0),(.int (-1))])),((.inr "back"),(.tuple [(.int 0),(.int (-1)),(.int 1),(.int 0)])),((.inr "side"),(.tuple [(.int 1),(.int 0),(.int 0),(.int (-1))])),((.inr "flip"),(.tuple [(.int (-1)),(.int 0),(.int 0),(.int 1)])),((.inr "cross"),(.tuple [(.int 0),(.int 1),(.int 1),(.int 0)])),((.inr "other"),(.tuple [(.int 0),(.int (-1)),(.int (-1)),(.int 0)]))]
def J8:PV:=(.str "abcdefghijklmnopqrstuvwxyz")
def M2:PV:=(.int 600)
def a4z:MS:=
 (A2 (m2 (M5 (fun _ j=>0<j) fun i j=> .int (i % j)) (m2 J6 (m2 E5 (m2 (M5 (fun _ j=>0<j) fun i j=> .int (i % j)) (a7 0) (mC (.int 2147483647))) (mC (.int 17))) (m2 E5 (mC (.int 48271)) (m2 J6 (m2 J6 (mC (.int 2)) (a7 1)) (a7 1)))) (mC (.int 2147483629))))
def B6:List PV->Option d0:=E8 0 a4z
def L6:MS:=
 (b8W 2 (M5 a4X fun i j=> .int (i*j)) (a7 0))
def a1h:MS:=
 (k7 (m9 2 (mC (.int 1)))
 (k7 (T2 (C9 (a0 (a7 1) b7)) (d5 3) L6)
 (a0X 2)))
def L4:List PV->Option d0:=E8 2 a1h
def a1f:MX:=
 (a4P (a2M (m9 2 (i6 L4 (a0 (a7 1) (a0 (m2 J6 (a7 0) (a7 0)) b7)))))
 (b3k (mtB (m2 (gI fun i j=> .bool (decide (j<i))) (a7 2) (mC M2))) (b2e "TooLarge" ["many"] (a0 (a7 2) b7)) (a2M B4)))
def v8:List PV->Option (d0 ⊕ XT):=b0i 1 a1f
def a2I:MS:=
 (S9 1 (J3 (a0 (a7 2) (a0 (a7 3) (a0 (a7 4) b7)))))
def a2J:MS:=
 (T2 (C9 (a0 (a7 0) b7)) (d5 4) a2I)
def V2:MS:=
 (T2 (C9 (a0 (a7 0) b7)) (d5 3) a2J)
def a0T:MS:=
 (k7 (m9 1 (B3 b7))
 (k7 (T2 (I0 (m1 a8s (mC a9b))) (d5 2) V2)
 (a0X 1)))
def y8:List PV->Option d0:=E8 4 a0T
def a1B:MS:=
 (S9 2 (m2 a4G (a7 3) (a7 4)))
def a1C:MS:=
 (T2 (b3e (a7 1)) (d5 4) a1B)
def a9r:MS:=
 (k7 (m9 2 (B3 b7))
 (k7 (T2 (I0 (a7 0)) (d5 3) a1C)
 (a0X 2)))
def a1x:List PV->Option d0:=E8 3 a9r
def N7:MS:=
 (a43 2 (m9 2 (i6 a1x (a0 (a7 2) (a0 (V6 (mC J8) V7 (V8 (a7 1))) b7)))))
def N9:M:=
 (J3 (a0 (a7 5) b7))
def N8:MS:=
 (a43 3 (m9 3 (i6 a1x (a0 (a7 3) (a0 (B1 1 (A6 (a7 2)) (d5 5) M7 N9) b7)))))
def a2n:MS:=
 (k7 (m9 2 (B3 (a0 (mC (.str "")) b7)))
 (k7 (m9 3 (B3 (a0 (J3 b7) b7)))
 (k7 (T2 (C9 (a0 (a7 0) b7)) (d5 4) N7)
 (k7 (T2 (C9 (a0 (a7 0) b7)) (d5 4) N8)
 (a0X 3)))))
def P0:List PV->Option d0:=E8 3 a2n
def b0A:MS:=
 (k7 (V5 (mtB (m2 gEq (a7 0) (mC (.str "turn")))) (A2 (mC (.str "back"))) B4)
 (k7 (V5 (mtB (m2 gEq (a7 0) (mC (.str "back")))) (A2 (mC (.str "turn"))) B4)
 (a0X 0)))
def a2G:List PV->Option d0:=E8 0 b0A
def a5z:MS:=
 (k7 (m9 2 (b8Y D0 (a7 0)))
 (A2 (J3 (a0 (m2 E5 (m2 J6 (m2 y6 (a7 2) (mC (.int 0))) (m2 y6 (a7 1) (mC (.int 0)))) (m2 J6 (m2 y6 (a7 2) (mC (.int 1))) (m2 y6 (a7 1) (mC (.int 1))))) (a0 (m2 E5 (m2 J6 (m2 y6 (a7 2) (mC (.int 2))) (m2 y6 (a7 1) (mC (.int 0)))) (m2 J6 (m2 y6 (a7 2) (mC (.int 3))) (m2 y6 (a7 1) (mC (.int 1))))) b7)))))
def N6:List PV->Option d0:=E8 1 a5z
def a25:MS:=
 (k7 (m9 2 (i6 a2G (a0 (m2 y6 (a7 1) (mC (.int 0))) b7)))
 (k7 (m9 3 (i6 N6 (a0 (a7 2) (a0 (J3 (a0 (a9Z (m2 y6 (a7 1) (mC (.int 1)))) (a0 (a9Z (m2 y6 (a7 1) (mC (.int 2)))) b7))) b7))))
 (A2 (J3 (a0 (a7 2) (a0 (m2 (M5 (fun _ j=>0<j) fun i j=> .int (i % j)) (m2 y6 (a7 3) (mC (.int 0))) (a7 0)) (a0 (m2 (M5 (fun _ j=>0<j) fun i j=> .int (i % j)) (m2 y6 (a7 3) (mC (.int 1))) (a7 0)) b7)))))))
def S8:List PV->Option d0:=E8 2 a25
def b7J:MS:=
 (k7 (m9 3 (i6 N6 (a0 (m2 y6 (a7 1) (mC (.int 0))) (a0 (a7 2) b7))))
 (A2 (J3 (a0 (m2 (M5 (fun _ j=>0<j) fun i j=> .int (i % j)) (m2 E5 (m2 y6 (a7 3) (mC (.int 0))) (m2 y6 (a7 1) (mC (.int 1)))) (a7 0)) (a0 (m2 (M5 (fun _ j=>0<j) fun i j=> .int (i % j)) (m2 E5 (m2 y6 (a7 3) (mC (.int 1))) (m2 y6 (a7 1) (mC (.int 2)))) (a7 0)) b7)))))
def a9N:List PV->Option d0:=E8 1 b7J
def a1F:M:=
 (i6 a9N (a0 (a7 3) (a0 (a7 1) (a0 (J3 (a0 (a7 2) (a0 (a7 5) b7))) b7))))
def a1G:M:=
 (m2 y6 (m2 y6 (a7 0) (m2 y6 (a7 5) (mC (.int 0)))) (m2 y6 (a7 5) (mC (.int 1))))
def a4C:MS:=
 (k7 (m9 3 (m1 Q1 (a7 0)))
 (k7 (m9 4 (B1 1 (C9 (a0 (a7 3) b7)) (d5 5) M7 a1F))
 (A2 (m2 V0 (mC (.str "")) (B1 1 (A6 (a7 4)) (d5 5) M7 a1G)))))
def X4:List PV->Option d0:=E8 2 a4C
def a52:M:=
 (i6 X4 (a0 (a7 0) (a0 (a7 3) (a0 (a7 4) b7))))
def b1A:MS:=
 (k7 (m9 2 (m1 Q1 (a7 0)))
 (k7 (m9 3 (i6 S8 (a0 (a7 2) (a0 (a7 1) b7))))
 (A2 (m1 Y6 (B1 1 (C9 (a0 (a7 2) b7)) (d5 4) M7 a52)))))
def a3i:List PV->Option d0:=E8 2 b1A
def V1:MS:=
 (a5k 4 (i6 a3i (a0 (a7 5) (a0 (a7 6) b7))) (mC (.bool true)))
def E2:MS:=
 (V5 (mtB (b18 true 4 (a7 5))) (k7 (S9 3 (a7 5))
 (a43 2 (T2 (I0 (a7 2)) (d5 6) V1))) B4)
def a1e:MX:=
 (a4P (a58 v8 (a0 (a7 0) (a0 (a7 1) b7)))
 (a2M (k7 (m9 2 (i6 y8 (a0 (a7 0) b7)))
 (k7 (m9 3 (B3 b7))
 (k7 (m9 4 b19)
 (k7 (T2 (I0 (i6 P0 (a0 (a7 0) (a0 (a7 1) b7)))) (d5 5) E2)
 (a0X 3)))))))
def k6:List PV->Option (d0 ⊕ XT):=b0i 5 a1e
def a2o:MS:=
 (k7 (V5 (mtB (m2 b0N (a7 1) (m1 Q1 (a7 0)))) (A2 (m2 y6 (a7 0) (a7 1))) B4)
 (A2 (mC (.int 0))))
def C4:List PV->Option d0:=E8 0 a2o
def a0V:M:=
 (m2 y6 (a7 3) (m2 (M5 (fun _ j=>0<j) fun i j=> .int (i % j)) (i6 B6 (a0 (a7 2) (a0 (m2 E5 (m2 J6 (a7 4) (a7 0)) (a7 5)) b7))) (a7 1)))
def a0W:M:=
 (m2 V0 (mC (.str "")) (B1 1 (C9 (a0 (a7 0) b7)) (d5 5) M7 a0V))
def a23:MS:=
 (k7 (m9 3 (mC (.str "abcdefghijklmnopqrstuvwxyz")))
 (A2 (m1 Y6 (B1 1 (C9 (a0 (a7 0) b7)) (d5 4) M7 a0W))))
def K9:List PV->Option d0:=E8 1 a23
def a22:MS:=
 (A2 (m1 a0d (m2 V0 (mC (.str "")) (a7 0))))
def u5:List PV->Option d0:=E8 0 a22
def R3:M:=
 (J3 (a0 (i6 a3i (a0 (a7 0) (a0 (a7 1) b7))) (a0 (a7 1) b7)))
def a24:MS:=
 (A2 (m1 a9K (B1 1 (A6 (i6 y8 (a0 (m1 Q1 (a7 0)) b7))) (d5 1) M7 R3)))
def S7:List PV->Option d0:=E8 0 a24
def W8:MX:=
 (a4P (a4O (I0 (i6 u5 (a0 (a7 0) b7))) (d5 2) (b3k (mtB (m2 (a2B true) (a7 2) (V6 (mC J8) V7 (V8 (a7 1))))) (b2e "NoColour" ["colour"] (a0 (a7 2) b7)) (a2M B4)))
 (a4P (S2 3 k6 (a0 (m1 Q1 (a7 0)) (a0 (a7 1) b7)))
 (a2M (A2 (m2 U8 (a7 3) (m2 y6 (i6 S7 (a0 (a7 0) b7)) (mC (.int 0))))))))
def t4:List PV->Option (d0 ⊕ XT):=b0i 2 W8
def E7:M:=
 (a7 2)
def O7:MS:=
 (k7 (m9 1 (B3 (a0 (m1 (a1v [("NoColour",true),("NoNumber",false),("TooLarge",false)]) (a7 0)) (a0 (m1 (a1v [("NoColour",false),("NoNumber",false),("TooLarge",true)]) (a7 0)) (a0 (m1 (a1v [("NoColour",false),("NoNumber",true),("TooLarge",false)]) (a7 0)) b7)))))
 (k7 (V5 (b3i (mtB (m2 gNe (m1 Q1 (B1 1 (A6 (a7 1)) (d5 2) (mtV (a7 2)) E7)) (mC (.int 1)))) (a4N (mtV (m1 (a1v [("NoColour",true),("NoNumber",true),("TooLarge",true)]) (a7 0))))) (A2 (B3 (a0 (mC (.str "odd")) (a0 (mC .none) b7)))) B4)
 (k7 (V5 (mtV (m2 y6 (a7 1) (mC (.int 0)))) (A2 (B3 (a0 (mC (.str "colour")) (a0 (m1 (gFx ["NoColour"] "colour") (a7 0)) b7)))) B4)
 (k7 (V5 (mtV (m2 y6 (a7 1) (mC (.int 1)))) (A2 (B3 (a0 (mC (.str "large")) (a0 (m1 (gFx ["TooLarge"] "many") (a7 0)) b7)))) B4)
 (A2 (B3 (a0 (mC (.str "number")) (a0 (mC .none) b7))))))))
def n5:List PV->Option d0:=E8 1 O7
def R0:MS:=
 (k7 (m9 2 (mC .none))
 (k7 (m9 3 (mC .none))
 (k7 (R4 (S2 3 t4 (a0 (a7 0) (a0 (a7 1) b7))) 4 (inL ["NoColour","NoNumber","TooLarge"]) (m9 2 (a7 4)))
 (k7 (V5 (mtB (m2 (a9I true) (a7 2) (mC .none))) (A2 (i6 n5 (a0 (a7 2) b7))) B4)
 (A2 (B3 (a0 (mC (.str "told")) (a0 (a7 3) b7))))))))
def j6:List PV->Option d0:=E8 3 R0
def T5:MS:=
 (A2 (b0Y (m1 (b0M "int") (a7 1)) (b0Y (b6J (m1 (b0M "bool") (a7 1))) (a8A b4u b0N (mC (.int 0)) (a7 1) (a7 0)))))
def y9:List PV->Option d0:=E8 0 T5
def W7:MX:=
 (a4P (S2 3 k6 (a0 (a7 0) (a0 (a7 1) b7)))
 (a4P (b3k (a4N (mtV (i6 y9 (a0 (m1 Q1 (a7 3)) (a0 (a7 2) b7))))) (b6Q "NoNumber" (a0 (mC (.str "no form has this number")) b7)) (a2M B4))
 (a2M (A2 (m2 y6 (a7 3) (a7 2))))))
def t0:List PV->Option (d0 ⊕ XT):=b0i 1 W7
def Q9:MS:=
 (k7 (m9 3 (mC .none))
 (k7 (m9 4 (mC .none))
 (k7 (R4 (S2 4 t0 (a0 (a7 0) (a0 (a7 1) (a0 (a7 2) b7)))) 5 (inL ["NoColour","NoNumber","TooLarge"]) (m9 3 (a7 5)))
 (k7 (V5 (mtB (m2 (a9I true) (a7 3) (mC .none))) (A2 (i6 n5 (a0 (a7 3) b7))) B4)
 (A2 (B3 (a0 (mC (.str "told")) (a0 (a7 4) b7))))))))
def l6:List PV->Option d0:=E8 3 Q9
def F9:M:=
 (m2 J6 (mC (.str "a")) (a7 0))
def Z7:MS:=
 (k7 (m9 1 (m1 Y6 (B1 1 (C9 (a0 (a7 0) b7)) (d5 2) M7 F9)))
 (k7 (V5 (b3i (mtB (m2 gNe (i6 (left k6) (a0 (a7 0) (a0 (mC (.int 1)) b7))) (B3 (a0 (a7 1) b7)))) (mtB (m2 gNe (i6 j6 (a0 (a7 1) (a0 (mC (.int 1)) b7))) (B3 (a0 (mC (.str "told")) (a0 (mC (.int 0)) b7)))))) (A2 (mC (.bool false))) B4)
 (A2 (b0Y (m2 gEq (i6 l6 (a0 (a7 0) (a0 (mC (.int 1)) (a0 (mC (.int 0)) b7)))) (B3 (a0 (mC (.str "told")) (a0 (a7 1) b7)))) (m2 gEq (i6 l6 (a0 (a7 0) (a0 (mC (.int 1)) (a0 (mC (.int 1)) b7)))) (B3 (a0 (mC (.str "number")) (a0 (mC .none) b7))))))))
def E6:List PV->Option d0:=E8 1 Z7
def z7:MS:=
 (m9 3 (m2 J6 (a7 3) (a7 2)))
def T8:MS:=
 (k7 (b3f [1,2] (m2 y6 (B3 (a0 (J3 (a0 (mC (.int 2)) (a0 (mC (.int 5)) b7))) (a0 (J3 (a0 (mC (.int 3)) (a0 (mC (.int 3)) b7))) (a0 (J3 (a0 (mC (.int 2)) (a0 (mC (.int 26)) b7))) (a0 (J3 (a0 (mC (.int 4)) (a0 (mC (.int 2)) b7))) (a0 (J3 (a0 (mC (.int 8)) (a0 (mC (.int 26)) b7))) (a0 (J3 (a0 (mC (.int 5)) (a0 (m2 E5 (mC (.int 1)) (m2 (M5 (fun _ j=>0<j) fun i j=> .int (i % j)) (m2 (M5 a02 fun i j=> .int (i / j)) (a7 0) (mC (.int 8))) (mC (.int 3)))) b7))) b7))))))) (m2 (M5 (fun _ j=>0<j) fun i j=> .int (i % j)) (a7 0) (mC (.int 6)))))
 (k7 (m9 3 (mC (.int 1)))
 (k7 (T2 (C9 (a0 (m2 J6 (a7 1) (a7 1)) b7)) (d5 4) z7)
 (k7 (m9 5 (B3 (a0 (mC (.str "large")) (a0 (a7 3) b7))))
 (k7 (V5 (mtB (m2 b4u (a7 3) (mC (.int 600)))) (A2 (i6 E6 (a0 (m2 E5 (mC (.int 4)) (m2 (M5 (fun _ j=>0<j) fun i j=> .int (i % j)) (m2 (M5 a02 fun i j=> .int (i / j)) (a7 0) (mC (.int 24))) (mC (.int 2)))) b7))) B4)
 (k7 (m9 6 (i6 K9 (a0 (a7 1) (a0 (a7 2) (a0 (a7 0) b7)))))
 (k7 (m9 7 (m2 E5 (V6 (a7 6) V7 (V8 (a9Z (mC (.int 1))))) (J3 (a0 (m2 E5 (V6 (m2 y6 (a7 6) (a9Z (mC (.int 1)))) V7 (V8 (a9Z (mC (.int 1))))) (mC (.str "z"))) b7))))
 (k7 (a43 7 (V5 (b4U (mtB (m2 b0N (a7 2) (mC (.int 26)))) (mtB (m2 gNe (i6 j6 (a0 (a7 7) (a0 (a7 2) b7))) (B3 (a0 (mC (.str "colour")) (a0 (mC (.str "z")) b7)))))) (A2 (mC (.bool false))) B4))
 (A2 (b0Y (m2 gEq (i6 j6 (a0 (a7 6) (a0 (a7 2) b7))) (a7 5)) (m2 gEq (i6 l6 (a0 (a7 1) (a0 (a7 2) (a0 (mC (.str "x")) b7)))) (a7 5))))))))))))
def A8:List PV->Option d0:=E8 7 T8
def a63:MS:=
 (k7 (b3f [3,4] (a7 2))
 (k7 (b3f [5,6,7] (a7 1))
 (k7 (V5 (mtB (m2 (a2B false) (a7 5) (J3 (a0 (mC (.str "turn")) (a0 (mC (.str "back")) (a0 (mC (.str "cross")) (a0 (mC (.str "other")) b7))))))) (b8X 3 4 (a0 (a7 4) (a0 (a7 3) b7))) B4)
 (k7 (V5 (mtB (m2 (a2B false) (a7 5) (J3 (a0 (mC (.str "half")) (a0 (mC (.str "flip")) (a0 (mC (.str "back")) (a0 (mC (.str "other")) b7))))))) (m9 3 (m2 (gI fun i j=> .int (i - j)) (mC (.int 0)) (a7 3))) B4)
 (k7 (V5 (mtB (m2 (a2B false) (a7 5) (J3 (a0 (mC (.str "half")) (a0 (mC (.str "side")) (a0 (mC (.str "turn")) (a0 (mC (.str "other")) b7))))))) (m9 4 (m2 (gI fun i j=> .int (i - j)) (mC (.int 0)) (a7 4))) B4)
 (A2 (J3 (a0 (m2 (M5 (fun _ j=>0<j) fun i j=> .int (i % j)) (m2 E5 (a7 3) (a7 6)) (a7 0)) (a0 (m2 (M5 (fun _ j=>0<j) fun i j=> .int (i % j)) (m2 E5 (a7 4) (a7 7)) (a7 0)) b7)))))))))
def a0e:List PV->Option d0:=E8 5 a63
def V3:MS:=
 (a5k 3 (i6 a0e (a0 (a7 2) (a0 (a7 1) (a0 (J3 (a0 (a7 4) (a0 (a7 5) b7))) b7)))) (m2 y6 (m2 y6 (a7 0) (a7 4)) (a7 5)))
def L5:MS:=
 (T2 (C9 (a0 (a7 2) b7)) (d5 5) V3)
def a1D:M:=
 (b17 3 (a0 (a7 6) (a0 (a7 7) b7)))
def a1E:M:=
 (m2 V0 (mC (.str "")) (B1 1 (C9 (a0 (a7 2) b7)) (d5 7) M7 a1D))
def a4A:MS:=
 (k7 (m9 2 (m1 Q1 (a7 0)))
 (k7 (m9 3 b19)
 (k7 (T2 (C9 (a0 (a7 2) b7)) (d5 4) L5)
 (A2 (m1 Y6 (B1 1 (C9 (a0 (a7 2) b7)) (d5 6) M7 a1E))))))
def Q2:List PV->Option d0:=E8 4 a4A
def a8x:MS:=
 (S9 1 (J3 (a0 (a7 2) (a0 (a7 3) (a0 (a7 4) b7)))))
def a8y:MS:=
 (T2 (C9 (a0 (a7 0) b7)) (d5 4) a8x)
def a3m:MS:=
 (T2 (C9 (a0 (a7 0) b7)) (d5 3) a8y)
def a62:MS:=
 (k7 (m9 1 (B3 b7))
 (k7 (T2 (I0 (B3 (a0 (mC (.str "stay")) (a0 (mC (.str "turn")) (a0 (mC (.str "half")) (a0 (mC (.str "back")) (a0 (mC (.str "side")) (a0 (mC (.str "flip")) (a0 (mC (.str "cross")) (a0 (mC (.str "other")) b7)))))))))) (d5 2) a3m)
 (a0X 1)))
def T6:List PV->Option d0:=E8 4 a62
def V4:M:=
 (i6 Q2 (a0 (a7 0) (a0 (a7 1) b7)))
def a4y:MS:=
 (A2 (m1 a9K (B1 1 (A6 (i6 T6 (a0 (m1 Q1 (a7 0)) b7))) (d5 1) M7 V4)))
def X2:List PV->Option d0:=E8 0 a4y
def a1g:MS:=
 (A2 (m2 y6 (i6 T6 (a0 (a7 0) b7)) (m2 (M5 (fun _ j=>0<j) fun i j=> .int (i % j)) (a7 1) (m2 J6 (m2 J6 (mC (.int 8)) (a7 0)) (a7 0)))))
def L3:List PV->Option d0:=E8 0 a1g
def a4B:MS:=
 (A2 (b0Y (m1 (b0M "int") (a7 0)) (b6J (m1 (b0M "bool") (a7 0)))))
def X3:List PV->Option d0:=E8 0 a4B
def F8:M:=
 (a7 3)
def Z6:MS:=
 (k7 (m9 2 (V6 (mC (.str "abcdefghijklmnopqrstuvwxyz")) V7 (V8 (a7 1))))
 (A2 (V6 (B1 1 (A6 (m1 a2E (m2 V0 (mC (.str "")) (a7 0)))) (d5 3) (mtB (m2 (a2B true) (a7 3) (a7 2))) F8) V7 (V8 (mC (.int 1))))))
def w4:List PV->Option d0:=E8 1 Z6
def a3P:MS:=
 (k7 (m9 3 (m1 Q1 (a7 0)))
 (k7 (m9 4 (m1 a8r (a7 0)))
 (k7 (m9 5 (m2 y6 (mC (.str "abcdefghijklmnopqrstuvwxyz")) (m2 (M5 (fun _ j=>0<j) fun i j=> .int (i % j)) (a7 2) (mC (.int 26)))))
 (k7 (m9 6 (m2 (M5 (fun _ j=>0<j) fun i j=> .int (i % j)) (m2 (M5 a02 fun i j=> .int (i / j)) (a7 2) (mC (.int 26))) (a7 3)))
 (k7 (m9 7 (m2 (M5 (fun _ j=>0<j) fun i j=> .int (i % j)) (m2 (M5 a02 fun i j=> .int (i / j)) (a7 2) (mC (.int 104))) (a7 3)))
 (k7 (b0Z 4 (a7 6) (m2 E5 (m2 E5 (V6 (m2 y6 (a7 4) (a7 6)) V7 (V8 (a7 7))) (a7 5)) (V6 (m2 y6 (a7 4) (a7 6)) (V8 (m2 E5 (a7 7) (mC (.int 1)))) V7)))
 (k7 (a43 4 (m9 8 (i6 w4 (a0 (a7 4) (a0 (a7 1) b7)))))
 (A2 (mOr (m2 gEq (a7 8) (B3 b7)) (m2 gEq (i6 j6 (a0 (m1 Y6 (a7 4)) (a0 (a7 1) b7))) (B3 (a0 (mC (.str "colour")) (a0 (m2 y6 (a7 8) (mC (.int 0))) b7)))))))))))))
def a0f:List PV->Option d0:=E8 6 a3P
def a1A:MS:=
 (k7 (m9 6 (i6 B6 (a0 (m2 y6 (a7 0) (a7 5)) (a0 (a7 5) b7))))
 (k7 (m9 7 (i6 K9 (a0 (a7 2) (a0 (a7 3) (a0 (m2 y6 (a7 0) (a7 5)) b7)))))
 (k7 (m9 8 (i6 X2 (a0 (a7 7) b7)))
 (k7 (m9 9 (i6 Q2 (a0 (a7 7) (a0 (i6 L3 (a0 (a7 2) (a0 (a7 6) b7))) b7))))
 (k7 (m9 10 (i6 j6 (a0 (m2 y6 (B3 (a0 (a7 7) (a0 (a7 9) b7))) (m2 (M5 (fun _ j=>0<j) fun i j=> .int (i % j)) (a7 5) (mC (.int 2)))) (a0 (a7 3) b7))))
 (k7 (V5 (b3i (a4N (mtV (i6 X3 (a0 (m2 y6 (a7 10) (mC (.int 1))) b7)))) (mtB (m2 gNe (a7 10) (B3 (a0 (mC (.str "told")) (a0 (m2 U8 (a7 4) (a7 8)) b7)))))) (A2 (mC (.bool false))) B4)
 (k7 (V5 (b3i (mtB (m2 gNe (i6 l6 (a0 (a7 2) (a0 (a7 3) (a0 (m2 y6 (a7 10) (mC (.int 1))) b7)))) (B3 (a0 (mC (.str "told")) (a0 (a7 8) b7))))) (a4N (mtV (i6 a0f (a0 (a7 7) (a0 (a7 3) (a0 (m2 (M5 a02 fun i j=> .int (i / j)) (a7 6) (mC (.int 72))) b7))))))) (A2 (mC (.bool false))) B4)
 (k7 (m9 11 (m2 y6 (B3 (a0 (a9Z (mC (.int 1))) (a0 (m1 Q1 (a7 4)) (a0 (mC .none) (a0 (mC (.bool true)) (a0 (mC (.str "0")) (a0 (B3 (a0 (mC (.int 0)) b7)) (a0 (m2 (M5 b2y fun i j=> .int (i ^ j.toNat)) (mC (.int 10)) (mC (.int 30))) b7)))))))) (m2 (M5 (fun _ j=>0<j) fun i j=> .int (i % j)) (m2 (M5 a02 fun i j=> .int (i / j)) (a7 6) (mC (.int 7))) (mC (.int 7)))))
 (V5 (mtB (m2 gNe (i6 l6 (a0 (a7 2) (a0 (a7 3) (a0 (a7 11) b7)))) (B3 (a0 (mC (.str "number")) (a0 (mC .none) b7))))) (A2 (mC (.bool false))) B4)))))))))
def b3R:MS:=
 (k7 (m9 1 (i6 B6 (a0 (i6 C4 (a0 (a7 0) (a0 (mC (.int 0)) b7))) (a0 (mC (.int 0)) b7))))
 (k7 (m9 2 (m2 y6 (B3 (a0 (mC (.int 1)) (a0 (mC (.int 2)) (a0 (mC (.int 2)) (a0 (mC (.int 3)) b7))))) (m2 (M5 (fun _ j=>0<j) fun i j=> .int (i % j)) (a7 1) (mC (.int 4)))))
 (k7 (m9 3 (m2 y6 (B3 (a0 (m2 E5 (mC (.int 1)) (m2 (M5 (fun _ j=>0<j) fun i j=> .int (i % j)) (m2 (M5 a02 fun i j=> .int (i / j)) (a7 1) (mC (.int 4))) (mC (.int 26)))) (a0 (m2 E5 (mC (.int 1)) (m2 (M5 (fun _ j=>0<j) fun i j=> .int (i % j)) (m2 (M5 a02 fun i j=> .int (i / j)) (a7 1) (mC (.int 4))) (mC (.int 3)))) (a0 (mC (.int 1)) b7)))) (m2 (gI fun i j=> .int (i - j)) (a7 2) (mC (.int 1)))))
 (k7 (V5 (mtB (m2 gEq (m2 (M5 (fun _ j=>0<j) fun i j=> .int (i % j)) (m2 (M5 a02 fun i j=> .int (i / j)) (a7 1) (mC (.int 128))) (mC (.int 10))) (mC (.int 0)))) (m9 3 (m2 y6 (B3 (a0 (a7 3) (a0 (mC (.int 4)) (a0 (mC (.int 1)) b7)))) (m2 (gI fun i j=> .int (i - j)) (a7 2) (mC (.int 1))))) B4)
 (k7 (m9 4 (i6 (left k6) (a0 (a7 2) (a0 (a7 3) b7))))
 (k7 (V5 (a4N (mtV (i6 A8 (a0 (i6 B6 (a0 (i6 C4 (a0 (a7 0) (a0 (mC (.int 1)) b7))) (a0 (mC (.int 1)) b7))) b7)))) (A2 (mC (.bool false))) B4)
 (k7 (T2 (b2b (a0 (mC (.int 2)) (a0 (m2 (gI fun i j=> .int (if j<i then j else i)) (m1 Q1 (a7 0)) (m2 y6 (B3 (a0 (mC (.int 10)) (a0 (mC (.int 4)) (a0 (mC (.int 10)) b7)))) (m2 (gI fun i j=> .int (i - j)) (a7 2) (mC (.int 1))))) b7))) (d5 5) a1A)
 (A2 (mC (.bool true))))))))))
def b7Q:List PV->Option d0:=E8 11 b3R
end LW
set_option maxHeartbeats 1000000
namespace LW
open PySem PySem.Spec PyProof.Rows L2 PU
def m4:List Str:=[AK "stay",AK "turn",AK "half",AK "back",AK "side",AK "flip",AK "cross",AK "other"]
def x8(w:Str)(a b:Int):Int:=if w=AK "stay" then a else if w=AK "turn" then b else if w=AK "half" then -a else if w=AK "back" then -b else if w=AK "side" then a else if w=AK "flip" then -a else if w=AK "cross" then b else -b
def w8(w:Str)(a b:Int):Int:=if w=AK "stay" then b else if w=AK "turn" then -a else if w=AK "half" then -b else if w=AK "back" then a else if w=AK "side" then -b else if w=AK "flip" then b else if w=AK "cross" then a else -a
theorem G5{w:Str}(h:w∈m4):w=AK "stay"\/w=AK "turn"\/w=AK "half"\/w=AK "back"\/w=AK "side"\/w=AK "flip"\/w=AK "cross"\/w=AK "other":=by
 simpa [m4] using h
theorem c05:S1 D0 (.inr (AK "stay"))=some (.tuple [.int 1,.int 0,.int 0,.int 1]):=by kernel_rfl
theorem c06:S1 D0 (.inr (AK "turn"))=some (.tuple [.int 0,.int 1,.int (-1),.int 0]):=by kernel_rfl
theorem c07:S1 D0 (.inr (AK "half"))=some (.tuple [.int (-1),.int 0,.int 0,.int (-1)]):=by kernel_rfl
theorem c08:S1 D0 (.inr (AK "back"))=some (.tuple [.int 0,.int (-1),.int 1,.int 0]):=by kernel_rfl
theorem c09:S1 D0 (.inr (AK "side"))=some (.tuple [.int 1,.int 0,.int 0,.int (-1)]):=by kernel_rfl
theorem c1a:S1 D0 (.inr (AK "flip"))=some (.tuple [.int (-1),.int 0,.int 0,.int 1]):=by kernel_rfl
theorem c1b:S1 D0 (.inr (AK "cross"))=some (.tuple [.int 0,.int 1,.int 1,.int 0]):=by kernel_rfl
theorem c1c:S1 D0 (.inr (AK "other"))=some (.tuple [.int 0,.int (-1),.int (-1),.int 0]):=by kernel_rfl
theorem a4R{w:Str}(hw:w∈m4)(a b:Int):N6 [.str w,.tuple [.int a,.int b]]=some (.val (.tuple [.int (x8 w a b),.int (w8 w a b)])):=by
 have key:∀x y z t r c:Int,S1 D0 (.inr w)=some (.tuple [.int x,.int y,.int z,.int t])->(-2<x/\x<2)->(-2<y/\y<2)->(-2<z/\z<2)->(-2<t/\t<2)->x*a+y*b=r->z*a+t*b=c->
  N6 [.str w,.tuple [.int a,.int b]]=some (.val (.tuple [.int r,.int c])):=by
  intro x y z t r c h hx hy hz ht e1 e2
  subst e1 e2
  unfold N6 a5z
  simp (disch:=omega) only [v4,S6,a1w,a3f,a5O,b4t,g9,g0,b9,d4,b6,b0,b5,p0,f7,t5,f8,v0,f9,h9,f6,j0,b4R,b9H,AH,Av,AQ,AW,AZ,AU,Aa,Ad,AX,AY,AT,Ae,↓reduceIte,sz,Nat.reduceAdd,Ah,h]
 rcases G5 hw with rfl|rfl|rfl|rfl|rfl|rfl|rfl|rfl
 ·exact key _ _ _ _ _ _ c05 (by decide) (by decide) (by decide) (by decide) (by show _=a;lia) (by show _=b;lia)
 ·exact key _ _ _ _ _ _ c06 (by decide) (by decide) (by decide) (by decide) (by show _=b;lia) (by show _= -a;lia)
 ·exact key _ _ _ _ _ _ c07 (by decide) (by decide) (by decide) (by decide) (by show _= -a;lia) (by show _= -b;lia)
 ·exact key _ _ _ _ _ _ c08 (by decide) (by decide) (by decide) (by decide) (by show _= -b;lia) (by show _=a;lia)
 ·exact key _ _ _ _ _ _ c09 (by decide) (by decide) (by decide) (by decide) (by show _=a;lia) (by show _= -b;lia)
 ·exact key _ _ _ _ _ _ c1a (by decide) (by decide) (by decide) (by decide) (by show _= -a;lia) (by show _=b;lia)
 ·exact key _ _ _ _ _ _ c1b (by decide) (by decide) (by decide) (by decide) (by show _=b;lia) (by show _=a;lia)
 ·exact key _ _ _ _ _ _ c1c (by decide) (by decide) (by decide) (by decide) (by show _= -b;lia) (by show _= -a;lia)
theorem b8Q{w:Str}(hw:w∈m4){s:Int}(hs:0<s)(d r a b:Int):a9N [.int s,.tuple [.str w,.int d,.int r],.tuple [.int a,.int b]]=some (.val (.tuple [.int ((x8 w a b+d) % s),.int ((w8 w a b+r) % s)])):=by
 unfold a9N b7J
 simp (disch:=omega) only [v4,n4,a1w,a3f,a5O,g9,g0,b9,d4,b6,b0,b5,p0,e7,f7,t5,f8,v0,f9,h9,f6,j0,AH,AQ,AW,AZ,AU,Aa,Ad,AX,AY,AT,Ae,↓reduceIte,sz,Nat.reduceAdd,Ah,a4R hw a b]
abbrev T3(w:Str)(d r:Int):PV:= .tuple [.str w,.int d,.int r]
theorem a5o{w:Str}(hw:w∈m4)(a b x y:Int):x8 w (a+x) (b+y)=x8 w a b+x8 w x y:=by
 rcases G5 hw with rfl|rfl|rfl|rfl|rfl|rfl|rfl|rfl
 ·show a+x=a+x;rfl
 ·show b+y=b+y;rfl
 ·show -(a+x)= -a+ -x;lia
 ·show -(b+y)= -b+ -y;lia
 ·show a+x=a+x;rfl
 ·show -(a+x)= -a+ -x;lia
 ·show b+y=b+y;rfl
 ·show -(b+y)= -b+ -y;lia
theorem a5b{w:Str}(hw:w∈m4)(a b x y:Int):w8 w (a+x) (b+y)=w8 w a b+w8 w x y:=by
 rcases G5 hw with rfl|rfl|rfl|rfl|rfl|rfl|rfl|rfl
 ·show b+y=b+y;rfl
 ·show -(a+x)= -a+ -x;lia
 ·show -(b+y)= -b+ -y;lia
 ·show a+x=a+x;rfl
 ·show -(b+y)= -b+ -y;lia
 ·show b+y=b+y;rfl
 ·show a+x=a+x;rfl
 ·show -(a+x)= -a+ -x;lia
theorem b5r{w:Str}(hw:w∈m4)(s x y:Int):∃k,x8 w (s*x) (s*y)=s*k:=by
 rcases G5 hw with rfl|rfl|rfl|rfl|rfl|rfl|rfl|rfl
 ·exact⟨x,rfl⟩
 ·exact⟨y,rfl⟩
 ·exact⟨-x,by show -(s*x)=s* -x;rw [Int.mul_neg]⟩
 ·exact⟨-y,by show -(s*y)=s* -y;rw [Int.mul_neg]⟩
 ·exact⟨x,rfl⟩
 ·exact⟨-x,by show -(s*x)=s* -x;rw [Int.mul_neg]⟩
 ·exact⟨y,rfl⟩
 ·exact⟨-y,by show -(s*y)=s* -y;rw [Int.mul_neg]⟩
theorem b3X{w:Str}(hw:w∈m4)(s x y:Int):∃k,w8 w (s*x) (s*y)=s*k:=by
 rcases G5 hw with rfl|rfl|rfl|rfl|rfl|rfl|rfl|rfl
 ·exact⟨y,rfl⟩
 ·exact⟨-x,by show -(s*x)=s* -x;rw [Int.mul_neg]⟩
 ·exact⟨-y,by show -(s*y)=s* -y;rw [Int.mul_neg]⟩
 ·exact⟨x,rfl⟩
 ·exact⟨-y,by show -(s*y)=s* -y;rw [Int.mul_neg]⟩
 ·exact⟨y,rfl⟩
 ·exact⟨x,rfl⟩
 ·exact⟨-x,by show -(s*x)=s* -x;rw [Int.mul_neg]⟩
theorem a92(x s k d:Int):(x+s*k+d) % s=(x+d) % s:=by
 rw [Int.add_right_comm,Int.add_mul_emod_self_left]
theorem a8D(x s:Int):x % s=x+s*(-(x / s)):=by
 have:=Int.emod_add_mul_ediv x s
 rw [Int.mul_neg]
 lia
theorem a5p{w:Str}(hw:w∈m4)(s x y e:Int):(x8 w (x % s) (y % s)+e) % s=(x8 w x y+e) % s:=by
 rw [a8D x s,a8D y s,a5o hw]
 obtain⟨k,hk⟩:=b5r hw s (-(x / s)) (-(y / s))
 rw [hk,a92]
theorem a5c{w:Str}(hw:w∈m4)(s x y e:Int):(w8 w (x % s) (y % s)+e) % s=(w8 w x y+e) % s:=by
 rw [a8D x s,a8D y s,a5b hw]
 obtain⟨k,hk⟩:=b3X hw s (-(x / s)) (-(y / s))
 rw [hk,a92]
def mat(w:Str):Int×Int×Int×Int:=(x8 w 1 0,x8 w 0 1,w8 w 1 0,w8 w 0 1)
theorem a84{w:Str}(hw:w∈m4)(a b:Int):x8 w a b=(mat w).1*a+(mat w).2.1*b:=by
 rcases G5 hw with rfl|rfl|rfl|rfl|rfl|rfl|rfl|rfl
 ·show a=1*a+0*b;lia
 ·show b=0*a+1*b;lia
 ·show -a=(-1)*a+ -0*b;lia
 ·show -b= -0*a+(-1)*b;lia
 ·show a=1*a+0*b;lia
 ·show -a=(-1)*a+ -0*b;lia
 ·show b=0*a+1*b;lia
 ·show -b= -0*a+(-1)*b;lia
theorem a8c{w:Str}(hw:w∈m4)(a b:Int):w8 w a b=(mat w).2.2.1*a+(mat w).2.2.2*b:=by
 rcases G5 hw with rfl|rfl|rfl|rfl|rfl|rfl|rfl|rfl
 ·show b=0*a+1*b;lia
 ·show -a=(-1)*a+ -0*b;lia
 ·show -b= -0*a+(-1)*b;lia
 ·show a=1*a+0*b;lia
 ·show -b= -0*a+(-1)*b;lia
 ·show b=0*a+1*b;lia
 ·show a=1*a+0*b;lia
 ·show -a=(-1)*a+ -0*b;lia
def bwW(w:Str):Str:=if w=AK "turn" then AK "back" else if w=AK "back" then AK "turn" else w
theorem b0v{a:Str}(ha:a∈m4):a2G [.str a]=some (.val (.str (bwW a))):=by
 rcases G5 ha with rfl|rfl|rfl|rfl|rfl|rfl|rfl|rfl<;>kernel_rfl
theorem b5F:AK "stay"∈m4:=by decide+kernel
theorem b8f:(m4.all fun a=>decide (bwW a∈m4)&& decide (bwW (bwW a)=a))=true:=by decide+kernel
theorem a5C{a:Str}(ha:a∈m4):bwW a∈m4/\bwW (bwW a)=a:=by
 have h:=List.all_eq_true.mp b8f a ha
 simp only [Bool.and_eq_true,decide_eq_true_eq] at h
 exact h
theorem b0B{w:Str}(hw:w∈m4)(x y:Int):x8 (bwW w) (x8 w x y) (w8 w x y)=x/\w8 (bwW w) (x8 w x y) (w8 w x y)=y:=by
 rcases G5 hw with rfl|rfl|rfl|rfl|rfl|rfl|rfl|rfl
 ·exact⟨by show x=x;rfl,by show y=y;rfl⟩
 ·exact⟨by show - -x=x;lia,by show y=y;rfl⟩
 ·exact⟨by show - -x=x;lia,by show - -y=y;lia⟩
 ·exact⟨by show x=x;rfl,by show - -y=y;lia⟩
 ·exact⟨by show x=x;rfl,by show - -y=y;lia⟩
 ·exact⟨by show - -x=x;lia,by show y=y;rfl⟩
 ·exact⟨by show x=x;rfl,by show y=y;rfl⟩
 ·exact⟨by show - -x=x;lia,by show - -y=y;lia⟩
def lr(s:Int)(w:Str)(d t a b:Int):Int:=(x8 w a b+d) % s
def lc(s:Int)(w:Str)(d t a b:Int):Int:=(w8 w a b+t) % s
def bd(n:Int)(w:Str)(d t:Int):Int:=x8 (bwW w) (-d) (-t) % n
def bt(n:Int)(w:Str)(d t:Int):Int:=w8 (bwW w) (-d) (-t) % n
theorem a53{n:Int}(hn:0<n)(w:Str)(d t a b:Int):(0<=lr n w d t a b/\lr n w d t a b<n)/\0<=lc n w d t a b/\lc n w d t a b<n:=
 ⟨⟨Int.emod_nonneg _ (by lia),Int.emod_lt_of_pos _ (by lia)⟩,Int.emod_nonneg _ (by lia),Int.emod_lt_of_pos _ (by lia)⟩
theorem b5s{w:Str}(hw:w∈m4)(x y d t:Int):x8 w x y+x8 w (-d) (-t)=x8 w (x - d) (y - t):=by
 rw [<-a5o hw];congr 1
theorem b3Y{w:Str}(hw:w∈m4)(x y d t:Int):w8 w x y+w8 w (-d) (-t)=w8 w (x - d) (y - t):=by
 rw [<-a5b hw];congr 1
theorem a5A{n:Int}(hn:0<n){w:Str}(hw:w∈m4)(d t:Int){a b:Int}(ha:0<=a/\a<n)(hb:0<=b/\b<n):
 lr n (bwW w) (bd n w d t) (bt n w d t) (lr n w d t a b) (lc n w d t a b)=a/\lc n (bwW w) (bd n w d t) (bt n w d t) (lr n w d t a b) (lc n w d t a b)=b:=by
 have h1:=(a5C hw).1
 unfold lr lc bd bt
 constructor
 ·rw [Int.add_emod_emod,a5p h1,b5s h1,Int.add_sub_cancel,Int.add_sub_cancel,(b0B hw a b).1,Int.emod_eq_of_lt ha.1 ha.2]
 ·rw [Int.add_emod_emod,a5c h1,b3Y h1,Int.add_sub_cancel,Int.add_sub_cancel,(b0B hw a b).2,Int.emod_eq_of_lt hb.1 hb.2]
theorem a9c{w:Str}(hw:w∈m4)(x y:Int):x8 w (x8 (bwW w) x y) (w8 (bwW w) x y)=x/\w8 w (x8 (bwW w) x y) (w8 (bwW w) x y)=y:=by
 obtain⟨h1,h2⟩:=a5C hw
 have:=b0B h1 x y
 rw [h2] at this
 exact this
theorem b4N{n:Int}(hn:0<n){w:Str}(hw:w∈m4)(d t:Int){a b:Int}(ha:0<=a/\a<n)(hb:0<=b/\b<n):
 lr n w d t (lr n (bwW w) (bd n w d t) (bt n w d t) a b) (lc n (bwW w) (bd n w d t) (bt n w d t) a b)=a/\lc n w d t (lr n (bwW w) (bd n w d t) (bt n w d t) a b) (lc n (bwW w) (bd n w d t) (bt n w d t) a b)=b:=by
 have h1:=(a5C hw).1
 have e1:∀x y e:Int,(x8 w ((x+bd n w d t) % n) ((y+bt n w d t) % n)+e) % n=(x8 w x y+ - d+e) % n:=fun x y e=>by
  rw [a5p hw,a5o hw,Int.add_assoc,<-Int.add_emod_emod,show(x8 w (bd n w d t) (bt n w d t)+e) % n=(-d+e) % n from ?_,Int.add_emod_emod,Int.add_assoc]
  unfold bd bt
  rw [a5p hw,(a9c hw _ _).1]
 have e2:∀x y e:Int,(w8 w ((x+bd n w d t) % n) ((y+bt n w d t) % n)+e) % n=(w8 w x y+ - t+e) % n:=fun x y e=>by
  rw [a5c hw,a5b hw,Int.add_assoc,<-Int.add_emod_emod,show(w8 w (bd n w d t) (bt n w d t)+e) % n=(-t+e) % n from ?_,Int.add_emod_emod,Int.add_assoc]
  unfold bd bt
  rw [a5c hw,(a9c hw _ _).2]
 unfold lr lc
 rw [e1,e2,(a9c hw _ _).1,(a9c hw _ _).2,Int.add_assoc,Int.add_assoc,Int.add_left_neg,Int.add_left_neg,Int.add_zero,Int.add_zero,Int.emod_eq_of_lt ha.1 ha.2,Int.emod_eq_of_lt hb.1 hb.2]
 exact⟨rfl,rfl⟩
def m5(n:Nat)(f:Nat->Nat->Nat):PV:=d9 ((AR n).map fun r=>(AR n).map fun c=>f r c)
theorem K4(n:Nat)(f:Nat->Nat->Nat):Q1 (.val (m5 n f))=some (.val (.int n)):=by
 show Q1 (.val (.tuple _))=_
 rw [b4v,Ac,Ac,At]
theorem b1D{n:Nat}{f:Nat->Nat->Nat}{i:Int}(h0:0<=i)(h1:i<n):y6 (.val (m5 n f)) (.val (.int i))=some (.val (row ((AR n).map fun c=>f i.toNat c))):=by
 refine a3e ?_
 rw [a3O h0,Al,Al,List.getElem?_range (by lia)]
 rfl
theorem b5q{n:Nat}{g:Nat->Nat}{j:Int}(h0:0<=j)(h1:j<n)(hn:n<=16777216):y6 (.val (row ((AR n).map g))) (.val (.int j))=some (.val (row [g j.toNat])):=by
 refine b7P (by rw [Ac,At];exact hn) ?_
 rw [a3O h0,Al,List.getElem?_range (by lia)]
 rfl
theorem tn(k:Nat):((k:Nat):Int).toNat=k:=by lia
theorem b6E{w:Str}(hw:w∈m4){s:Int}(hs:0<s)(d r a b:Int):a9N [.int s,.tuple [.str w,.int d,.int r],.tuple [.int a,.int b]]=some (.val (.tuple [.int (lr s w d r a b),.int (lc s w d r a b)])):=b8Q hw hs d r a b
theorem b9J{a:Str}(ha:a∈m4){s:Int}(hs:0<s)(d r:Int):S8 [.int s,T3 a d r]=some (.val (T3 (bwW a) (bd s a d r) (bt s a d r))):=by
 unfold S8 a25 bd bt
 simp (disch:=omega) only [n4,a1w,a3f,a5O,g9,g0,b9,d4,b6,b0,b5,p0,e7,f7,t5,f8,v0,f9,h9,f6,j0,a3o,a8H,AH,AQ,AW,AZ,AU,Aa,Ad,AX,AY,AT,Ae,↓reduceIte,sz,Nat.reduceAdd,Ah,b0v ha,a4R (a5C ha).1]
theorem a8E{n:Nat}(hn:0<n)(x:Int):0<=x % n/\x % n<n:=⟨Int.emod_nonneg _ (by lia),Int.emod_lt_of_pos _ (by lia)⟩
def mvd(n:Nat)(f:Nat->Nat->Nat)(w:Str)(d t:Int)(r c:Nat):Nat:=f (lr n (bwW w) (bd n w d t) (bt n w d t) r c).toNat (lc n (bwW w) (bd n w d t) (bt n w d t) r c).toNat
theorem a35{n:Nat}(hn:0<n)(f:Nat->Nat->Nat){w:Str}(hw:w∈m4)(d t:Int){r c:Nat}(hr:r<n)(hc:c<n):mvd n f w d t (lr n w d t r c).toNat (lc n w d t r c).toNat=f r c:=by
 obtain⟨⟨b1,b2⟩,b3,b4⟩:=a53 (n:=(n:Int)) (by lia) w d t r c
 have h:=a5A (n:=(n:Int)) (by lia) hw d t (a:=r) (b:=c) (by lia) (by lia)
 unfold mvd
 rw [Int.toNat_of_nonneg b1,Int.toNat_of_nonneg b3,h.1,h.2]
 simp
theorem a7u{n:Nat}(hn:0<n){w:Str}(hw:w∈m4)(d t:Int){r c:Nat}(hr:r<n)(hc:c<n):∃a b:Nat,a<n/\b<n/\lr n w d t a b=r/\lc n w d t a b=c:=by
 obtain⟨⟨b1,b2⟩,b3,b4⟩:=a53 (n:=(n:Int)) (by lia) (bwW w) (bd n w d t) (bt n w d t) r c
 have h:=b4N (n:=(n:Int)) (by lia) hw d t (a:=r) (b:=c) (by lia) (by lia)
 refine⟨(lr n (bwW w) (bd n w d t) (bt n w d t) r c).toNat,(lc n (bwW w) (bd n w d t) (bt n w d t) r c).toNat,by lia,by lia, ?_, ?_⟩
 ·rw [Int.toNat_of_nonneg b1,Int.toNat_of_nonneg b3];exact h.1
 ·rw [Int.toNat_of_nonneg b1,Int.toNat_of_nonneg b3];exact h.2
theorem b6n{l:List Nat}{m:Nat}(hl:l.length=m)(hm:m<=10000){j:Int}(h0:0<=j)(h1:j<m):y6 (.val (row l)) (.val (.int j))=some (.val (row [l.getD j.toNat 0])):=by
 have hk:j.toNat<l.length:=by lia
 refine b7P (by lia) ?_
 rw [a3O h0,Az hk]
 simp [List.getD,hk]
theorem b0o:∀(l:List Nat) (g:Nat->Nat),((l.map fun c=>[g c]).map (·.length)).sum=l.length
 |[],_=>rfl
 |a::l,g=>by
  have:=b0o l g
  simp only [AQ,AT,Ae,List.sum_cons] at this ⊢
  lia
theorem b2W(l:List Nat)(g:Nat->Nat):a3j [] (l.map fun c=>[g c])=l.map g:=by
 rw [a0g]
 have:(l.map fun c=>[g c])=((l.map g).map fun c=>[c]):=by rw [Aw];rfl
 rw [this,a4F]
theorem a2C{k:Nat}(hk:k<=10000)(g:Nat->Nat):V0 (.val (.str (S []))) (.own ((AR k).map fun j=>row [g j]))=some (.val (row ((AR k).map g))):=by
 rw [a2D (rows:=(AR k).map fun j=>[g j]),b2W]
 ·show some _=some _
  rw [Aw];rfl
 ·rw [b0o,At,Ac,At];simp only [Ae];lia
def A0(ws:List Str)(n:Nat):List PV:=ws.flatMap fun w=>(AR n).flatMap fun d=>(AR n).map fun t=>T3 w (d:Nat) (t:Nat)
def b9K:MS:=S9 1 (J3 (a0 (a7 2) (a0 (a7 3) (a0 (a7 4) b7))))
def b7s:MS:=T2 (C9 (a0 (a7 0) b7)) (d5 4) b9K
def b7t:MS:=T2 (C9 (a0 (a7 0) b7)) (d5 3) b7s
theorem c0S{n:Nat}(hn8:n<=8)(w:Str)(d:Nat)(ps:List PV)(hl:ps.length<10000)(q4:Option d0):∃q4':Option d0,b7s [some (.val (.int n)),some (.own ps),some (.val (.str w)),some (.val (.int (d:Nat))),q4]=some (.nx [some (.val (.int n)),some (.own (ps++(AR n).map fun t=>T3 w (d:Nat) (t:Nat))),some (.val (.str w)),some (.val (.int (d:Nat))),q4']):=by
 obtain⟨ρ1,e1,q,rfl⟩:=C3 (body:=b9K) (tg:=d5 4) (fun j ρ=>∃q:Option d0,ρ=[some (.val (.int n)),some (.own (ps++(AR j).map fun t=>T3 w (d:Nat) (t:Nat))),some (.val (.str w)),some (.val (.int (d:Nat))),q])
  (ps:=G0 0 n) (ρ:=[some (.val (.int n)),some (.own ps),some (.val (.str w)),some (.val (.int (d:Nat))),q4])
  (by
   rintro j p hp ρ ⟨q,rfl⟩
   obtain⟨rfl,hj⟩:=T4 hp
   have hj':(0:Int)+(j:Int)=(j:Int):=by lia
   rw [hj'] at hj ⊢
   refine P6 rfl (ρ2:=[some (.val (.int n)),some (.own (ps++(AR (j+1)).map fun t=>T3 w (d:Nat) (t:Nat))),some (.val (.str w)),some (.val (.int (d:Nat))),some (.val (.int (j:Nat)))]) ?_ ⟨_,rfl⟩
   unfold b9K
   rw [a1J (r:= .val (T3 w (d:Nat) (j:Nat))) (by simp (disch:=omega) only [b9,d4,b6,b0,b5,p0,AH,AX,AY,AT,Ae,↓reduceIte,sz,Nat.reduceAdd,Ah]) rfl rfl (by rw [Ar,Ac,At];lia),List.range_succ,BF,List.append_assoc]
   rfl) ⟨q4,by simp⟩
 rw [C1,show((n:Int) - 0).toNat=n by lia] at e1
 refine⟨q, ?_⟩
 unfold b7s
 simp (disch:=omega) only [b9,b6,b0,b5,v5,C5,P4,AH]
 exact e1
theorem b2v(n d:Nat)(w:Str):((AR d).flatMap fun d=>(AR n).map fun t=>T3 w (d:Nat) (t:Nat)).length=d*n:=by
 induction d with
 |zero=>simp
 |succ d ih=>rw [List.range_succ,List.flatMap_append,Ar,ih];simp [Nat.succ_mul]
theorem c0T{n:Nat}(hn8:n<=8)(w:Str)(ps:List PV)(hl:ps.length<5000)(q3 q4:Option d0):∃q3' q4':Option d0,b7t [some (.val (.int n)),some (.own ps),some (.val (.str w)),q3,q4]=some (.nx [some (.val (.int n)),some (.own (ps++(AR n).flatMap fun d=>(AR n).map fun t=>T3 w (d:Nat) (t:Nat))),some (.val (.str w)),q3',q4']):=by
 obtain⟨ρ1,e1,q3',q4',rfl⟩:=C3 (body:=b7s) (tg:=d5 3) (fun j ρ=>∃q3 q4:Option d0,ρ=[some (.val (.int n)),some (.own (ps++(AR j).flatMap fun d=>(AR n).map fun t=>T3 w (d:Nat) (t:Nat))),some (.val (.str w)),q3,q4])
  (ps:=G0 0 n) (ρ:=[some (.val (.int n)),some (.own ps),some (.val (.str w)),q3,q4])
  (by
   rintro j p hp ρ ⟨q3,q4,rfl⟩
   obtain⟨rfl,hj⟩:=T4 hp
   have hj':(0:Int)+(j:Int)=(j:Int):=by lia
   rw [hj'] at hj ⊢
   have hjn:j*n<=8*8:=Nat.mul_le_mul (by lia) hn8
   obtain⟨q4',e⟩:=c0S hn8 w j (ps++(AR j).flatMap fun d=>(AR n).map fun t=>T3 w (d:Nat) (t:Nat)) (by rw [Ar,b2v];lia) q4
   refine P6 rfl e ⟨some (.val (.int (j:Nat))),q4', ?_⟩
   rw [List.range_succ,List.flatMap_append,List.append_assoc]
   simp) ⟨q3,q4,by simp⟩
 rw [C1,show((n:Int) - 0).toNat=n by lia] at e1
 refine⟨q3',q4', ?_⟩
 unfold b7t
 simp (disch:=omega) only [b9,b6,b0,b5,v5,C5,P4,AH]
 exact e1
theorem a1c(ws:List Str)(n:Nat):(A0 ws n).length=ws.length*(n*n):=by
 induction ws with
 |nil=>simp [A0]
 |cons w ws ih=>
  have e:A0 (w::ws) n=((AR n).flatMap fun d=>(AR n).map fun t=>T3 w (d:Nat) (t:Nat))++A0 ws n:=rfl
  rw [e,Ar,ih,b2v,AT,Nat.succ_mul,Nat.add_comm]
theorem b2u{n:Nat}(hn8:n<=8)(ws:List Str)(hw:ws.length<=8):∃q2 q3 q4:Option d0,N5 b7t (d5 2) (ws.map .str) [some (.val (.int n)),some (.own []),none,none,none]=some (.nx [some (.val (.int n)),some (.own (A0 ws n)),q2,q3,q4]):=by
 have hnn:n*n<=8*8:=Nat.mul_le_mul hn8 hn8
 obtain⟨ρ1,e1,q2,q3,q4,rfl⟩:=C3 (body:=b7t) (tg:=d5 2) (fun j ρ=>∃q2 q3 q4:Option d0,ρ=[some (.val (.int n)),some (.own (A0 (ws.take j) n)),q2,q3,q4])
  (ps:=ws.map .str) (ρ:=[some (.val (.int n)),some (.own []),none,none,none])
  (by
   rintro j p hp ρ ⟨q2,q3,q4,rfl⟩
   rw [Al] at hp
   cases hj:ws[j]? with
   |none=>rw [hj] at hp;cases hp
   |some w=>
    rw [hj] at hp
    cases hp
    have hjl:j<ws.length:=(As.mp hj).1
    have hl:(A0 (ws.take j) n).length<5000:=by
     rw [a1c,List.length_take]
     have:min j ws.length*(n*n)<=8*(8*8):=Nat.mul_le_mul (by lia) hnn
     lia
    obtain⟨q3',q4',e⟩:=c0T hn8 w (A0 (ws.take j) n) hl q3 q4
    refine P6 rfl e ⟨some (.val (.str w)),q3',q4', ?_⟩
    have ew:ws[j]=w:=(As.mp hj).2
    rw [List.take_succ_eq_append_getElem hjl,ew]
    unfold A0
    rw [List.flatMap_append]
    simp) ⟨none,none,none,by simp [A0]⟩
 rw [Ac,List.take_length] at e1
 exact⟨q2,q3,q4,e1⟩
theorem G4{ws:List Str}{n:Nat}{p:PV}:p∈A0 ws n↔∃w∈ws,∃d t:Nat,d<n/\t<n/\p=T3 w (d:Nat) (t:Nat):=by
 unfold A0
 constructor
 ·intro h
  obtain⟨w,hw,h⟩:=List.mem_flatMap.mp h
  obtain⟨d,hd,h⟩:=List.mem_flatMap.mp h
  obtain⟨t,ht,rfl⟩:=Aj.mp h
  exact⟨w,hw,d,t,List.mem_range.mp hd,List.mem_range.mp ht,rfl⟩
 ·rintro⟨w,hw,d,t,hd,ht,rfl⟩
  exact List.mem_flatMap.mpr ⟨w,hw,List.mem_flatMap.mpr ⟨d,List.mem_range.mpr hd,Aj.mpr ⟨t,List.mem_range.mpr ht,rfl⟩⟩⟩
def R8:List Str:=[AK "back",AK "cross",AK "flip",AK "half",AK "other",AK "side",AK "stay",AK "turn"]
theorem b5R:(R8.all fun w=>decide (w∈m4))=true:=by decide+kernel
theorem b5Q:(m4.all fun w=>decide (w∈R8))=true:=by decide+kernel
theorem a0t{w:Str}:w∈R8↔w∈m4:=⟨fun h=>of_decide_eq_true (List.all_eq_true.mp b5R w h),fun h=>of_decide_eq_true (List.all_eq_true.mp b5Q w h)⟩
theorem a9q{n:Nat}(hn8:n<=8):y8 [.int n]=some (.own (A0 R8 n)):=by
 obtain⟨q2,q3,q4,e⟩:=b2u hn8 R8 (by decide)
 have e1:a8s (.val a9b)=some (.own (R8.map .str)):=by kernel_rfl
 unfold y8 a0T
 simp (disch:=omega) only [n6,g0,b6,J7,k4,f7,D5,f9,h9,f6,v5,AH,AQ,AW,AZ,AU,Aa,Ad,AX,AY,Ae,↓reduceIte,D9,E3,sz,Ah,e1]
 rw [show N5 V2 (d5 2) (R8.map .str) [some (.val (.int n)),some (.own []),none,none,none]=_ from e]
 simp (disch:=omega) only [h9,j0,AH,a3p,a3q]
def a2L(c k:Int):Int:=(c % 2147483647+17)*(48271+2*k*k) % 2147483629
theorem b04(c k:Int):0<=a2L c k/\a2L c k<2147483629:=by
 unfold a2L
 exact⟨Int.emod_nonneg _ (by decide),Int.emod_lt_of_pos _ (by decide)⟩
theorem a17{c k:Int}(hk:0<=k/\k<100000):B6 [.int c,.int k]=some (.val (.int (a2L c k))):=by
 unfold B6 a4z a2L
 simp (disch:=omega) only [v4,S6,n4,g9,g0,b9,d4,f8,v0,f6,j0,AH,AQ,AW,AU,Ak]
theorem a9w{rows:List (List Nat)}{n:Nat}(h1:rows.length=n)(h2:∀l∈rows,l.length=n):d9 rows=m5 n fun r c=>(rows.getD r []).getD c 0:=by
 unfold m5
 congr 1
 refine List.ext_getElem (by rw [Ac,At,h1]) fun i hi hi'=> ?_
 rw [List.getElem_map,List.getElem_range]
 have hl:=h2 rows[i] (List.getElem_mem _)
 refine List.ext_getElem (by rw [Ac,At,hl]) fun j hj hj'=> ?_
 rw [List.getElem_map,List.getElem_range]
 simp [List.getD,hi,hj]
theorem b1v{n:Nat}(hn8:n<=8):T6 [.int n]=some (.own (A0 m4 n)):=by
 obtain⟨q2,q3,q4,e⟩:=b2u hn8 m4 (by decide)
 unfold T6 a62
 simp (disch:=omega) only [g0,b6,b0,b5,J7,k4,f7,D5,f9,h9,f6,v5,AH,AQ,AW,AZ,AU,Aa,Ad,AX,AY,AT,Ae,↓reduceIte,D9,E3,sz,Nat.reduceAdd,Ah]
 rw [show N5 a3m (d5 2) [.str (AK "stay"),.str (AK "turn"),.str (AK "half"),.str (AK "back"),.str (AK "side"),.str (AK "flip"),.str (AK "cross"),.str (AK "other")] [some (.val (.int n)),some (.own []),none,none,none]=_ from e]
 simp (disch:=omega) only [h9,j0,AH,a3p,a3q]
abbrev scL(ns:List Int):Option d0:=some (.val (.list (ns.map .int)))
abbrev tA:PV:= .tuple [.str (AK "turn"),.str (AK "back"),.str (AK "cross"),.str (AK "other")]
abbrev tB:PV:= .tuple [.str (AK "half"),.str (AK "flip"),.str (AK "back"),.str (AK "other")]
abbrev tC:PV:= .tuple [.str (AK "half"),.str (AK "side"),.str (AK "turn"),.str (AK "other")]
theorem Q3{w:Str}{x y z:Bool}(h1:a2B false (.val (.str w)) (.val tA)=some (.val (.bool x)))(h2:a2B false (.val (.str w)) (.val tB)=some (.val (.bool y)))(h3:a2B false (.val (.str w)) (.val tC)=some (.val (.bool z)))(n d t a b:Int)(hn:0<n):
 a0e [.int n,T3 w d t,.tuple [.int a,.int b]]=some (.val (.tuple [.int (((if y then 0 - (if x then b else a) else(if x then b else a))+d) % n),.int (((if z then 0 - (if x then a else b) else(if x then a else b))+t) % n)])):=by
 unfold a0e a63
 cases x<;>cases y<;>cases z<;>simp (disch:=omega) only [v4,a30,b4Q,b9f,n4,g9,g0,b9,d4,b6,b0,b5,p0,f7,t5,f8,v0,f9,h9,o8,a3k,X5,o9,f6,j0,r6,v7,L8,b5M,b9P,AH,AQ,AW,AZ,AU,Aa,Ad,AX,AY,AT,Ae,↓reduceIte,Ay,sz,Nat.reduceAdd,Ah,h1,h2,h3]
theorem b6D{w:Str}(hw:w∈m4){n:Int}(hn:0<n)(d t a b:Int):a0e [.int n,T3 w d t,.tuple [.int a,.int b]]=some (.val (.tuple [.int (lr n w d t a b),.int (lc n w d t a b)])):=by
 unfold lr lc
 rcases G5 hw with rfl|rfl|rfl|rfl|rfl|rfl|rfl|rfl
 ·rw [Q3 (x:=false) (y:=false) (z:=false) (by kernel_rfl) (by kernel_rfl) (by kernel_rfl) n d t a b hn];rfl
 ·rw [Q3 (x:=true) (y:=false) (z:=true) (by kernel_rfl) (by kernel_rfl) (by kernel_rfl) n d t a b hn];show _=some (d0.val (.tuple [.int ((b+d) % n),.int ((-a+t) % n)]));rw [<-Int.zero_sub a];rfl
 ·rw [Q3 (x:=false) (y:=true) (z:=true) (by kernel_rfl) (by kernel_rfl) (by kernel_rfl) n d t a b hn];show _=some (d0.val (.tuple [.int ((-a+d) % n),.int ((-b+t) % n)]));rw [<-Int.zero_sub a,<-Int.zero_sub b];rfl
 ·rw [Q3 (x:=true) (y:=true) (z:=false) (by kernel_rfl) (by kernel_rfl) (by kernel_rfl) n d t a b hn];show _=some (d0.val (.tuple [.int ((-b+d) % n),.int ((a+t) % n)]));rw [<-Int.zero_sub b];rfl
 ·rw [Q3 (x:=false) (y:=false) (z:=true) (by kernel_rfl) (by kernel_rfl) (by kernel_rfl) n d t a b hn];show _=some (d0.val (.tuple [.int ((a+d) % n),.int ((-b+t) % n)]));rw [<-Int.zero_sub b];rfl
 ·rw [Q3 (x:=false) (y:=true) (z:=false) (by kernel_rfl) (by kernel_rfl) (by kernel_rfl) n d t a b hn];show _=some (d0.val (.tuple [.int ((-a+d) % n),.int ((b+t) % n)]));rw [<-Int.zero_sub a];rfl
 ·rw [Q3 (x:=true) (y:=false) (z:=false) (by kernel_rfl) (by kernel_rfl) (by kernel_rfl) n d t a b hn];rfl
 ·rw [Q3 (x:=true) (y:=true) (z:=true) (by kernel_rfl) (by kernel_rfl) (by kernel_rfl) n d t a b hn];show _=some (d0.val (.tuple [.int ((-b+d) % n),.int ((-a+t) % n)]));rw [<-Int.zero_sub a,<-Int.zero_sub b];rfl
theorem b29{n:Nat}(hn:0<n)(hn8:n<=8)(f:Nat->Nat->Nat){w:Str}(hw:w∈m4)(d t:Int):∃(D:List (List m3×PV)) (q4 q5:Option d0),(∀a b:Nat,a<n->b<n->A5 D [.inl (lr n w d t a b),.inl (lc n w d t a b)]=some (row [f a b]))/\N5 L5 (d5 4) (G0 0 n) [some (.val (m5 n f)),some (.val (T3 w d t)),some (.val (.int n)),some (.ow (.dct [])),none,none]=some (.nx [some (.val (m5 n f)),some (.val (T3 w d t)),some (.val (.int n)),some (.ow (.dct D)),q4,q5]):=by
 have inj:∀a b x y:Nat,a<n->b<n->x<n->y<n->lr n w d t a b=lr n w d t x y->lc n w d t a b=lc n w d t x y->a=x/\b=y:=by
  intro a b x y ha hb hx hy h1 h2
  have g1:=a5A (n:=(n:Int)) (by lia) hw d t (a:=a) (b:=b) (by lia) (by lia)
  have g2:=a5A (n:=(n:Int)) (by lia) hw d t (a:=x) (b:=y) (by lia) (by lia)
  rw [h1,h2,g2.1,g2.2] at g1
  lia
 obtain⟨ρ1,e1,D,hl,hD,q4,q5,rfl⟩:=C3 (body:=L5) (tg:=d5 4) (fun i ρ=>∃D:List (List m3×PV),D.length<=8*i/\(∀a b:Nat,a<i->b<n->A5 D [.inl (lr n w d t a b),.inl (lc n w d t a b)]=some (row [f a b]))/\∃q4 q5:Option d0,ρ=[some (.val (m5 n f)),some (.val (T3 w d t)),some (.val (.int n)),some (.ow (.dct D)),q4,q5])
  (ps:=G0 0 n) (ρ:=[some (.val (m5 n f)),some (.val (T3 w d t)),some (.val (.int n)),some (.ow (.dct [])),none,none])
  (by
   rintro i p hp ρ ⟨D,hl,hD,q4,q5,rfl⟩
   obtain⟨rfl,hi⟩:=T4 hp
   have hi':(0:Int)+(i:Int)=(i:Int):=by lia
   rw [hi'] at hi ⊢
   obtain⟨ρ2,e2,D2,hl2,hD2,hD3,q5',rfl⟩:=C3 (body:=V3) (tg:=d5 5) (fun j ρ=>∃D2:List (List m3×PV),D2.length<=8*i+j/\(∀a b:Nat,a<i->b<n->A5 D2 [.inl (lr n w d t a b),.inl (lc n w d t a b)]=some (row [f a b]))/\(∀b:Nat,b<j->A5 D2 [.inl (lr n w d t i b),.inl (lc n w d t i b)]=some (row [f i b]))/\∃q5:Option d0,ρ=[some (.val (m5 n f)),some (.val (T3 w d t)),some (.val (.int n)),some (.ow (.dct D2)),some (.val (.int (i:Nat))),q5])
    (ps:=G0 0 n) (ρ:=[some (.val (m5 n f)),some (.val (T3 w d t)),some (.val (.int n)),some (.ow (.dct D)),some (.val (.int (i:Nat))),q5])
    (by
     rintro j p hp ρ ⟨D2,hl2,hD2,hD3,q5,rfl⟩
     obtain⟨rfl,hj⟩:=T4 hp
     have hj':(0:Int)+(j:Int)=(j:Int):=by lia
     rw [hj'] at hj ⊢
     have hpl:=b0d D2 [.inl (lr n w d t i j),.inl (lc n w d t i j)] (row [f i j])
     refine P6 rfl (ρ2:=[some (.val (m5 n f)),some (.val (T3 w d t)),some (.val (.int n)),some (.ow (.dct (a6o D2 [.inl (lr n w d t i j),.inl (lc n w d t i j)] (row [f i j])))),some (.val (.int (i:Nat))),some (.val (.int (j:Nat)))]) ?_ ⟨_,by lia,fun a b ha hb=> ?_,fun b hb=> ?_,_,rfl⟩
     ·unfold V3
      simp (disch:=omega) only [g9,b9,d4,b6,b0,b5,p0,e7,AH,AX,AY,AT,Ae,↓reduceIte,sz,Nat.reduceAdd,Ah,a4L,b6D hw (n:=(n:Int)) (by lia),b6z,b1D (n:=n) (f:=f) (i:=((i:Nat):Int)) (by lia) (by lia),b5q (n:=n) (g:=fun c=>f i c) (j:=((j:Nat):Int)) (by lia) (by lia) (by lia),tn]
      rw [a9B rfl (by lia)]
      rfl
     ·rw [a6J]
      split
      ·rename_i h
       injection h with h1 h2
       injection h2 with h2 _
       have:=inj i j a b (by lia) (by lia) (by lia) hb (Sum.inl.inj h1) (Sum.inl.inj h2)
       lia
      ·exact hD2 a b ha hb
     ·rw [a6J]
      split
      ·rename_i h
       injection h with h1 h2
       injection h2 with h2 _
       have:=inj i j i b (by lia) (by lia) (by lia) (by lia) (Sum.inl.inj h1) (Sum.inl.inj h2)
       rw [this.2]
      ·rename_i h
       by_cases hbj:b<j
       ·exact hD3 b hbj
       ·have:b=j:=by lia
        exact absurd (by rw [this]) h) ⟨D,by lia,hD,fun b h=>by lia,q5,rfl⟩
   rw [C1] at hD3 hl2
   apply P6 rfl
   ·unfold L5
    simp (disch:=omega) only [b9,d4,b6,b0,b5,v5,C5,P4,AH,AX,AY]
    exact e2
   ·refine⟨D2,by lia,fun a b ha hb=> ?_,_,_,rfl⟩
    by_cases h:a<i
    ·exact hD2 a b h hb
    ·have:a=i:=by lia
     rw [this];exact hD3 b (by lia)) ⟨[],by simp,fun a b h=>by lia,none,none,rfl⟩
 rw [C1] at hD
 exact⟨D,q4,q5,fun a b ha hb=>hD a b (by lia) hb,e1⟩
theorem a7F{n:Nat}(hn:0<n)(hn8:n<=8)(f:Nat->Nat->Nat){w:Str}(hw:w∈m4)(d t:Int):Q2 [m5 n f,T3 w d t]=some (.val (m5 n (mvd n f w d t))):=by
 obtain⟨D,q4,q5,hD,e1⟩:=b29 hn hn8 f hw d t
 have hv:∀r c:Nat,r<n->c<n->A5 D [.inl (r:Nat),.inl (c:Nat)]=some (row [mvd n f w d t r c]):=by
  intro r c hr hc
  obtain⟨a,b,ha,hb,e1,e2⟩:=a7u hn hw d t hr hc
  have g:=hD a b ha hb
  have g3:=a35 hn f hw d t ha hb
  rw [e1,e2] at g
  rw [e1,e2,tn,tn] at g3
  rw [g,g3]
 unfold Q2 a4A
 simp (disch:=omega) only [n6,b9,d4,b6,b0,b5,f7,t5,f8,f9,h9,f6,v5,C5,P4,AH,AQ,AW,AZ,AU,Aa,Ad,AX,AY,K4,a7B,b3P,e1]
 rw [B2 (f:=fun r:Nat=>row ((AR n).map fun(c:Nat)=>mvd n f w d t r c)) (AR n) (O0 (n:=n) rfl (by lia)) (by rw [At];lia)]
 ·simp (disch:=omega) only [v0,j0,AH,a2F]
  unfold m5 d9
  rw [Aw]
  rfl
 ·intro r hr
  have hr:=List.mem_range.mp hr
  refine⟨_,rfl, ?_⟩
  unfold a1E
  simp (disch:=omega) only [g9,g0,AH,AZ,AU,Aa,Ad,AX,AY]
  rw [B2 (f:=fun c:Nat=>row [mvd n f w d t r c]) (AR n) (O0 (n:=n) rfl (by lia)) (by rw [At];lia)]
  ·simp (disch:=omega) only [b5,AH,show AK ""=S [] from rfl,a2C (k:=n) (by lia)]
  ·intro c hc
   have hc:=List.mem_range.mp hc
   refine⟨_,rfl, ?_⟩
   unfold a1D
   rw [b6I (p:=row [mvd n f w d t r c]) (by simp (disch:=omega) only [b9,d4,b6,b0,b5,AH,AZ,AU,Aa,Ad,AX,AY]) rfl (hv r c hr hc)]
   rfl
theorem a6R{n:Nat}(hn:0<n)(hn8:n<=8)(f:Nat->Nat->Nat){w:Str}(hw:w∈m4)(d t r:Int):
 X4 [m5 n f,T3 w d t,.int r]=some (.val (row ((AR n).map fun(c:Nat)=>f (lr n w d t r c).toNat (lc n w d t r c).toNat))):=by
 unfold X4 a4C
 simp (disch:=omega) only [n6,b9,f7,t5,f9,h9,f6,AH,AQ,AW,AZ,AU,Aa,Ad,AX,AY,K4]
 rw [B2 (f:=fun c:Nat=> .tuple [.int (lr n w d t r c),.int (lc n w d t r c)]) (AR n) (O0 (n:=n) rfl (by lia)) (by rw [At];lia)]
 ·simp (disch:=omega) only [g9,g0,D5,f8,h9,AH,AX,AY]
  rw [B2 (ι:=fun c:Nat=> .tuple [.int (lr n w d t r c),.int (lc n w d t r c)]) (f:=fun c:Nat=>row [f (lr n w d t r c).toNat (lc n w d t r c).toNat]) (AR n) (Q4 (r:= .bor ((AR n).map fun c:Nat=> .tuple [.int (lr n w d t r c),.int (lc n w d t r c)])) rfl rfl) (by rw [At];lia)]
  ·simp (disch:=omega) only [v0,j0,AH,show AK ""=S [] from rfl,a2C (k:=n) (by lia)]
  ·intro c hc
   obtain⟨⟨b1,b2⟩,b3,b4⟩:=a53 (n:=(n:Int)) (by lia) w d t r c
   refine⟨_,rfl, ?_⟩
   unfold a1G
   simp (disch:=omega) only [a1w,a3f,g9,g0,b9,d4,b5,AH,AZ,AU,Aa,Ad,AX,AY,b1D b1 b2,b5q b3 b4 (by lia)]
 ·intro c hc
  refine⟨_,rfl, ?_⟩
  unfold a1F
  simp (disch:=omega) only [b9,d4,b6,b0,b5,p0,e7,AH,AZ,AU,Aa,Ad,AX,AY,AT,Ae,↓reduceIte,sz,Nat.reduceAdd,Ah,b6E hw (s:=(n:Int)) (by lia)]
theorem a7G{n:Nat}(hn:0<n)(hn8:n<=8)(f:Nat->Nat->Nat){w:Str}(hw:w∈m4)(d t:Int):a3i [m5 n f,T3 w d t]=some (.val (m5 n (mvd n f w d t))):=by
 unfold a3i b1A
 simp (disch:=omega) only [n6,b9,d4,b6,b0,b5,e7,f7,t5,f8,f9,h9,f6,AH,AQ,AW,AZ,AU,Aa,Ad,AX,AY,K4,b9J hw (s:=(n:Int)) (by lia)]
 rw [B2 (f:=fun r:Nat=>row ((AR n).map fun(c:Nat)=>mvd n f w d t r c)) (AR n) (O0 (n:=n) rfl (by lia)) (by rw [At];lia)]
 ·simp (disch:=omega) only [v0,j0,AH,a2F]
  unfold m5 d9
  rw [Aw]
  rfl
 ·intro r hr
  refine⟨_,rfl, ?_⟩
  unfold a52
  simp (disch:=omega) only [b9,d4,b6,b0,b5,e7,AH,AZ,AU,Aa,Ad,AX,AY,a6R hn hn8 f (a5C hw).1]
  rfl
theorem a1s:∀A B:List (List Nat),PyData.eqvAll (A.map row) (B.map row)=(A==B)
 |[],[]=>by simp [PyData.eqvAll]
 |[],b::B=>by simp [PyData.eqvAll]
 |a::A,[]=>by simp [PyData.eqvAll]
 |a::A,b::B=>by
  rw [AQ,AQ]
  simp only [PyData.eqvAll,a1s A B,b1O]
  rw [Bool.eq_iff_iff]
  simp
def u7(n:Nat)(f:Nat->Nat->Nat):List (List Nat):=(AR n).map fun r=>(AR n).map fun c=>f r c
theorem b3D(i:Int):X3 [.int i]=some (.val (.bool true)):=by
 unfold X3 a4B
 simp (disch:=omega) only [n6,b9,f8,f6,G3,U9,AH,AQ,AW,AU,Ak,a5W,a5B]
 rfl
theorem a8F{n:Nat}(hn:0<n)(hn8:n<=8)(N:Int):∃w∈m4,∃d t:Nat,d<n/\t<n/\L3 [.int n,.int N]=some (.val (T3 w (d:Nat) (t:Nat))):=by
 have hl:=a1c m4 n
 have e8:m4.length=8:=rfl
 have hp:0<n*n:=Nat.mul_pos hn hn
 have ec:(8:Int)*n*n=((A0 m4 n).length:Int):=by
  rw [hl,e8,Int.natCast_mul,Int.natCast_mul,Int.mul_assoc]
  rfl
 have hpl:0<(A0 m4 n).length:=by rw [hl,e8];lia
 have h0:0<=N %((A0 m4 n).length:Int):=Int.emod_nonneg _ (by lia)
 have h1:N %((A0 m4 n).length:Int)<(A0 m4 n).length:=Int.emod_lt_of_pos _ (by lia)
 have hk:(N %((A0 m4 n).length:Int)).toNat<(A0 m4 n).length:=by lia
 obtain⟨w,hw,d,t,hd,ht,e⟩:=G4.mp (List.getElem_mem hk)
 have ix:y6 (.ow (.lst (A0 m4 n))) (.val (.int (N %((A0 m4 n).length:Int))))=some (.val (T3 w (d:Nat) (t:Nat))):=by
  refine b6m (p:=T3 w (d:Nat) (t:Nat)) ?_
  rw [a3O h0,Az hk,e]
 have hpos:0<(8:Int)*n*n:=by rw [ec];lia
 refine⟨w,hw,d,t,hd,ht, ?_⟩
 unfold L3 a1g
 simp (disch:=omega) only [S6,n4,g9,g0,b9,d4,b6,b0,b5,e7,f8,f6,AH,AQ,AW,AU,Ak,b1v hn8]
 rw [ec]
 simp (disch:=omega) only [v0,j0,AH,ix]
theorem a7b{ns:List Int}{k:Int}(h0:0<=k):∃c:Int,C4 [.list (ns.map .int),.int k]=some (.val (.int c)):=by
 unfold C4 a2o
 by_cases h:k<ns.length
 ·have hk:k.toNat<ns.length:=by lia
  have e:L2.atI (ns.map PyData.int) k=some (.int ns[k.toNat]):=by
   rw [a3O h0,Al,Az hk];rfl
  refine⟨ns[k.toNat], ?_⟩
  simp (disch:=omega) only [a5S,a31,g9,n6,b9,d4,f9,o8,f6,r6,v7,AH,AQ,AW,AU,Ak,Ac,a9J e]
  simp only [h,decide_true]
  simp (disch:=omega) only [g9,b9,d4,f8,v0,a2a,a3k,j0,AH,a9J e]
 ·refine⟨0, ?_⟩
  simp (disch:=omega) only [a5S,a31,g9,n6,b9,d4,f9,o8,f6,r6,v7,AH,AQ,AW,AU,Ak,Ac]
  simp only [h,decide_false]
  simp (disch:=omega) only [g0,f8,v0,h9,X5,o9,j0,AH]
def c0h(b a:Int×Int×Int×Int):Int×Int×Int×Int:=(b.1*a.1+b.2.1*a.2.2.1,b.1*a.2.1+b.2.1*a.2.2.2,b.2.2.1*a.1+b.2.2.2*a.2.2.1,b.2.2.1*a.2.1+b.2.2.2*a.2.2.2)
theorem b3Z:(m4.all fun a=>m4.all fun b=>m4.any fun c=>decide (mat c=c0h (mat b) (mat a)))=true:=by decide+kernel
theorem b57{a b:Str}(ha:a∈m4)(hb:b∈m4):∃c∈m4,∀x y:Int,x8 c x y=x8 b (x8 a x y) (w8 a x y)/\w8 c x y=w8 b (x8 a x y) (w8 a x y):=by
 have h:=List.all_eq_true.mp (List.all_eq_true.mp b3Z a ha) b hb
 obtain⟨c,hc,e⟩:=List.any_eq_true.mp h
 have e:=of_decide_eq_true e
 refine⟨c,hc,fun x y=> ?_⟩
 rw [a84 hc,a8c hc,a84 hb,a8c hb,a84 ha,a8c ha,e]
 unfold c0h
 dsimp only
 generalize (mat a).1=a1
 generalize (mat a).2.1=a2
 generalize (mat a).2.2.1=a3
 generalize (mat a).2.2.2=a4
 generalize (mat b).1=b1
 generalize (mat b).2.1=b2
 generalize (mat b).2.2.1=b3
 generalize (mat b).2.2.2=b4
 simp only [Int.mul_add,Int.add_mul,Int.mul_assoc]
 constructor<;>lia
theorem b1k{n:Nat}{f g:Nat->Nat->Nat}:u7 n f=u7 n g↔∀r c:Nat,r<n->c<n->f r c=g r c:=by
 unfold u7
 constructor
 ·intro h r c hr hc
  have h1:=congrArg (fun l=>(l.getD r []).getD c 0) h
  simpa [List.getD,hr,hc] using h1
 ·intro h
  refine List.map_congr_left fun r hr=>List.map_congr_left fun c hc=>h r c (List.mem_range.mp hr) (List.mem_range.mp hc)
theorem b05{n:Nat}(hn:0<n){f g:Nat->Nat->Nat}{w:Str}(hw:w∈m4)(d t:Int):u7 n (mvd n f w d t)=u7 n g↔∀r c:Nat,r<n->c<n->g (lr n w d t r c).toNat (lc n w d t r c).toNat=f r c:=by
 rw [b1k]
 constructor
 ·intro h r c hr hc
  obtain⟨⟨b1,b2⟩,b3,b4⟩:=a53 (n:=(n:Int)) (by lia) w d t r c
  rw [<-h _ _ (by lia) (by lia),a35 hn f hw d t hr hc]
 ·intro h r c hr hc
  obtain⟨a,b,ha,hb,e1,e2⟩:=a7u hn hw d t hr hc
  have h1:=h a b ha hb
  have h2:=a35 hn f hw d t ha hb
  rw [e1,e2,tn,tn] at h1 h2
  rw [h1,h2]
theorem b3j{n:Nat}(hn:0<n){f f':Nat->Nat->Nat}(h:u7 n f=u7 n f'){w:Str}(hw:w∈m4)(d t:Int):u7 n (mvd n f w d t)=u7 n (mvd n f' w d t):=by
 rw [b05 hn hw]
 intro r c hr hc
 rw [a35 hn f' hw d t hr hc]
 exact(b1k.mp h r c hr hc).symm
theorem b6N{n:Nat}(hn:0<n)(f:Nat->Nat->Nat){w v:Str}(hw:w∈m4)(hv:v∈m4)(d t e u:Int):∃z∈m4,∃a b:Nat,a<n/\b<n/\u7 n (mvd n f z (a:Nat) (b:Nat))=u7 n (mvd n (mvd n f w d t) v e u):=by
 obtain⟨z,hz,hc⟩:=b57 hw hv
 obtain⟨⟨b1,b2⟩,b3,b4⟩:=a53 (n:=(n:Int)) (by lia) v e u d t
 refine⟨z,hz,(lr n v e u d t).toNat,(lc n v e u d t).toNat,by lia,by lia, ?_⟩
 rw [Int.toNat_of_nonneg b1,Int.toNat_of_nonneg b3,b05 hn hz]
 intro r c hr hc'
 obtain⟨⟨p1,p2⟩,p3,p4⟩:=a53 (n:=(n:Int)) (by lia) w d t r c
 have e1:lr n z (lr n v e u d t) (lc n v e u d t) r c=lr n v e u (lr n w d t r c) (lc n w d t r c):=by
  unfold lr lc
  rw [(hc r c).1,a5p hv,a5o hv,Int.add_emod_emod,Int.add_assoc]
 have e2:lc n z (lr n v e u d t) (lc n v e u d t) r c=lc n v e u (lr n w d t r c) (lc n w d t r c):=by
  unfold lr lc
  rw [(hc r c).2,a5c hv,a5b hv,Int.add_emod_emod,Int.add_assoc]
 rw [e1,e2]
 have h1:=a35 hn (mvd n f w d t) hv e u (r:=(lr n w d t r c).toNat) (c:=(lc n w d t r c).toNat) (by lia) (by lia)
 rw [Int.toNat_of_nonneg p1,Int.toNat_of_nonneg p3] at h1
 rw [h1,a35 hn f hw d t hr hc']
theorem b4W{n:Nat}(hn:0<n)(f:Nat->Nat->Nat){w:Str}(hw:w∈m4)(d t:Int):u7 n (mvd n (mvd n f w d t) (bwW w) (bd n w d t) (bt n w d t))=u7 n f:=by
 rw [b05 hn (a5C hw).1]
 intro r c hr hc
 rfl
def tl(w:Str)(d t:Nat):List (List Nat):=[w.cps.toList,[d],[t]]
theorem b6H(a b:List Nat):ltv (row a) (row b)=some (decide (a<b)):=by
 show some (decide ((S a).cps.toList<(S b).cps.toList))=_
 rw [M6,M6]
theorem a34:∀{A B:List (List Nat)},A.length=B.length->a0j (A.map row) (B.map row)=some (decide (A<B))
 |[],[],_=>by simp [a0j]
 |[],_::_,h=>by simp at h
 |_::_,[],h=>by simp at h
 |a::A,b::B,h=>by
  rw [AQ,AQ,a0j,b1O,a34 (by simpa using h),b6H]
  by_cases e:a=b
  ·subst e
   rw [if_pos (by simp)]
   congr 1
   rw [decide_eq_decide,List.cons_lt_cons_iff]
   constructor
   ·exact fun h=> .inr ⟨rfl,h⟩
   ·rintro(h|⟨_,h⟩)
    ·exact absurd h (List.lt_irrefl a)
    ·exact h
  ·rw [if_neg (by simpa using e)]
   congr 1
   rw [decide_eq_decide,List.cons_lt_cons_iff]
   constructor
   ·exact fun h=> .inl h
   ·rintro(h|⟨h,_⟩)
    ·exact h
    ·exact absurd h e
theorem a76:∀{A B X Y:List (List Nat)},A.length=B.length->(A++X<B++Y↔A<B\/A=B/\X<Y)
 |[],[],X,Y,_=>by simp
 |[],_::_,_,_,h=>by simp at h
 |_::_,[],_,_,h=>by simp at h
 |a::A,b::B,X,Y,h=>by
  rw [Aa,Aa,List.cons_lt_cons_iff,List.cons_lt_cons_iff,a76 (by simpa using h)]
  constructor
  ·rintro(k|⟨rfl,k|⟨rfl,k⟩⟩)
   ·exact .inl (.inl k)
   ·exact .inl (.inr ⟨rfl,k⟩)
   ·exact .inr ⟨rfl,k⟩
  ·rintro((k|⟨rfl,k⟩)|⟨k,g⟩)
   ·exact .inl k
   ·exact .inr ⟨rfl,.inl k⟩
   ·cases k;exact .inr ⟨rfl,.inr ⟨rfl,g⟩⟩
theorem b7o{w v:Str}(h:w.cps.toList=v.cps.toList):w=v:=by
 cases w;cases v
 simp at h ⊢
 exact h
theorem a8T(d e:Nat):([d]<[e])↔d<e:=by
 rw [List.cons_lt_cons_iff];simp
theorem b4f(w v:Str):PyData.eqv (.str w) (.str v)=(w==v):=by simp only [PyData.eqv]
theorem b1N(i j:Int):PyData.eqv (.int i) (.int j)=(i==j):=by simp only [PyData.eqv]
theorem b0q(w v:Str)(d t e u:Nat):tl w d t<tl v e u↔w.cps.toList<v.cps.toList\/w=v/\(d<e\/d=e/\t<u):=by
 unfold tl
 have s1:([[d],[t]]<[[e],[u]])↔d<e\/d=e/\t<u:=by
  rw [List.cons_lt_cons_iff,a8T,List.cons_lt_cons_iff,a8T]
  simp
 rw [List.cons_lt_cons_iff,s1]
 constructor
 ·rintro(k|⟨k,k'⟩)
  ·exact .inl k
  ·exact .inr ⟨b7o k,k'⟩
 ·rintro(k|⟨rfl,k⟩)
  ·exact .inl k
  ·exact .inr ⟨rfl,k⟩
theorem b8V(w v:Str)(d t e u:Nat):ltv (T3 w (d:Nat) (t:Nat)) (T3 v (e:Nat) (u:Nat))=some (decide (tl w d t<tl v e u)):=by
 rw [ltv,a0j,a0j,a0j,a0j,b4f,b1N,b1N,ltv,ltv,ltv]
 by_cases h1:w=v
 ·subst h1
  rw [if_pos (by simp)]
  by_cases h2:d=e
  ·subst h2
   rw [if_pos (by simp)]
   by_cases h3:t=u
   ·subst h3
    rw [if_pos (by simp)]
    congr 1
    symm
    rw [decide_eq_false_iff_not,b0q]
    rintro(k|⟨_,k|⟨_,k⟩⟩)
    ·exact List.lt_irrefl _ k
    ·lia
    ·lia
   ·rw [if_neg (by simp;lia)]
    congr 1
    rw [decide_eq_decide,b0q]
    constructor
    ·exact fun k=> .inr ⟨rfl,.inr ⟨rfl,by lia⟩⟩
    ·rintro(k|⟨_,k|⟨_,k⟩⟩)
     ·exact absurd k (List.lt_irrefl _)
     ·lia
     ·lia
  ·rw [if_neg (by simp;lia)]
   congr 1
   rw [decide_eq_decide,b0q]
   constructor
   ·exact fun k=> .inr ⟨rfl,.inl (by lia)⟩
   ·rintro(k|⟨_,k|⟨k,_⟩⟩)
    ·exact absurd k (List.lt_irrefl _)
    ·lia
    ·exact absurd k h2
 ·rw [if_neg (by simpa using h1)]
  congr 1
  rw [decide_eq_decide,b0q]
  constructor
  ·exact fun k=> .inl k
  ·rintro(k|⟨k,_⟩)
   ·exact k
   ·exact absurd k h1
theorem b4P{A B:List (List Nat)}(h:A.length=B.length)(w v:Str)(d t e u:Nat):ltv (.tuple [d9 A,T3 w (d:Nat) (t:Nat)]) (.tuple [d9 B,T3 v (e:Nat) (u:Nat)])=some (decide (A++tl w d t<B++tl v e u)):=by
 have q:PyData.eqv (d9 A) (d9 B)=(A==B):=by
  show PyData.eqv (.tuple (A.map row)) (.tuple (B.map row))=_
  rw [show PyData.eqv (.tuple (A.map row)) (.tuple (B.map row))=PyData.eqvAll (A.map row) (B.map row) by simp only [PyData.eqv],a1s]
 have l1:ltv (d9 A) (d9 B)=some (decide (A<B)):=by
  show ltv (.tuple (A.map row)) (.tuple (B.map row))=_
  rw [ltv,a34 h]
 rw [ltv,a0j,q,l1]
 by_cases e1:A=B
 ·subst e1
  rw [if_pos (by simp),a0j,a0j,b8V]
  have k:(A++tl w d t<A++tl v e u)↔tl w d t<tl v e u:=by
   rw [a76 rfl]
   constructor
   ·rintro(k|⟨_,k⟩)
    ·exact absurd k (List.lt_irrefl _)
    ·exact k
   ·exact fun k=> .inr ⟨rfl,k⟩
  have kk:decide (A++tl w d t<A++tl v e u)=decide (tl w d t<tl v e u):=decide_eq_decide.mpr k
  rw [kk]
  by_cases e2:PyData.eqv (T3 w (d:Nat) (t:Nat)) (T3 v (e:Nat) (u:Nat))=true
  ·rw [if_pos e2]
   congr 1
   symm
   rw [decide_eq_false_iff_not,b0q]
   have e3:w=v/\(d:Int)=e/\(t:Int)=u:=by
    simpa [PyData.eqv,PyData.eqvAll] using e2
   obtain⟨rfl,e4,e5⟩:=e3
   rintro(k|⟨_,k|⟨_,k⟩⟩)
   ·exact List.lt_irrefl _ k
   ·lia
   ·lia
  ·rw [if_neg e2]
 ·rw [if_neg (by simpa using e1)]
  congr 1
  rw [decide_eq_decide,a76 h]
  constructor
  ·exact fun k=> .inl k
  ·rintro(k|⟨k,_⟩)
   ·exact k
   ·exact absurd k e1
theorem b1B{K:Nat->List (List Nat)}{bt:Nat->Nat->Bool}{N:Nat}(h:∀i j,i<N->j<N->bt i j=decide (K i<K j)):∀m,m<N->argBest bt m<=m/\∀j,j<=m->¬K j<K (argBest bt m)
 |0,_=>⟨AS _,fun j hj=>by
  have:j=0:=by lia
  subst this
  exact List.lt_irrefl _⟩
 |m+1,hm=>by
  obtain⟨h1,h2⟩:=b1B h m (by lia)
  have hb:=h (m+1) (argBest bt m) hm (by lia)
  simp only [argBest]
  by_cases c:K (m+1)<K (argBest bt m)
  ·rw [hb,decide_eq_true c]
   simp only [if_true]
   refine⟨AS _,fun j hj k=> ?_⟩
   rcases Nat.lt_or_ge j (m+1) with hj'|hj'
   ·exact h2 j (by lia) (List.lt_trans k c)
   ·have:j=m+1:=by lia
    subst this
    exact List.lt_irrefl _ k
  ·rw [hb,decide_eq_false c]
   simp only [Ay,if_false]
   refine⟨by lia,fun j hj=> ?_⟩
   rcases Nat.lt_or_ge j (m+1) with hj'|hj'
   ·exact h2 j (by lia)
   ·have:j=m+1:=by lia
    subst this
    exact c
theorem b4T{ps:List PV}{key:PV->List (List Nat)}(h:∀p∈ps,∀q∈ps,ltv p q=some (decide (key p<key q)))(ok:u4 ps 50=true)(h0:0<ps.length):∃p∈ps,a9K (.own ps)=some (.val p)/\∀q∈ps,¬key q<key p:=by
 have hb:∀i j,i<ps.length->j<ps.length->btV ps i j=decide (key (ps.getD i .none)<key (ps.getD j .none)):=by
  intro i j hi hj
  have e1:ps[i]?=some ps[i]:=Az hi
  have e2:ps[j]?=some ps[j]:=Az hj
  simp only [btV,e1,e2,List.getD,Option.getD_some]
  rw [h _ (List.getElem_mem hi) _ (List.getElem_mem hj)]
  rfl
 obtain⟨g1,g2⟩:=b1B (K:=fun i=>key (ps.getD i .none)) hb (ps.length - 1) (by lia)
 have hlt:argBest (btV ps) (ps.length - 1)<ps.length:=by lia
 refine⟨ps[argBest (btV ps) (ps.length - 1)],List.getElem_mem hlt, ?_,fun q hq=> ?_⟩
 ·show(if _ then _ else _)=_
  rw [if_pos ⟨ok,h0,List.all_eq_true.mpr fun p hp=>List.all_eq_true.mpr fun q hq=>by rw [h p hp q hq];rfl⟩,Az hlt]
  rfl
 ·obtain⟨j,hj,rfl⟩:=List.getElem_of_mem hq
  have:=g2 j (by lia)
  simpa [List.getD,hj,hlt] using this
def a8d:PV->List Nat
 | .str s=>s.cps.toList
 |_=>[]
def key:PV->List (List Nat)
 | .tuple [.tuple rows,.tuple [.str w,.int d,.int t]]=>rows.map a8d++tl w d.toNat t.toNat
 |_=>[]
theorem b8L(A:List (List Nat))(w:Str)(d t:Nat):key (.tuple [d9 A,T3 w (d:Nat) (t:Nat)])=A++tl w d t:=by
 show(A.map row).map a8d++tl w ((d:Nat):Int).toNat ((t:Nat):Int).toNat=_
 rw [tn,tn,Aw]
 congr 1
 have:(a8d∘row)=id:=funext fun l=>M6 l
 rw [this,List.map_id]
abbrev b2j(n:Nat)(f:Nat->Nat->Nat)(w:Str)(d t:Nat):PV:= .tuple [m5 n (mvd n f w (d:Nat) (t:Nat)),T3 w (d:Nat) (t:Nat)]
def b2h(n:Nat)(f:Nat->Nat->Nat):PV->PV
 | .tuple [.str w,.int d,.int t]=> .tuple [m5 n (mvd n f w d t),.tuple [.str w,.int d,.int t]]
 |_=> .none
theorem a3l(n:Nat)(f:Nat->Nat->Nat)(w:Str)(d t:Nat):key (b2j n f w d t)=u7 n (mvd n f w (d:Nat) (t:Nat))++tl w d t:=b8L _ _ _ _
theorem P5(n:Nat)(f:Nat->Nat->Nat):(u7 n f).length=n:=by unfold u7;rw [Ac,At]
theorem a9V{n:Nat}(hn:0<n)(hn8:n<=8)(f:Nat->Nat->Nat):∃w∈m4,∃d t:Nat,d<n/\t<n/\S7 [m5 n f]=some (.val (b2j n f w d t))/\∀w'∈m4,∀d' t':Nat,d'<n->t'<n->¬u7 n (mvd n f w' (d':Nat) (t':Nat))<u7 n (mvd n f w (d:Nat) (t:Nat)):=by
 have hl:=a1c R8 n
 have e8:R8.length=8:=rfl
 have hp:0<n*n:=Nat.mul_pos hn hn
 have hsz:n*n<=8*8:=Nat.mul_le_mul hn8 hn8
 rw [e8] at hl
 have cm:B1 1 (A6 (i6 y8 (a0 (m1 Q1 (a7 0)) b7))) (d5 1) M7 R3 [some (.val (m5 n f))]=some (.own ((A0 R8 n).map (b2h n f))):=by
  refine B2 (ι:=id) (f:=b2h n f) (A0 R8 n) (Q4 (r:= .ow (.lst (A0 R8 n))) (by simp (disch:=omega) only [n6,b9,b6,b0,b5,e7,AH,K4,a9q hn8]) (by rw [List.map_id];rfl)) (by lia) ?_
  intro p hp
  obtain⟨w,hw,d,t,hd,ht,rfl⟩:=G4.mp hp
  refine⟨_,rfl, ?_⟩
  unfold R3
  simp (disch:=omega) only [b9,d4,b6,b0,b5,p0,e7,AH,AZ,AU,Aa,Ad,AX,AY,AT,Ae,↓reduceIte,sz,Nat.reduceAdd,Ah,id_eq,a7G hn hn8 f (a0t.mp hw)]
  rfl
 have mem:∀p∈(A0 R8 n).map (b2h n f),∃w∈m4,∃d t:Nat,d<n/\t<n/\p=b2j n f w d t:=fun p hp=>by
  obtain⟨q,hq,rfl⟩:=Aj.mp hp
  obtain⟨w,hw,d,t,hd,ht,rfl⟩:=G4.mp hq
  exact⟨w,a0t.mp hw,d,t,hd,ht,rfl⟩
 obtain⟨p,hp1,hp2,hp3⟩:=b4T (ps:=(A0 R8 n).map (b2h n f)) (key:=key)
  (fun p hp q hq=>by
   obtain⟨w,_,d,t,_,_,rfl⟩:=mem p hp
   obtain⟨v,_,e,u,_,_,rfl⟩:=mem q hq
   rw [a3l,a3l]
   exact b4P (A:=u7 n (mvd n f w (d:Nat) (t:Nat))) (B:=u7 n (mvd n f v (e:Nat) (u:Nat))) (by rw [P5,P5]) w v d t e u)
  (a5G fun p hp=>by
   obtain⟨w,_,d,t,_,_,rfl⟩:=mem p hp
   have h1:i9 (m5 n (mvd n f w (d:Nat) (t:Nat))) 49=true:=by
    show i9 (.tuple _) 49=true
    simp only [i9]
    exact U7 48 _
   simp [i9,u4,h1])
  (by rw [Ac];lia)
 obtain⟨w,hw,d,t,hd,ht,rfl⟩:=mem p hp1
 refine⟨w,hw,d,t,hd,ht, ?_,fun w' hw' d' t' hd' ht' hlt=> ?_⟩
 ·unfold S7 a24
  simp (disch:=omega) only [n6,f8,v0,f6,j0,AH,AQ,AW,AU,Ak,cm,hp2]
 ·refine hp3 (b2j n f w' d' t') (Aj.mpr ⟨T3 w' (d':Nat) (t':Nat),G4.mpr ⟨w',a0t.mpr hw',d',t',hd',ht',rfl⟩,rfl⟩) ?_
  rw [a3l,a3l,a76 (by rw [P5,P5])]
  exact .inl hlt
section
variable {α:Type}
def ws(A:List α):Nat->List (List α)
 |0=>[[]]
 |k+1=>(ws A k).flatMap fun s=>A.map fun c=>s++[c]
theorem O1{A:List α}:∀{k:Nat} {l:List α},l∈ws A k↔l.length=k/\∀x∈l,x∈A
 |0,l=>by
  unfold ws
  constructor
  ·intro h
   rw [List.mem_singleton.mp h]
   exact⟨rfl,fun x hx=>by cases hx⟩
  ·rintro⟨h,_⟩
   rw [List.eq_nil_of_length_eq_zero h]
   exact List.mem_singleton.mpr rfl
 |k+1,l=>by
  unfold ws
  rw [List.mem_flatMap]
  constructor
  ·rintro⟨s,hs,h⟩
   obtain⟨c,hc,rfl⟩:=Aj.mp h
   obtain⟨h1,h2⟩:=O1.mp hs
   refine⟨by rw [Ar,h1];rfl,fun x hx=> ?_⟩
   rcases BB.mp hx with hx|hx
   ·exact h2 x hx
   ·rw [List.mem_singleton.mp hx];exact hc
  ·rintro⟨h1,h2⟩
   have hne:l≠[]:=fun e=>by rw [e] at h1;cases h1
   have e:=List.dropLast_concat_getLast hne
   refine⟨l.dropLast,O1.mpr ⟨by rw [List.length_dropLast,h1];rfl,fun x hx=>h2 x (List.dropLast_subset _ hx)⟩,Aj.mpr ⟨l.getLast hne,h2 _ (List.getLast_mem hne),e⟩⟩
theorem a4o(A:List α):∀k,(ws A k).length=A.length ^ k
 |0=>rfl
 |k+1=>by
  unfold ws
  rw [List.length_flatMap,Nat.pow_succ,<-a4o A k]
  simp only [Ac,List.map_const',List.sum_replicate_nat]
theorem b4O [LT α]:∀{s t:List α} (X Y:List α),s.length=t.length->s<t->s++X<t++Y
 |[],[],_,_,_,h=>by simp at h
 |[],_::_,_,_,h,_=>by simp at h
 |_::_,[],_,_,h,_=>by simp at h
 |a::s,b::t,X,Y,h,k=>by
  rw [Aa,Aa,List.cons_lt_cons_iff]
  rcases List.cons_lt_cons_iff.mp k with q|⟨rfl,q⟩
  ·exact .inl q
  ·exact .inr ⟨rfl,b4O X Y (by simpa using h) q⟩
theorem b1z [LT α]{c d:α}(h:c<d):∀s:List α,s++[c]<s++[d]
 |[]=>List.cons_lt_cons_iff.mpr (.inl h)
 |_::s=>List.cons_lt_cons_iff.mpr (.inr ⟨rfl,b1z h s⟩)
theorem b5T [LT α]{A:List α}(h:A.Pairwise (· <·)):∀k,(ws A k).Pairwise (· <·)
 |0=>List.pairwise_singleton _ _
 |k+1=>by
  unfold ws
  rw [List.pairwise_flatMap]
  refine⟨fun s _=> ?_, ?_⟩
  ·rw [List.pairwise_map]
   exact h.imp fun k=>b1z k s
  ·refine List.Pairwise.imp_of_mem (fun {a b} ha hb k=> ?_) (b5T h k)
   intro x hx y hy
   obtain⟨c,_,rfl⟩:=Aj.mp hx
   obtain⟨d,_,rfl⟩:=Aj.mp hy
   exact b4O _ _ (by rw [(O1.mp ha).1,(O1.mp hb).1]) k
end
def fA(A:List (List Nat)):Nat->Nat->Nat:=fun r c=>(A.getD r []).getD c 0
def SqA(n:Nat)(A:List (List Nat)):Prop:=A.length=n/\∀l∈A,l.length=n
theorem a9x{n:Nat}{A:List (List Nat)}(h:SqA n A):d9 A=m5 n (fA A):=a9w h.1 h.2
theorem b9A(n:Nat)(f:Nat->Nat->Nat):SqA n (u7 n f):=⟨P5 n f,fun l hl=>by
 obtain⟨r,_,rfl⟩:=Aj.mp hl
 rw [Ac,At]⟩
theorem b7i{a b:List Nat}(h:row a=row b):a=b:=by
 have:=congrArg a8d h
 rwa [show a8d (row a)=a from M6 a,show a8d (row b)=b from M6 b] at this
theorem b2I{A B:List (List Nat)}(h:d9 A=d9 B):A=B:=by
 have h:PyData.tuple (A.map row)= .tuple (B.map row):=h
 injection h with h
 exact List.map_inj_right (fun _ _=>b7i)|>.mp h
theorem a4h{n:Nat}{A:List (List Nat)}(h:SqA n A):u7 n (fA A)=A:=b2I (a9x h).symm
def Of(n:Nat)(f:Nat->Nat->Nat)(A:List (List Nat)):Prop:=∃w∈m4,∃d t:Nat,d<n/\t<n/\A=u7 n (mvd n f w (d:Nat) (t:Nat))
def Lst(n:Nat)(f:Nat->Nat->Nat)(A:List (List Nat)):Prop:=Of n f A/\∀B,Of n f B->¬B<A
theorem Lst.uniq{n:Nat}{f:Nat->Nat->Nat}{A B:List (List Nat)}(h:Lst n f A)(k:Lst n f B):A=B:=List.le_antisymm (h.2 _ k.1) (k.2 _ h.1)
theorem Of.sq{n:Nat}{f:Nat->Nat->Nat}{A:List (List Nat)}(h:Of n f A):SqA n A:=by
 obtain⟨w,_,d,t,_,_,rfl⟩:=h
 exact b9A _ _
theorem Of.congr{n:Nat}(hn:0<n){f g:Nat->Nat->Nat}{A:List (List Nat)}(e:u7 n f=u7 n g)(h:Of n f A):Of n g A:=by
 obtain⟨w,hw,d,t,hd,ht,rfl⟩:=h
 exact⟨w,hw,d,t,hd,ht,b3j hn e hw _ _⟩
theorem Of.tr{n:Nat}(hn:0<n){f g:Nat->Nat->Nat}{A:List (List Nat)}(h:Of n f (u7 n g))(k:Of n g A):Of n f A:=by
 obtain⟨w,hw,d,t,hd,ht,e⟩:=h
 obtain⟨v,hv,a,b,ha,hb,rfl⟩:=k.congr hn e
 obtain⟨z,hz,c,u,hc,hu,e⟩:=b6N hn f hw hv (d:Nat) (t:Nat) (a:Nat) (b:Nat)
 exact⟨z,hz,c,u,hc,hu,e.symm⟩
theorem Of.back{n:Nat}(hn:0<n){f g:Nat->Nat->Nat}(h:Of n f (u7 n g)):Of n g (u7 n f):=by
 obtain⟨w,hw,d,t,hd,ht,e⟩:=h
 refine Of.congr hn e.symm ⟨bwW w,(a5C hw).1,(bd n w d t).toNat,(bt n w d t).toNat, ?_, ?_, ?_⟩
 ·have:=a8E hn (x8 (bwW w) (-(d:Nat)) (-(t:Nat)))
  unfold bd;lia
 ·have:=a8E hn (w8 (bwW w) (-(d:Nat)) (-(t:Nat)))
  unfold bt;lia
 ·have h1:=a8E hn (x8 (bwW w) (-(d:Nat)) (-(t:Nat)))
  have h2:=a8E hn (w8 (bwW w) (-(d:Nat)) (-(t:Nat)))
  rw [Int.toNat_of_nonneg (show 0<=bd n w d t from h1.1),Int.toNat_of_nonneg (show 0<=bt n w d t from h2.1),b4W hn f hw]
theorem Lst.tr{n:Nat}(hn:0<n){f g:Nat->Nat->Nat}{A:List (List Nat)}(h:Of n f (u7 n g))(k:Lst n g A):Lst n f A:=⟨h.tr hn k.1,fun B hB=>k.2 B ((h.back hn).tr hn hB)⟩
theorem a3d{body:MS}{tg:PV->a9->Option a9}{p:PV}{ps:List PV}{ρ ρ1 ρ2:a9}(h1:tg p ρ=some ρ1)(h2:body ρ1=some (.nx ρ2)):N5 body tg (p::ps) ρ=N5 body tg ps ρ2:=by
 rw [N5,h1,AH,h2]
 rfl
section
variable {α β:Type}{f:α->PV}{g:β->PV}{h:α->β->PV}
theorem a9W{x:α}{q0 q1:Option d0}:∀(Y:List β) (acc:List PV) (q4:Option d0),(∀y∈Y,a4G (.val (f x)) (.val (g y))=some (.val (h x y)))->acc.length+Y.length<=16777216->
 ∃q4',N5 a1B (d5 4) (Y.map g) [q0,q1,some (.own acc),some (.val (f x)),q4]=some (.nx [q0,q1,some (.own (acc++Y.map (h x))),some (.val (f x)),q4'])
 |[],acc,q4,_,_=>⟨q4,by rw [AW,AW,Ak];rfl⟩
 |y::Y,acc,q4,k,hl=>by
  rw [AT] at hl
  obtain⟨q,ih⟩:=a9W Y (acc++[h x y]) (some (.val (g y))) (fun z hz=>k z (An _ hz)) (by rw [Ar,List.length_singleton];lia)
  refine⟨q, ?_⟩
  rw [AQ,a3d (ρ1:=[q0,q1,some (.own acc),some (.val (f x)),some (.val (g y))]) (ρ2:=[q0,q1,some (.own (acc++[h x y])),some (.val (f x)),some (.val (g y))]) rfl ?_,ih,List.append_assoc]
  ·rfl
  ·unfold a1B
   exact a1J (r:= .val (h x y)) (p:=h x y) (by simp (disch:=omega) only [g9,b9,d4,AH,k y Aq]) rfl rfl (by lia)
theorem a9X{E:PV}{Y:List β}(hE:b3e (mC E) []=some (Y.map g)){q0:Option d0}:∀(X:List α) (acc:List PV) (q3 q4:Option d0),(∀x∈X,∀y∈Y,a4G (.val (f x)) (.val (g y))=some (.val (h x y)))->acc.length+X.length*Y.length<=16777216->
 ∃q3' q4',N5 a1C (d5 3) (X.map f) [q0,some (.val E),some (.own acc),q3,q4]=some (.nx [q0,some (.val E),some (.own (acc++X.flatMap fun x=>Y.map (h x))),q3',q4'])
 |[],acc,q3,q4,_,_=>⟨q3,q4,by rw [AW,List.flatMap_nil,Ak];rfl⟩
 |x::X,acc,q3,q4,k,hl=>by
  rw [AT,Nat.succ_mul] at hl
  obtain⟨q4',e1⟩:=a9W (f:=f) (h:=h) (x:=x) (q0:=q0) (q1:=some (.val E)) Y acc q4 (k x Aq) (by lia)
  obtain⟨p3,p4,ih⟩:=a9X hE (q0:=q0) X (acc++Y.map (h x)) (some (.val (f x))) q4' (fun z hz=>k z (An _ hz)) (by rw [Ar,Ac];lia)
  refine⟨p3,p4, ?_⟩
  rw [AQ,a3d (ρ1:=[q0,some (.val E),some (.own acc),some (.val (f x)),q4]) rfl ?_,ih,List.append_assoc]
  ·rfl
  ·unfold a1C
   rw [v5,show b3e (a7 1) [q0,some (.val E),some (.own acc),some (.val (f x)),q4]=some (Y.map g) from hE,AH]
   exact e1
theorem a7v{E:PV}{X:List α}{Y:List β}(hE:b3e (mC E) []=some (Y.map g))(k:∀x∈X,∀y∈Y,a4G (.val (f x)) (.val (g y))=some (.val (h x y)))(hl:X.length*Y.length<=16777216):a1x [.list (X.map f),E]=some (.own (X.flatMap fun x=>Y.map (h x))):=by
 obtain⟨q3,q4,e⟩:=a9X hE (q0:=some (.val (.list (X.map f)))) X [] none none k (by rw [Ae];lia)
 unfold a1x a9r
 simp (disch:=omega) only [b9,b6,b5,k4,f7,D5,f9,h9,f6,j0,v5,AH,AQ,AW,AZ,AU,Aa,Ad,AX,AY,Ae,↓reduceIte,D9,E3,a3p,a3q,sz,Ah,e]
end
def L7(m:Nat):List Nat:=(AR m).map (97+·)
theorem a8e{α:Type}(w:List α)(j:Nat):cut w none (some (j:Int))=w.take j:=by
 unfold cut
 rw [HT.sIx_none,HT.sIx_nat,List.drop_zero,Nat.sub_zero]
 by_cases h:j<=w.length
 ·rw [Nat.min_eq_left h]
 ·rw [Nat.min_eq_right (by lia),List.take_of_length_le (AS _),List.take_of_length_le (by lia)]
theorem a54{m:Nat}(h:m<=26):gSl (.val J8) none (some (m:Int))=some (.val (row (L7 m))):=by
 have e:J8= .str (S (L7 26)):=by kernel_rfl
 rw [e,a9M (by decide),a8e]
 unfold L7 row
 rw [<-List.map_take,List.take_range,Nat.min_eq_left h]
theorem b6F(m:Nat):b3e (mC (row (L7 m))) []=some ((L7 m).map fun c=>row [c]):=by
 show some ((S (L7 m)).cps.toList.map fun c=>PyData.str ⟨#[c]⟩)=_
 rw [M6]
 rfl
theorem b5S{α β:Type}(φ:List α->β)(A:List α)(k:Nat):(ws A (k+1)).map φ=(ws A k).flatMap fun s=>A.map fun c=>φ (s++[c]):=by
 show((ws A k).flatMap fun s=>A.map fun c=>s++[c]).map φ=_
 rw [List.map_flatMap]
 simp only [Aw]
 rfl
theorem a7C{i:Nat}{nn:MS}{ρ:a9}{ps:List PV}(h:ρ[i]?=some (some (.ow (.lst ps)))):a43 i nn ρ=nn (ρ.set i (some (.val (.list ps)))):=by
 unfold a43
 rw [h]
theorem b3M{l:List Nat}{c:Nat}(h:l.length<16777216):a4G (.val (row l)) (.val (row [c]))=some (.val (row (l++[c]))):=b6l h
theorem a5x{A:List (List Nat)}{r:List Nat}(h:A.length<16777216):a4G (.val (d9 A)) (.val (.tuple [row r]))=some (.val (d9 (A++[r]))):=by
 cases A with
 |nil=>rfl
 |cons a A=>
  show E5 (.val (.tuple ((a::A).map row))) (.val (.tuple [row r]))=_
  show(if(((a::A).map row).length≠0/\[row r].length≠0)/\((a::A).map row).length+[row r].length<=AO then _ else none)=_
  rw [if_pos]
  ·show _=some (d0.val (.tuple ((a::A++[r]).map row)))
   rw [BF]
   rfl
  ·refine⟨⟨by simp,by simp⟩, ?_⟩
   rw [Ac,sizeLine_eq,List.length_singleton]
   lia
theorem b5h{m n k:Nat}(hm:0<m)(h:k<=n):m ^ k<=m ^ n:=Nat.pow_le_pow_right hm h
def M8(n m:Nat):List (List Nat):=ws (L7 m) n
def D6(n m:Nat):List (List (List Nat)):=ws (M8 n m) n
theorem a3n(m:Nat):(L7 m).length=m:=by
 unfold L7
 rw [Ac,At]
theorem a12(n m:Nat):(D6 n m).length=m ^(n*n):=by
 unfold D6 M8
 rw [a4o,a4o,a3n,Nat.pow_mul]
theorem b0G{n m:Nat}(hn:0<n)(hn8:n<=8)(hm:0<m)(hm26:m<=26)(hN:m ^(n*n)<=600):P0 [.int n,.int m]=some (.own ((D6 n m).map d9)):=by
 have hnn:n<=n*n:=Nat.le_mul_of_pos_left n hn
 have hr:∀i,i<=n->(ws (L7 m) i).length<=600:=fun i hi=>by
  rw [a4o,a3n]
  exact Nat.le_trans (b5h hm (Nat.le_trans hi hnn)) hN
 have hc:∀i,i<=n->(ws (M8 n m) i).length<=600:=fun i hi=>by
  unfold M8
  rw [a4o,a4o,a3n,<-Nat.pow_mul]
  exact Nat.le_trans (b5h hm (Nat.mul_le_mul_left n hi)) hN
 have hR:(M8 n m).length<=600:=hr n (AS n)
 obtain⟨ρ1,e1,q4,rfl⟩:=C3 (body:=N7) (tg:=d5 4) (fun i ρ=>∃q4:Option d0,ρ=[some (.val (.int n)),some (.val (.int m)),some (.own ((ws (L7 m) i).map row)),some (.own [.tuple []]),q4])
  (ps:=G0 0 n) (ρ:=[some (.val (.int n)),some (.val (.int m)),some (.own [.str ""]),some (.own [.tuple []]),none])
  (by
   rintro i p hp ρ ⟨q4,rfl⟩
   obtain⟨rfl,hi⟩:=T4 hp
   have h1:=hr i (by lia)
   have e:=a7v (f:=row) (g:=fun c=>row [c]) (h:=fun l c=>row (l++[c])) (X:=ws (L7 m) i) (Y:=L7 m) (b6F m) (fun l hl c _=>b3M (by have:=(O1.mp hl).1;lia)) (by
    rw [a3n]
    have:=Nat.mul_le_mul h1 hm26
    lia)
   refine P6 rfl (ρ2:=[some (.val (.int n)),some (.val (.int m)),some (.own ((ws (L7 m) (i+1)).map row)),some (.own [.tuple []]),some (.val (.int ((0:Int)+(i:Int))))]) ?_ ⟨_,rfl⟩
   unfold N7
   rw [a7C rfl]
   simp (disch:=omega) only [g0,b9,d4,b6,b0,b5,e7,f7,D5,AH,AX,AY,A3,A4,E4,P3,a54 hm26,e]
   rw [b5S]) ⟨none,rfl⟩
 rw [C1,show((n:Int) - 0).toNat=n by lia] at e1
 obtain⟨ρ2,e2,q4',rfl⟩:=C3 (body:=N8) (tg:=d5 4) (fun i ρ=>∃q4:Option d0,ρ=[some (.val (.int n)),some (.val (.int m)),some (.own ((M8 n m).map row)),some (.own ((ws (M8 n m) i).map d9)),q4])
  (ps:=G0 0 n) (ρ:=[some (.val (.int n)),some (.val (.int m)),some (.own ((M8 n m).map row)),some (.own [.tuple []]),q4])
  (by
   rintro i p hp ρ ⟨q4,rfl⟩
   obtain⟨rfl,hi⟩:=T4 hp
   have h1:=hc i (by lia)
   have cm:∀q3:Option d0,B1 1 (A6 (a7 2)) (d5 5) M7 N9 [some (.val (.int n)),some (.val (.int m)),some (.own ((M8 n m).map row)),q3,some (.val (.int ((0:Int)+(i:Int))))]=some (.own ((M8 n m).map fun r=> .tuple [row r])):=fun q3=>by
    refine B2 (ι:=row) (f:=fun r=> .tuple [row r]) (M8 n m) (Q4 (r:= .bor ((M8 n m).map row)) rfl rfl) (by lia) ?_
    intro r _
    refine⟨_,rfl, ?_⟩
    unfold N9
    simp (disch:=omega) only [b9,d4,b6,b0,b5,p0,AH,AZ,AU,Aa,Ad,AX,AY,AT,Ae,↓reduceIte,sz,Nat.reduceAdd,Ah]
   have e:=a7v (f:=d9) (g:=fun r=> .tuple [row r]) (h:=fun A r=>d9 (A++[r])) (X:=ws (M8 n m) i) (Y:=M8 n m) (E:= .list ((M8 n m).map fun r=> .tuple [row r])) rfl (fun A hA r _=>a5x (by have:=(O1.mp hA).1;lia)) (by
    have:=Nat.mul_le_mul h1 hR
    lia)
   refine P6 rfl (ρ2:=[some (.val (.int n)),some (.val (.int m)),some (.own ((M8 n m).map row)),some (.own ((ws (M8 n m) (i+1)).map d9)),some (.val (.int ((0:Int)+(i:Int))))]) ?_ ⟨_,rfl⟩
   unfold N8
   rw [a7C rfl]
   simp (disch:=omega) only [b9,d4,b6,b0,b5,J7,e7,f7,D5,AH,AX,AY,cm,e]
   rw [b5S]) ⟨q4,rfl⟩
 rw [C1,show((n:Int) - 0).toNat=n by lia] at e2
 unfold P0 a2n
 rw [show M8 n m=ws (L7 m) n from rfl] at e2
 simp (disch:=omega) only [g0,b9,b6,b0,b5,p0,k4,f7,D5,f9,h9,f6,j0,v5,C5,P4,AH,AQ,AW,AZ,AU,Aa,Ad,AX,AY,AT,Ae,↓reduceIte,a3p,a3q,sz,Nat.reduceAdd,Ah,e1,e2]
 rfl
def b5Y(n:MX):FX->Option FX
 | .fl (.nx ρ)=>n ρ
 |f=>some f
def b9U(m n:MX)(ρ:a9)(b:Bool):Option FX:=if b=true then m ρ else n ρ
def c0D:FX->Option (d0 ⊕ XT)
 | .fl (.rt r)=>some (.inl r)
 | .fl (.nx _)=>some (.inl (.val .none))
 | .rz c _=>some (.inr c)
 |_=>none
theorem C6(m n:MX)(ρ:a9):a4P m n ρ=(m ρ).bind (b5Y n):=Eq.trans rfl rfl
theorem W4(n:MX)(ρ:a9):b5Y n (.fl (.nx ρ))=n ρ:=Eq.trans rfl rfl
theorem a10(n:MX)(c:XT)(ρ:a9):b5Y n (.rz c ρ)=some (.rz c ρ):=Eq.trans rfl rfl
theorem a0k(c:MT)(m n:MX)(ρ:a9):b3k c m n ρ=(c ρ).bind (b9U m n ρ):=Eq.trans rfl rfl
theorem b1r(m n:MX)(ρ:a9):b9U m n ρ true=m ρ:=Eq.trans rfl rfl
theorem b1q(m n:MX)(ρ:a9):b9U m n ρ false=n ρ:=Eq.trans rfl rfl
theorem a0l(m:MS)(ρ:a9):a2M m ρ=(m ρ).map .fl:=Eq.trans rfl rfl
theorem b4X(c:Str)(p:PV)(ρ:a9):b6Q c (a0 (mC p) b7) ρ=some (.rz ⟨c,[]⟩ ρ):=by
 unfold b6Q
 simp (disch:=omega) only [g0,b6,b0,b5,AH,AT,Ae,↓reduceIte,sz,Nat.reduceAdd,Ah]
theorem G6(n:Nat)(b:MX)(ps:List PV):b0i n b ps=(b (ps.map (fun p=>some (d0.val p))++AV n none)).bind c0D:=Eq.trans rfl rfl
theorem b2d{i:Nat}{g:List PV->Option (d0 ⊕ XT)}{m:MA}{ρ:a9}{ps:List PV}{p:PV}(h1:m ρ=some ps)(h2:g ps=some (.inl (.val p))):S2 i g m ρ=some (.fl (.nx (ρ.set i (some (.val p))))):=by
 unfold S2 a4D
 rw [h1,AH,h2]
 rfl
theorem a5l{i:Nat}{g:List PV->Option (d0 ⊕ XT)}{m:MA}{ρ:a9}{ps:List PV}{c:XT}(h1:m ρ=some ps)(h2:g ps=some (.inr c)):S2 i g m ρ=some (.rz c ρ):=by
 unfold S2 a4D
 rw [h1,AH,h2]
 rfl
theorem b6P{g:List PV->Option (d0 ⊕ XT)}{m:MA}{ρ:a9}{ps:List PV}{c:XT}(h1:m ρ=some ps)(h2:g ps=some (.inr c)):a58 g m ρ=some (.rz c ρ):=by
 unfold a58 a4D
 rw [h1,AH,h2]
 rfl
theorem a7D{b:MX}{i:Nat}{inm:Str->Bool}{hd:MS}{ρ:a9}{f:Fl}(h:b ρ=some (.fl f)):R4 b i inm hd ρ=some f:=by
 unfold R4
 rw [h];rfl
theorem a7E{b:MX}{i:Nat}{inm:Str->Bool}{hd:MS}{ρ ρ':a9}{c:XT}(h:b ρ=some (.rz c ρ'))(hc:inm c.cls=true):R4 b i inm hd ρ=(hd (ρ'.set i (some (.val (xcV c))))).map (a8m i):=by
 unfold R4
 rw [h,AH]
 exact if_pos hc
theorem b6O{g:List PV->Option (d0 ⊕ XT)}{m:MA}{ρ:a9}{ps:List PV}{r:d0}(h1:m ρ=some ps)(h2:g ps=some (.inl r)):a58 g m ρ=some (.fl (.nx ρ)):=by
 unfold a58 a4D
 rw [h1,AH,h2]
 rfl
theorem a8G{i:Nat}{g:List PV->Option (d0 ⊕ XT)}{m:MA}{ρ:a9}{ps:List PV}{qs:List PV}(h1:m ρ=some ps)(h2:g ps=some (.inl (.own qs))):S2 i g m ρ=some (.fl (.nx (ρ.set i (some (.own qs))))):=by
 unfold S2 a4D
 rw [h1,AH,h2]
 rfl
theorem b5K{m:Nat}(hm:m<=26){k:Nat}(hk:k<=100):L4 [.int m,.int k]=some (.val (.int ((m ^ k:Nat):Int))):=by
 obtain⟨ρ1,e1,q3,rfl⟩:=C3 (body:=L6) (tg:=d5 3) (fun i ρ=>∃q3:Option d0,ρ=[some (.val (.int m)),some (.val (.int k)),some (.val (.int ((m ^ i:Nat):Int))),q3])
  (ps:=G0 0 k) (ρ:=[some (.val (.int m)),some (.val (.int k)),some (.val (.int 1)),none])
  (by
   rintro i p hp ρ ⟨q3,rfl⟩
   obtain⟨rfl,hi⟩:=T4 hp
   refine P6 rfl (ρ2:=[some (.val (.int m)),some (.val (.int k)),some (.val (.int ((m ^(i+1):Nat):Int))),some (.val (.int ((0:Int)+(i:Int))))]) ?_ ⟨_,rfl⟩
   unfold L6
   rw [Nat.pow_succ,Int.natCast_mul]
   show((M5 a4X (fun i j=> .int (i*j)) (.val (.int ((m ^ i:Nat):Int))) (.val (.int (m:Int)))).bind fun z=>if z.nb=true then some (Fl.nx ([some (.val (.int m)),some (.val (.int k)),some (.val (.int ((m ^ i:Nat):Int))),some (.val (.int ((0:Int)+(i:Int))))].set 2 (some z))) else none)=_
   rw [a15 _ (show a4X _ _ from .inr (by constructor<;>lia))]
   rfl) ⟨none,rfl⟩
 rw [C1,show((k:Int) - 0).toNat=k by lia] at e1
 unfold L4 a1h
 simp (disch:=omega) only [g0,b9,d4,b6,b0,b5,f7,t5,f9,h9,f6,j0,v5,C5,P4,AH,AQ,AW,AZ,AU,Aa,Ad,AX,AY,a3p,a3q,e1]
abbrev tlX(N:Int):XT:=⟨"TooLarge",[(.str "many",.int N)]⟩
theorem b4m{n m:Nat}(hn8:n<=8)(hm:m<=26):(m ^(n*n)<=600/\∃r,v8 [.int n,.int m]=some (.inl r))\/(600<m ^(n*n)/\v8 [.int n,.int m]=some (.inr (tlX ((m ^(n*n):Nat):Int)))):=by
 have hnn:n*n<=8*8:=Nat.mul_le_mul hn8 hn8
 have ht:=b5K hm (k:=n*n) (by lia)
 rw [Int.natCast_mul] at ht
 have hv:M2= .int 600:=rfl
 by_cases h:600<m ^(n*n)
 ·right
  have h':(600:Int)<((m ^(n*n):Nat):Int):=by lia
  refine⟨h, ?_⟩
  unfold v8 a1f
  rw [G6]
  simp (disch:=omega) only [a30,S6,g9,g0,b9,d4,b6,b0,b5,e7,f7,t5,r6,v7,AH,Av,AQ,AW,AZ,AU,Aa,Ad,AX,AY,C6,a0l,ht,W4,a0k,hv,decide_eq_true h',b1r]
  rfl
 ·left
  have h':¬(600:Int)<((m ^(n*n):Nat):Int):=by lia
  refine⟨by lia, ?_⟩
  refine⟨.val .none, ?_⟩
  unfold v8 a1f
  rw [G6]
  simp (disch:=omega) only [a30,S6,g9,g0,b9,d4,b6,b0,b5,e7,f7,t5,o9,r6,v7,AH,Av,AQ,AW,AZ,AU,Aa,Ad,AX,AY,C6,a0l,ht,W4,a0k,hv,decide_eq_false h',b1q]
  rfl
def kc(R:List (List Nat)):List m3:=R.map fun l=>Sum.inr (S l)
theorem b4K:∀{A B:List (List Nat)},kc A=kc B->A=B
 |[],[],_=>rfl
 |[],_::_,h=>by simp [kc] at h
 |_::_,[],h=>by simp [kc] at h
 |a::A,b::B,h=>by
  unfold kc at h
  rw [AQ,AQ] at h
  injection h with h1 h2
  rw [b7H (Sum.inr.inj h1),b4K (A:=A) (B:=B) h2]
theorem a7s:∀R:List (List Nat),keysOf (R.map row)=some (kc R)
 |[]=>rfl
 |a::R=>by
  rw [AQ]
  unfold keysOf
  rw [a7s R]
  rfl
theorem a9T{n:Nat}(hn:0<n)(h5:n<=5)(f:Nat->Nat->Nat):a4I (.val (m5 n f))=some (kc (u7 n f)):=by
 show(keysOf ((u7 n f).map row)).bind _=_
 rw [a7s,AH]
 have hl:(kc (u7 n f)).length=n:=by unfold kc u7;simp
 have ha:(kc (u7 n f)).all (b5B n)=true:=by
  refine List.all_eq_true.mpr fun k hk=> ?_
  unfold kc u7 at hk
  rw [Aw] at hk
  obtain⟨r,_,rfl⟩:=Aj.mp hk
  show((S ((AR n).map fun c=>f r c)).length==n)=true
  rw [a2k];simp
 have hm:a5Y (kc (u7 n f))=true:=by
  unfold a5Y
  rw [hl,ha]
  have:n=1\/n=2\/n=3\/n=4\/n=5:=by lia
  rcases this with h|h|h|h|h<;>simp [h]
 rw [if_pos hm]
theorem Of.refl{n:Nat}(hn:0<n)(f:Nat->Nat->Nat):Of n f (u7 n f):=by
 have h:Of n f (u7 n (mvd n f (AK "stay") ((0:Nat):Nat) ((0:Nat):Nat))):=⟨_,b5F,0,0,hn,hn,rfl⟩
 exact h.tr hn (h.back hn)
theorem a9u{n m:Nat}{f:Nat->Nat->Nat}(h:∀r c:Nat,r<n->c<n->f r c∈L7 m):u7 n f∈D6 n m:=by
 refine O1.mpr ⟨P5 n f,fun l hl=> ?_⟩
 obtain⟨r,hr,rfl⟩:=Aj.mp hl
 refine O1.mpr ⟨by rw [Ac,At],fun x hx=> ?_⟩
 obtain⟨c,hc,rfl⟩:=Aj.mp hx
 exact h r c (List.mem_range.mp hr) (List.mem_range.mp hc)
theorem Z8{n m:Nat}{A:List (List Nat)}(h:A∈D6 n m):SqA n A:=⟨(O1.mp h).1,fun l hl=>(O1.mp ((O1.mp h).2 l hl)).1⟩
theorem a9t{n m:Nat}{A:List (List Nat)}(h:A∈D6 n m){r c:Nat}(hr:r<n)(hc:c<n):fA A r c∈L7 m:=by
 obtain⟨h1,h2⟩:=Z8 h
 have hr':r<A.length:=by lia
 have e:A.getD r []=A[r]:=by simp [List.getD,hr']
 have hl:=h2 A[r] (List.getElem_mem hr')
 have hc':c<A[r].length:=by lia
 have e2:A[r].getD c 0=A[r][c]:=by simp [List.getD,hc']
 show(A.getD r []).getD c 0∈L7 m
 rw [e,e2]
 exact(O1.mp ((O1.mp h).2 A[r] (List.getElem_mem hr'))).2 _ (List.getElem_mem hc')
theorem a8J{n m:Nat}(hn:0<n){f:Nat->Nat->Nat}{B:List (List Nat)}(h:∀r c:Nat,r<n->c<n->f r c∈L7 m)(k:Of n f B):B∈D6 n m:=by
 obtain⟨w,hw,d,t,hd,ht,rfl⟩:=k
 refine a9u fun r c hr hc=> ?_
 obtain⟨⟨b1,b2⟩,b3,b4⟩:=a53 (n:=(n:Int)) (by lia) (bwW w) (bd n w d t) (bt n w d t) r c
 exact h _ _ (by lia) (by lia)
theorem b8U(m:Nat):(L7 m).Pairwise (· <·):=by
 unfold L7
 rw [List.pairwise_map]
 exact List.pairwise_lt_range.imp fun h=>by lia
theorem b3T(n m:Nat):(D6 n m).Pairwise (· <·):=b5T (b5T (b8U m) n) n
theorem b0X{n:Nat}(hn:0<n)(hn8:n<=8)(f:Nat->Nat->Nat):∃A,Lst n f A:=by
 obtain⟨w,hw,d,t,hd,ht,_,h⟩:=a9V hn hn8 f
 refine⟨_,⟨w,hw,d,t,hd,ht,rfl⟩,fun B hB=> ?_⟩
 obtain⟨v,hv,a,b,ha,hb,rfl⟩:=hB
 exact h v hv a b ha hb
def Own(n:Nat)(A:List (List Nat)):Prop:=Lst n (fA A) A
open Classical in
def frm(n:Nat)(P:List (List (List Nat))):List (List (List Nat)):=P.filter fun A=>decide (Own n A)
open Classical in
theorem a8C{n:Nat}{P:List (List (List Nat))}{A:List (List Nat)}:A∈frm n P↔A∈P/\Own n A:=by
 unfold frm
 rw [List.mem_filter,decide_eq_true_iff]
theorem b1h{n:Nat}(hn:0<n){f:Nat->Nat->Nat}{A:List (List Nat)}(h:Lst n f A):Own n A:=by
 have e:=a4h h.1.sq
 have k:Of n f (u7 n (fA A)):=by rw [e];exact h.1
 exact Lst.tr hn (k.back hn) h
theorem b6K{n m:Nat}(hn:0<n)(hn8:n<=8){P R:List (List (List Nat))}{A:List (List Nat)}(hC:D6 n m=P++A::R):(∃B∈frm n P,Of n (fA B) A)↔¬Own n A:=by
 have up:=b3T n m
 rw [hC,List.pairwise_append,List.pairwise_cons] at up
 obtain⟨_,⟨u1,_⟩,u2⟩:=up
 have hA:A∈D6 n m:=by rw [hC];simp
 have eA:=a4h (Z8 hA)
 constructor
 ·rintro⟨B,hB,h⟩ k
  obtain⟨hP,_⟩:=a8C.mp hB
  have hB':B∈D6 n m:=by rw [hC];simp [hP]
  have eB:=a4h (Z8 hB')
  have h':Of n (fA B) (u7 n (fA A)):=by rw [eA];exact h
  have:=h'.back hn
  rw [eB] at this
  exact k.2 B this (u2 B hP A Aq)
 ·intro h
  obtain⟨B,hB⟩:=b0X hn hn8 (fA A)
  have hBm:B∈D6 n m:=a8J hn (fun r c hr hc=>a9t hA hr hc) hB.1
  have eB:=a4h (Z8 hBm)
  have nlt:¬A<B:=hB.2 A (by have:=Of.refl hn (fA A);rwa [eA] at this)
  have hne:A≠B:=fun e=>h (by subst e;exact hB)
  have hP:B∈P:=by
   rw [hC] at hBm
   rcases BB.mp hBm with k|k
   ·exact k
   ·rcases Ag.mp k with k|k
    ·exact absurd k.symm hne
    ·exact absurd (u1 B k) nlt
  refine⟨B,a8C.mpr ⟨hP,b1h hn hB⟩, ?_⟩
  have h1:Of n (fA A) (u7 n (fA B)):=by rw [eB];exact hB.1
  have:=h1.back hn
  rwa [eA] at this
def Kd(n:Nat)(D:List (List m3×PV))(F:List (List (List Nat))):Prop:=∀B:List (List Nat),(A5 D (kc B)).isSome=true↔∃A∈F,Of n (fA A) B
theorem b1U{n:Nat}(hn:0<n)(h5:n<=5)(f:Nat->Nat->Nat){q0 q1 q2 q3:Option d0}:∀(ps:List PV) (D:List (List m3×PV)) (q6:Option d0),(∀p∈ps,∃w∈m4,∃d t:Nat,p=T3 w (d:Nat) (t:Nat))->D.length+ps.length<16777216->
 ∃(D':List (List m3×PV)) (q6':Option d0),D'.length<=D.length+ps.length/\(∀B,(A5 D' (kc B)).isSome=true↔(A5 D (kc B)).isSome=true\/∃(w:Str) (d t:Nat),T3 w (d:Nat) (t:Nat)∈ps/\B=u7 n (mvd n f w (d:Nat) (t:Nat)))/\
  N5 V1 (d5 6) ps [q0,q1,q2,q3,some (.ow (.dct D)),some (.val (m5 n f)),q6]=some (.nx [q0,q1,q2,q3,some (.ow (.dct D')),some (.val (m5 n f)),q6'])
 |[],D,q6,_,_=>⟨D,q6,AS _,fun B=>by simp,rfl⟩
 |p::ps,D,q6,h,hl=>by
  rw [AT] at hl
  obtain⟨w,hw,d,t,rfl⟩:=h p Aq
  have hp:=b0d D (kc (u7 n (mvd n f w (d:Nat) (t:Nat)))) (.bool true)
  obtain⟨D',q6',h1,h2,h3⟩:=b1U hn h5 f (q0:=q0) (q1:=q1) (q2:=q2) (q3:=q3) ps (a6o D (kc (u7 n (mvd n f w (d:Nat) (t:Nat)))) (.bool true)) (some (.val (T3 w (d:Nat) (t:Nat)))) (fun x hx=>h x (An _ hx)) (by lia)
  refine⟨D',q6',by rw [AT];lia,fun B=> ?_, ?_⟩
  ·rw [h2,a6J]
   by_cases e:kc (u7 n (mvd n f w (d:Nat) (t:Nat)))=kc B
   ·rw [if_pos e]
    exact⟨fun _=> .inr ⟨w,d,t,Aq,(b4K e).symm⟩,fun _=> .inl rfl⟩
   ·rw [if_neg e]
    constructor
    ·rintro(k|⟨w',d',t',k,rfl⟩)
     ·exact .inl k
     ·exact .inr ⟨w',d',t',An _ k,rfl⟩
    ·rintro(k|⟨w',d',t',k,rfl⟩)
     ·exact .inl k
     ·rcases Ag.mp k with k|k
      ·injection k with k
       injection k with k1 k
       injection k with k2 k
       injection k with k3 _
       injection k1 with k1
       injection k2 with k2
       injection k3 with k3
       subst k1
       rw [k2,k3] at e
       exact absurd rfl e
      ·exact .inr ⟨w',d',t',k,rfl⟩
  ·rw [a3d (ρ1:=[q0,q1,q2,q3,some (.ow (.dct D)),some (.val (m5 n f)),some (.val (T3 w (d:Nat) (t:Nat)))]) (ρ2:=[q0,q1,q2,q3,some (.ow (.dct (a6o D (kc (u7 n (mvd n f w (d:Nat) (t:Nat)))) (.bool true)))),some (.val (m5 n f)),some (.val (T3 w (d:Nat) (t:Nat)))]) rfl ?_,h3]
   unfold V1
   simp (disch:=omega) only [g0,b9,d4,b6,b0,b5,e7,AH,a4L,a7G hn (by lia:n<=8) f hw,a9T hn h5]
   rw [a9B rfl (by lia)]
   rfl
theorem b1V(n:Nat)(P Q:List (List (List Nat))):frm n (P++Q)=frm n P++frm n Q:=List.filter_append ..
open Classical in
theorem a8p(n:Nat)(A:List (List Nat)):frm n [A]=if Own n A then [A] else []:=by
 unfold frm
 rw [List.filter_cons,List.filter_nil]
 by_cases h:Own n A<;>simp [h]
theorem a8o{n m:Nat}(hn:0<n)(h5:n<=5){q0 q1:Option d0}:∀(R P:List (List (List Nat))) (D:List (List m3×PV)) (q2 q5 q6:Option d0),D6 n m=P++R->(q2=some (.own (A0 R8 n))\/q2=some (.val (.list (A0 R8 n))))->Kd n D (frm n P)->D.length<=200*P.length->P.length+R.length<=600->
 ∃(D':List (List m3×PV)) (q2' q5' q6':Option d0),N5 E2 (d5 5) (R.map d9) [q0,q1,q2,some (.own ((frm n P).map d9)),some (.ow (.dct D)),q5,q6]=some (.nx [q0,q1,q2',some (.own ((frm n (P++R)).map d9)),some (.ow (.dct D')),q5',q6'])
 |[],P,D,q2,q5,q6,_,_,_,_,_=>⟨D,q2,q5,q6,by rw [Ak];rfl⟩
 |A::R,P,D,q2,q5,q6,hC,h2,hD,hl,hN=>by
  rw [AT] at hN
  have hA:A∈D6 n m:=by rw [hC];simp
  have hs:=Z8 hA
  have mo:=b6K hn (by lia:n<=8) hC
  have hC':D6 n m=(P++[A])++R:=by rw [hC];simp
  have hf:(frm n P).length<=P.length:=List.length_filter_le ..
  have ec:=a9x hs
  have kk:=a9T hn h5 (fA A)
  rw [a4h hs] at kk
  by_cases k:Own n A
  ·have hv:(A5 D (kc A)).isSome=false:=by
    rw [Bool.eq_false_iff]
    exact fun z=>mo.mp ((hD A).mp z) k
   have e1:frm n (P++[A])=frm n P++[A]:=by rw [b1V,a8p,if_pos k]
   have hal:(A0 R8 n).length<=200:=by
    rw [a1c,show R8.length=8 from rfl]
    have:n*n<=5*5:=Nat.mul_le_mul h5 h5
    lia
   obtain⟨D1,p6,g1,g2,g3⟩:=b1U hn h5 (fA A) (q0:=q0) (q1:=q1) (q2:=some (.val (.list (A0 R8 n)))) (q3:=some (.own ((frm n (P++[A])).map d9))) (A0 R8 n) D q6 (fun p hp=>by
    obtain⟨w,hw,d,t,_,_,rfl⟩:=G4.mp hp
    exact⟨w,a0t.mp hw,d,t,rfl⟩) (by lia)
   obtain⟨D',p2,p5,p6',ih⟩:=a8o hn h5 (q0:=q0) (q1:=q1) R (P++[A]) D1 (some (.val (.list (A0 R8 n)))) (some (.val (d9 A))) p6 hC' (.inr rfl) (fun B=>by
    rw [g2,hD B,e1]
    constructor
    ·rintro(⟨X,hX,h⟩|⟨w,d,t,h,rfl⟩)
     ·exact⟨X,BH _ hX,h⟩
     ·obtain⟨w',hw,d',t',hd,ht,e⟩:=G4.mp h
      injection e with e
      injection e with k1 e
      injection e with k2 e
      injection e with k3 _
      injection k1 with k1
      injection k2 with k2
      injection k3 with k3
      subst k1
      have k2:d=d':=by lia
      have k3:t=t':=by lia
      subst k2;subst k3
      exact⟨A,by simp,w,a0t.mp hw,d,t,hd,ht,rfl⟩
    ·rintro⟨X,hX,h⟩
     rcases BB.mp hX with hX|hX
     ·exact .inl ⟨X,hX,h⟩
     ·rw [List.mem_singleton.mp hX] at h
      obtain⟨w,hw,d,t,hd,ht,rfl⟩:=h
      exact .inr ⟨w,d,t,G4.mpr ⟨w,a0t.mpr hw,d,t,hd,ht,rfl⟩,rfl⟩) (by rw [Ar,List.length_singleton];lia) (by rw [Ar,List.length_singleton];lia)
   refine⟨D',p2,p5,p6', ?_⟩
   rw [AQ,a3d (ρ1:=[q0,q1,q2,some (.own ((frm n P).map d9)),some (.ow (.dct D)),some (.val (d9 A)),q6]) (ρ2:=[q0,q1,some (.val (.list (A0 R8 n))),some (.own ((frm n (P++[A])).map d9)),some (.ow (.dct D1)),some (.val (d9 A)),p6]) rfl ?_,ih]
   ·rw [List.append_assoc];rfl
   ·unfold E2
    rw [ec]
    have ap:S9 3 (a7 5) [q0,q1,q2,some (.own ((frm n P).map d9)),some (.ow (.dct D)),some (.val (m5 n (fA A))),q6]=some (.nx [q0,q1,q2,some (.own ((frm n (P++[A])).map d9)),some (.ow (.dct D)),some (.val (m5 n (fA A))),q6]):=by
     rw [a1J (r:= .val (m5 n (fA A))) (p:=m5 n (fA A)) rfl rfl rfl (by rw [Ac];lia),e1,BF,<-ec]
     rfl
    have fz:∀nn:MS,a43 2 nn [q0,q1,q2,some (.own ((frm n (P++[A])).map d9)),some (.ow (.dct D)),some (.val (m5 n (fA A))),q6]=nn [q0,q1,some (.val (.list (A0 R8 n))),some (.own ((frm n (P++[A])).map d9)),some (.ow (.dct D)),some (.val (m5 n (fA A))),q6]:=fun nn=>by
     rcases h2 with rfl|rfl<;>rfl
    simp (disch:=omega) only [b9,d4,b5,f9,h9,o8,a3k,r6,v7,v5,AH,↓reduceIte,Bool.not_false,D9,E3,a7A,kk,b38,b37,hv,ap,fz,g3]
  ·have hv:(A5 D (kc A)).isSome=true:=(hD A).mpr (mo.mpr k)
   have e1:frm n (P++[A])=frm n P:=by rw [b1V,a8p,if_neg k,Ak]
   obtain⟨D',p2,p5,p6',ih⟩:=a8o hn h5 (q0:=q0) (q1:=q1) R (P++[A]) D q2 (some (.val (d9 A))) q6 hC' h2 (by rw [e1];exact hD) (by rw [Ar,List.length_singleton];lia) (by rw [Ar,List.length_singleton];lia)
   refine⟨D',p2,p5,p6', ?_⟩
   rw [e1] at ih
   rw [AQ,a3d (ρ1:=[q0,q1,q2,some (.own ((frm n P).map d9)),some (.ow (.dct D)),some (.val (d9 A)),q6]) (ρ2:=[q0,q1,q2,some (.own ((frm n P).map d9)),some (.ow (.dct D)),some (.val (d9 A)),q6]) rfl ?_,ih]
   ·rw [List.append_assoc];rfl
   ·unfold E2
    rw [ec]
    simp (disch:=omega) only [b9,d4,o8,X5,o9,r6,v7,AH,↓reduceIte,Bool.not_true,a7A,kk,b38,b37,hv]
abbrev FX0(n m:Nat):List (List (List Nat)):=frm n (D6 n m)
theorem a1u{n m:Nat}(hn:0<n)(h5:n<=5)(hm:0<m)(hm26:m<=26)(hN:m ^(n*n)<=600):k6 [.int n,.int m]=some (.inl (.own ((FX0 n m).map d9))):=by
 have hl:=a12 n m
 obtain⟨D',p2,p5,p6,e⟩:=a8o hn h5 (m:=m) (q0:=some (.val (.int n))) (q1:=some (.val (.int m))) (D6 n m) [] [] (some (.own (A0 R8 n))) none none rfl (.inl rfl) (fun B=>by
  constructor
  ·intro h;cases h
  ·rintro⟨A,hA,_⟩;cases hA) (Nat.zero_le _) (by rw [Ae];lia)
 have hf:∃r,v8 [.int n,.int m]=some (.inl r):=by
  rcases b4m (by lia:n<=8) hm26 with⟨_,h⟩|⟨h,_⟩
  ·exact h
  ·lia
 obtain⟨r,hf⟩:=hf
 have ex:=b6O (g:=v8) (m:=a0 (a7 0) (a0 (a7 1) b7)) (ρ:=[some (.val (.int n)),some (.val (.int m)),none,none,none,none,none]) (ps:=[.int n,.int m]) (by simp (disch:=omega) only [b9,d4,b6,b0,b5,AH]) hf
 have ac:=b0G hn (by lia:n<=8) hm hm26 hN
 have am:=a9q (by lia:n<=8)
 unfold k6 a1e
 rw [G6]
 simp (disch:=omega) only [b9,d4,b6,b0,b5,J7,k4,e7,f7,f9,h9,v5,AH,AQ,AW,AZ,AU,Aa,Ad,AX,AY,Ae,↓reduceIte,D9,E3,sz,Ah,C6,ex,W4,a0l,am,a7B,b3P,ac]
 rw [show N5 E2 (d5 5) ((D6 n m).map d9) [some (.val (.int n)),some (.val (.int m)),some (.ow (.lst (A0 R8 n))),some (.ow (.lst [])),some (.ow (.dct [])),none,none]=_ from e]
 rfl
theorem a7l{n m:Nat}(hn8:n<=8)(hm26:m<=26)(hN:600<m ^(n*n)):k6 [.int n,.int m]=some (.inr (tlX ((m ^(n*n):Nat):Int))):=by
 have hf:v8 [.int n,.int m]=some (.inr (tlX ((m ^(n*n):Nat):Int))):=by
  rcases b4m hn8 hm26 with⟨h,_⟩|⟨_,h⟩
  ·lia
  ·exact h
 have ex:=b6P (g:=v8) (m:=a0 (a7 0) (a0 (a7 1) b7)) (ρ:=[some (.val (.int n)),some (.val (.int m)),none,none,none,none,none]) (ps:=[.int n,.int m]) (by simp (disch:=omega) only [b9,d4,b6,b0,b5,AH]) hf
 unfold k6 a1e
 rw [G6]
 simp (disch:=omega) only [AH,AQ,AW,AZ,AU,Aa,Ad,C6,ex,a10]
 rfl
theorem a0g:∀R:List (List Nat),a3j [] R=R.flatten
 |[]=>rfl
 |[a]=>by simp [a3j]
 |a::b::R=>by
  have:=a0g (b::R)
  simp only [a3j,List.flatten_cons,Ak] at this ⊢
  rw [this]
theorem b6y{A:List (List Nat)}(h:A.flatten.length<=10000):V0 (.val (.str (AK ""))) (.val (d9 A))=some (.val (row A.flatten)):=by
 rw [show AK ""=S [] from rfl,a2D (rows:=A) rfl,a0g]
 rw [<-List.length_flatten]
 simp only [Ae,Nat.mul_zero]
 lia
theorem a88(T:List Nat):m8 (S T)=T.map fun x=>S [x]:=by
 unfold m8
 rw [M6]
 rfl
def hdS(z:Str):Nat:=z.cps.toList.headD 0
theorem b2f{T:List Nat}{zs:List Str}(h:∀z,z∈zs->z∈T.map fun x=>S [x]):zs=(zs.map hdS).map fun x=>S [x]:=by
 rw [Aw]
 refine(List.map_id zs).symm.trans (List.map_congr_left fun z hz=> ?_)
 obtain⟨x,_,rfl⟩:=Aj.mp (h z hz)
 show S [x]=S [(S [x]).cps.toList.headD 0]
 rw [M6]
 rfl
theorem b4A{T:List Nat}{zs:List Str}(h:∀z,z∈zs↔z∈T.map fun x=>S [x])(x:Nat):x∈zs.map hdS↔x∈T:=by
 constructor
 ·intro hx
  obtain⟨z,hz,rfl⟩:=Aj.mp hx
  obtain⟨y,hy,rfl⟩:=Aj.mp ((h z).mp hz)
  show(S [y]).cps.toList.headD 0∈T
  rw [M6]
  exact hy
 ·intro hx
  refine Aj.mpr ⟨S [x],(h _).mpr (Aj.mpr ⟨x,hx,rfl⟩), ?_⟩
  show(S [x]).cps.toList.headD 0=x
  rw [M6]
  rfl
theorem b5N:∀{l:List Nat} {a b:Nat},l.Pairwise (· <·)->(∀x∈l,a<=x/\x<b)->l.length<=b - a
 |[],_,_,_,_=>Nat.zero_le _
 |x::l,a,b,h,k=>by
  rw [List.pairwise_cons] at h
  have h1:=k x Aq
  have:=b5N (a:=x+1) (b:=b) h.2 fun y hy=>⟨h.1 y hy,(k y (An _ hy)).2⟩
  rw [AT]
  lia
theorem y0{m x:Nat}:x∈L7 m↔97<=x/\x<97+m:=by
 unfold L7
 rw [Aj]
 constructor
 ·rintro⟨i,hi,rfl⟩
  have:=List.mem_range.mp hi
  lia
 ·intro h
  exact⟨x - 97,List.mem_range.mpr (by lia),by lia⟩
theorem b0H{T:List Nat}(h:∀x∈T,x∈L7 26)(hl:T.length<=4000):∃us:List Nat,us.Pairwise (· <·)/\(∀x,x∈us↔x∈T)/\a0d (.val (row T))=some (.own (us.map fun x=>row [x])):=by
 have hm:∀z,z∈S3 (m8 (S T))↔z∈T.map fun x=>S [x]:=fun z=>by rw [a4m,a88]
 have e:=b2f fun z hz=>(hm z).mp hz
 have um:=b4A hm
 have up:((S3 (m8 (S T))).map hdS).Pairwise (· <·):=by
  have:=a3G (m8 (S T))
  rw [e,List.pairwise_map] at this
  refine this.imp fun {a b} k=> ?_
  have k:(S [a]).cps.toList<(S [b]).cps.toList:=k
  rw [M6,M6] at k
  exact(a8T a b).mp k
 have hlen:(S3 (m8 (S T))).length<=26:=by
  have:=b5N (a:=97) (b:=123) up fun x hx=>y0.mp (h x ((um x).mp hx))
  rwa [Ac] at this
 refine⟨_,up,um, ?_⟩
 show a0d (.val (.str (S T)))=_
 rw [b0P,if_pos ⟨by rw [a2k];lia,by lia⟩]
 conv=>lhs;rw [e]
 rw [Aw]
 rfl
theorem b5E{T:List Nat}(hl:T.length<64):∃vs:List Nat,vs.Pairwise (· <=·)/\(∀x,x∈vs↔x∈T)/\vs.length=T.length/\a2E (.val (row T))=some (.own (vs.map fun x=>row [x])):=by
 have hm:∀z,z∈M9 (m8 (S T))↔z∈T.map fun x=>S [x]:=fun z=>by rw [(B7 _).mem_iff,a88]
 have e:=b2f fun z hz=>(hm z).mp hz
 have um:=b4A hm
 refine⟨_, ?_,um,by rw [Ac,(B7 _).length_eq,a88,Ac], ?_⟩
 ·have:=M1 (m8 (S T))
  rw [e,List.pairwise_map] at this
  refine this.imp fun {a b} k=> ?_
  have k:¬(S [b]).cps.toList<(S [a]).cps.toList:=k
  rw [M6,M6,a8T] at k
  lia
 ·show a2E (.val (.str (S T)))=_
  rw [b4z (by rw [a2k];exact hl)]
  conv=>lhs;rw [e]
  rw [Aw]
  rfl
theorem b8F:((AR 27).all fun m=>(AR 26).all fun i=>(Builtin.Str.occurrences (S (L7 m)) (S [97+i]) 0 (S (L7 m)).length 1).isEmpty==decide (m<=i))=true:=by decide+kernel
theorem a93{m x:Nat}(hm:m<=26)(hx:x∈L7 26):a2B true (.val (row [x])) (.val (row (L7 m)))=some (.val (.bool (decide (x∉L7 m)))):=by
 have hx:=y0.mp hx
 have h:=List.all_eq_true.mp (List.all_eq_true.mp b8F m (List.mem_range.mpr (by lia))) (x - 97) (List.mem_range.mpr (by lia))
 rw [show 97+(x - 97)=x by lia] at h
 have h:=eq_of_beq h
 show some (d0.val (.bool (if true=true then !(!(Builtin.Str.occurrences (S (L7 m)) (S [x]) 0 (S (L7 m)).length 1).isEmpty) else _)))=_
 rw [if_pos rfl,Bool.not_not,h]
 congr 3
 rw [decide_eq_decide,y0]
 lia
def T9(m:Nat)(us:List Nat):Option Nat:=us.find? fun x=>decide (x∉L7 m)
theorem b53{m:Nat}{us vs:List Nat}(hu:us.Pairwise (· <=·))(hv:vs.Pairwise (· <=·))(h:∀x,x∈us↔x∈vs):T9 m us=T9 m vs:=by
 have low:∀{l:List Nat} {x:Nat},l.Pairwise (· <=·)->T9 m l=some x->x∈l/\x∉L7 m/\∀y∈l,y∉L7 m->x<=y:=by
  intro l
  induction l with
  |nil=>intro x _ h;cases h
  |cons a l ih=>
   intro x hl hx
   rw [List.pairwise_cons] at hl
   unfold T9 at hx
   rw [List.find?_cons] at hx
   by_cases c:a∉L7 m
   ·rw [decide_eq_true c] at hx
    cases hx
    refine⟨Aq,c,fun y hy _=> ?_⟩
    rcases Ag.mp hy with rfl|hy
    ·exact AS _
    ·exact hl.1 y hy
   ·rw [decide_eq_false c] at hx
    obtain⟨i1,i2,i3⟩:=ih hl.2 hx
    refine⟨An _ i1,i2,fun y hy hn=> ?_⟩
    rcases Ag.mp hy with rfl|hy
    ·exact absurd hn c
    ·exact i3 y hy hn
 have non:∀{l:List Nat},T9 m l=none↔∀y∈l,y∈L7 m:=by
  intro l
  unfold T9
  rw [List.find?_eq_none]
  simp
 cases e1:T9 m us with
 |none=>
  symm
  rw [non]
  exact fun y hy=>non.mp e1 y ((h y).mpr hy)
 |some x=>
  obtain⟨a1,a2,a3⟩:=low hu e1
  cases e2:T9 m vs with
  |none=>exact absurd (non.mp e2 x ((h x).mp a1)) a2
  |some y=>
   obtain⟨b1,b2,b3⟩:=low hv e2
   have:=a3 y ((h y).mpr b1) b2
   have:=b3 x ((h x).mp a1) a2
   congr 1
   lia
abbrev ncX(x:Nat):XT:=⟨"NoColour",[(.str "colour",row [x])]⟩
abbrev cwB:MX:=b3k (mtB (m2 (a2B true) (a7 2) (V6 (mC J8) V7 (V8 (a7 1))))) (b2e "NoColour" ["colour"] (a0 (a7 2) b7)) (a2M B4)
theorem a27{m:Nat}(hm:m<=26){q0 q3:Option d0}:∀(us:List Nat) (q2:Option d0),(∀x∈us,x∈L7 26)->
 (T9 m us=none/\∃q2',a2e cwB (d5 2) (us.map fun x=>row [x]) [q0,some (.val (.int m)),q2,q3]=some (.fl (.nx [q0,some (.val (.int m)),q2',q3])))\/(∃x ρ,T9 m us=some x/\a2e cwB (d5 2) (us.map fun x=>row [x]) [q0,some (.val (.int m)),q2,q3]=some (.rz (ncX x) ρ))
 |[],q2,_=> .inl ⟨rfl,q2,rfl⟩
 |x::us,q2,h=>by
  have ih:=a27 hm (q0:=q0) (q3:=q3) us (some (.val (row [x]))) fun y hy=>h y (An _ hy)
  have hx:=a93 hm (h x Aq)
  have hs:a2e cwB (d5 2) ((x::us).map fun x=>row [x]) [q0,some (.val (.int m)),q2,q3]=(cwB [q0,some (.val (.int m)),some (.val (row [x])),q3]).bind fun fx=>match fx with
   | .fl (.nx ρ')=>a2e cwB (d5 2) (us.map fun x=>row [x]) ρ'
   | .fl (.ct ρ')=>a2e cwB (d5 2) (us.map fun x=>row [x]) ρ'
   | .fl (.bk ρ')=>some (.fl (.nx ρ'))
   | .fl (.rt r)=>some (.fl (.rt r))
   | .rz c ρ'=>some (.rz c ρ'):=rfl
  have hb:T9 m (x::us)=if x∉L7 m then some x else T9 m us:=by
   unfold T9
   rw [List.find?_cons]
   by_cases c:x∉L7 m
   ·rw [decide_eq_true c,if_pos c]
   ·rw [decide_eq_false c,if_neg c]
  rw [hs,hb]
  by_cases c:x∉L7 m
  ·right
   rw [decide_eq_true c] at hx
   have e:cwB [q0,some (.val (.int m)),some (.val (row [x])),q3]=some (.rz (ncX x) [q0,some (.val (.int m)),some (.val (row [x])),q3]):=by
    simp (disch:=omega) only [g9,g0,b9,d4,r6,v7,AH,A3,A4,E4,P3,a0k,a54 hm,hx,b1r]
    rfl
   exact⟨x,_,if_pos c,by rw [e,AH]⟩
  ·rw [decide_eq_false c] at hx
   have e:cwB [q0,some (.val (.int m)),some (.val (row [x])),q3]=some (.fl (.nx [q0,some (.val (.int m)),some (.val (row [x])),q3])):=by
    simp (disch:=omega) only [g9,g0,b9,d4,o9,r6,v7,AH,Av,A3,A4,E4,P3,a0k,a54 hm,hx,b1q,a0l]
   rw [e,AH,if_neg c]
   exact ih
theorem a9E{n:Nat}(f:Nat->Nat->Nat):(u7 n f).flatten.length=n*n:=by
 rw [List.length_flatten]
 unfold u7
 rw [Aw,show(List.length∘fun r=>(AR n).map fun c=>f r c)=fun _=>n by funext r;simp]
 rw [List.map_const',List.sum_replicate_nat,At]
theorem K8{n:Nat}{f:Nat->Nat->Nat}{x:Nat}:x∈(u7 n f).flatten↔∃r c,r<n/\c<n/\x=f r c:=by
 rw [List.mem_flatten]
 constructor
 ·rintro⟨l,hl,hx⟩
  obtain⟨r,hr,rfl⟩:=Aj.mp hl
  obtain⟨c,hc,rfl⟩:=Aj.mp hx
  exact⟨r,c,List.mem_range.mp hr,List.mem_range.mp hc,rfl⟩
 ·rintro⟨r,c,hr,hc,rfl⟩
  exact⟨_,Aj.mpr ⟨r,List.mem_range.mpr hr,rfl⟩,Aj.mpr ⟨c,List.mem_range.mpr hc,rfl⟩⟩
abbrev In(m n:Nat)(f:Nat->Nat->Nat):Prop:=∀r c:Nat,r<n->c<n->f r c∈L7 m
theorem a5d{n m:Nat}(hn8:n<=8)(hm:m<=26){f:Nat->Nat->Nat}(hf:In 26 n f):∃us:List Nat,us.Pairwise (· <·)/\(∀x,x∈us↔x∈(u7 n f).flatten)/\u5 [m5 n f]=some (.own (us.map fun x=>row [x])):=by
 have hl:(u7 n f).flatten.length<=4000:=by
  have:n*n<=8*8:=Nat.mul_le_mul hn8 hn8
  rw [a9E]
  lia
 have hx:∀x∈(u7 n f).flatten,x∈L7 26:=fun x hx=>by
  obtain⟨r,c,hr,hc,rfl⟩:=K8.mp hx
  exact hf r c hr hc
 obtain⟨us,u1,u2,u3⟩:=b0H hx hl
 refine⟨us,u1,u2, ?_⟩
 have j:=b6y (A:=u7 n f) (by lia)
 rw [show d9 (u7 n f)=m5 n f from rfl] at j
 unfold u5 a22
 simp (disch:=omega) only [g9,n6,g0,b9,f8,a0M,f6,j0,AH,AQ,AW,AU,Ak,j,u3]
theorem b2Q(A B:List (List Nat)):PyData.eqv (d9 A) (d9 B)=(A==B):=by
 show PyData.eqv (.tuple (A.map row)) (.tuple (B.map row))=_
 rw [show PyData.eqv (.tuple (A.map row)) (.tuple (B.map row))=PyData.eqvAll (A.map row) (B.map row) by simp only [PyData.eqv],a1s]
theorem b4p{A:List (List Nat)}:∀{L:List (List (List Nat))},A∈L->∃j:Nat,a2q (d9 A) (L.map d9)=some j/\L[j]?=some A
 |[],h=>by cases h
 |B::L,h=>by
  rw [AQ,a2q,b2Q]
  by_cases e:B=A
  ·exact⟨0,by rw [if_pos (by simp [e])],by rw [e];rfl⟩
  ·rw [if_neg (by simpa using e)]
   rcases Ag.mp h with k|k
   ·exact absurd k.symm e
   ·obtain⟨j,h1,h2⟩:=b4p k
    exact⟨j+1,by rw [h1];rfl,h2⟩
theorem b1b(L:List (List (List Nat))):u4 (L.map d9) 50=true:=a5G fun p hp=>by
 obtain⟨A,_,rfl⟩:=Aj.mp hp
 exact a0D A
theorem a99{n m:Nat}(hn:0<n){f:Nat->Nat->Nat}(hf:In m n f)(hN:m ^(n*n)<=600){A:List (List Nat)}(h:Lst n f A):∃j:Nat,a2q (d9 A) ((FX0 n m).map d9)=some j/\(FX0 n m)[j]?=some A/\U8 (.bor ((FX0 n m).map d9)) (.val (d9 A))=some (.val (.int (j:Nat))):=by
 have hA:A∈FX0 n m:=a8C.mpr ⟨a8J hn hf h.1,b1h hn h⟩
 obtain⟨j,h1,h2⟩:=b4p hA
 have hl:(FX0 n m).length<=(D6 n m).length:=List.length_filter_le ..
 rw [a12] at hl
 exact⟨j,h1,h2,b2V ⟨a0D A,b1b _,by rw [Ac];lia⟩ h1⟩
theorem a39{n m:Nat}(hn:0<n)(h5:n<=5)(hm:0<m)(hm26:m<=26)(hN:m ^(n*n)<=600){f:Nat->Nat->Nat}(hf:In m n f){A:List (List Nat)}(hA:Lst n f A){j:Nat}(hj:U8 (.bor ((FX0 n m).map d9)) (.val (d9 A))=some (.val (.int (j:Nat)))):t4 [m5 n f,.int m]=some (.inl (.val (.int (j:Nat)))):=by
 have hf26:In 26 n f:=fun r c hr hc=>y0.mpr (by have:=y0.mp (hf r c hr hc);lia)
 obtain⟨us,u1,u2,u3⟩:=a5d (by lia:n<=8) hm26 hf26
 have hb:T9 m us=none:=by
  unfold T9
  rw [List.find?_eq_none]
  intro x hx
  obtain⟨r,c,hr,hc,rfl⟩:=K8.mp ((u2 x).mp hx)
  simpa using hf r c hr hc
 rcases a27 hm26 (q0:=some (.val (m5 n f))) (q3:=none) us none (fun x hx=>by
  obtain⟨r,c,hr,hc,rfl⟩:=K8.mp ((u2 x).mp hx)
  exact hf26 r c hr hc) with⟨_,q2,e⟩|⟨x,ρ,h,_⟩
 ·obtain⟨w,hw,d,t,hd,ht,el,hm'⟩:=a9V hn (by lia:n<=8) f
  have eA:A=u7 n (mvd n f w (d:Nat) (t:Nat)):=hA.uniq ⟨⟨w,hw,d,t,hd,ht,rfl⟩,fun B hB=>by
   obtain⟨v,hv,a,b,ha,hb,rfl⟩:=hB
   exact hm' v hv a b ha hb⟩
  have fe:=a1u hn h5 hm hm26 hN
  have ea:=a8G (i:=3) (g:=k6) (m:=a0 (m1 Q1 (a7 0)) (a0 (a7 1) b7)) (ρ:=[some (.val (m5 n f)),some (.val (.int m)),q2,none]) (ps:=[.int n,.int m]) (by simp (disch:=omega) only [n6,b9,d4,b6,b0,b5,AH,K4]) fe
  have mf:a4O (I0 (i6 u5 (a0 (a7 0) b7))) (d5 2) cwB [some (.val (m5 n f)),some (.val (.int m)),none,none]=some (.fl (.nx [some (.val (m5 n f)),some (.val (.int m)),q2,none])):=by
   unfold a4O
   rw [show I0 (i6 u5 (a0 (a7 0) b7)) [some (.val (m5 n f)),some (.val (.int m)),none,none]=some (us.map fun x=>row [x]) by simp (disch:=omega) only [b9,b6,b0,b5,J7,e7,AH,D9,E3,u3],AH,e]
  rw [eA] at hj
  have hj:U8 (.bor ((FX0 n m).map d9)) (.val (m5 n (mvd n f w (d:Nat) (t:Nat))))=some (.val (.int (j:Nat))):=hj
  unfold t4 W8
  rw [G6]
  simp (disch:=omega) only [a1w,g9,g0,b9,L9,d4,b6,b0,b5,e7,f8,v0,AH,Av,AQ,AW,AZ,AU,Aa,Ad,AX,AY,C6,mf,W4,ea,a0l,el,hj]
  rfl
 ·rw [hb] at h;cases h
theorem a7L{n m:Nat}(hn8:n<=8)(hm26:m<=26){f:Nat->Nat->Nat}(hf26:In 26 n f){us:List Nat}(u1:us.Pairwise (· <=·))(u2:∀x,x∈us↔x∈(u7 n f).flatten){x:Nat}(hb:T9 m us=some x):t4 [m5 n f,.int m]=some (.inr (ncX x)):=by
 obtain⟨vs,v1,v2,v3⟩:=a5d hn8 hm26 hf26
 have hv:T9 m vs=some x:=by
  rw [<-hb]
  exact b53 (v1.imp fun h=>BE h) u1 fun y=>(v2 y).trans (u2 y).symm
 rcases a27 hm26 (q0:=some (.val (m5 n f))) (q3:=none) vs none (fun x hx=>by
  obtain⟨r,c,hr,hc,rfl⟩:=K8.mp ((v2 x).mp hx)
  exact hf26 r c hr hc) with⟨h,_⟩|⟨y,ρ,h,e⟩
 ·rw [hv] at h;cases h
 ·rw [hv] at h
  cases h
  have mf:a4O (I0 (i6 u5 (a0 (a7 0) b7))) (d5 2) cwB [some (.val (m5 n f)),some (.val (.int m)),none,none]=some (.rz (ncX x) ρ):=by
   unfold a4O
   rw [show I0 (i6 u5 (a0 (a7 0) b7)) [some (.val (m5 n f)),some (.val (.int m)),none,none]=some (vs.map fun x=>row [x]) by simp (disch:=omega) only [b9,b6,b0,b5,J7,e7,AH,D9,E3,v3],AH,e]
  unfold t4 W8
  rw [G6]
  simp (disch:=omega) only [AH,AQ,AW,AZ,AU,Aa,Ad,C6,mf,a10]
  rfl
theorem b09{n m:Nat}(hn8:n<=8)(hm26:m<=26)(hN:600<m ^(n*n)){f:Nat->Nat->Nat}(hf:In m n f):t4 [m5 n f,.int m]=some (.inr (tlX ((m ^(n*n):Nat):Int))):=by
 have hf26:In 26 n f:=fun r c hr hc=>y0.mpr (by have:=y0.mp (hf r c hr hc);lia)
 obtain⟨us,u1,u2,u3⟩:=a5d hn8 hm26 hf26
 have hb:T9 m us=none:=by
  unfold T9
  rw [List.find?_eq_none]
  intro x hx
  obtain⟨r,c,hr,hc,rfl⟩:=K8.mp ((u2 x).mp hx)
  simpa using hf r c hr hc
 rcases a27 hm26 (q0:=some (.val (m5 n f))) (q3:=none) us none (fun x hx=>by
  obtain⟨r,c,hr,hc,rfl⟩:=K8.mp ((u2 x).mp hx)
  exact hf26 r c hr hc) with⟨_,q2,e⟩|⟨x,ρ,h,_⟩
 ·have fe:=a7l hn8 hm26 hN
  have ea:=a5l (i:=3) (g:=k6) (m:=a0 (m1 Q1 (a7 0)) (a0 (a7 1) b7)) (ρ:=[some (.val (m5 n f)),some (.val (.int m)),q2,none]) (ps:=[.int n,.int m]) (by simp (disch:=omega) only [n6,b9,d4,b6,b0,b5,AH,K4]) fe
  have mf:a4O (I0 (i6 u5 (a0 (a7 0) b7))) (d5 2) cwB [some (.val (m5 n f)),some (.val (.int m)),none,none]=some (.fl (.nx [some (.val (m5 n f)),some (.val (.int m)),q2,none])):=by
   unfold a4O
   rw [show I0 (i6 u5 (a0 (a7 0) b7)) [some (.val (m5 n f)),some (.val (.int m)),none,none]=some (us.map fun x=>row [x]) by simp (disch:=omega) only [b9,b6,b0,b5,J7,e7,AH,D9,E3,u3],AH,e]
  unfold t4 W8
  rw [G6]
  simp (disch:=omega) only [AH,AQ,AW,AZ,AU,Aa,Ad,C6,mf,W4,ea,a10]
  rfl
 ·rw [hb] at h;cases h
abbrev a42(a b c:Bool):List (Str×Bool):=[("NoColour",a),("NoNumber",b),("TooLarge",c)]
theorem b8g(X:PV):B1 1 (A6 (a7 1)) (d5 2) (mtV (a7 2)) E7 [some (.val X),some (.own [.bool true,.bool false,.bool false])]=some (.own [.bool true]):=rfl
theorem b8h(X:PV):B1 1 (A6 (a7 1)) (d5 2) (mtV (a7 2)) E7 [some (.val X),some (.own [.bool false,.bool true,.bool false])]=some (.own [.bool true]):=rfl
theorem b8i(X:PV):B1 1 (A6 (a7 1)) (d5 2) (mtV (a7 2)) E7 [some (.val X),some (.own [.bool false,.bool false,.bool true])]=some (.own [.bool true]):=rfl
abbrev nnX:XT:=⟨"NoNumber",[]⟩
theorem a6p(x:Nat):n5 [xcV (ncX x)]=some (.own [.str "colour",row [x]]):=by
 have i1:a1v (a42 true false false) (.val (xcV (ncX x)))=some (.val (.bool true)):=by rfl
 have i2:a1v (a42 false false true) (.val (xcV (ncX x)))=some (.val (.bool false)):=by rfl
 have i3:a1v (a42 false true false) (.val (xcV (ncX x)))=some (.val (.bool false)):=by rfl
 have i4:a1v (a42 true true true) (.val (xcV (ncX x)))=some (.val (.bool true)):=by rfl
 have i5:gFx ["NoColour"] "colour" (.val (xcV (ncX x)))=some (.val (row [x])):=by rfl
 unfold n5 O7
 generalize xcV (ncX x)=X at*
 have c:=b8g X
 have ix:y6 (.bor [.bool true,.bool false,.bool false]) (.val (.int 0))=some (.val (.bool true)):=rfl
 simp (disch:=omega) only [a5R,g9,n6,g0,b9,L9,d4,b6,b0,b5,k4,f7,D5,f8,a0M,f9,h9,a2a,o8,a3k,X5,o9,f6,j0,a0K,r6,v7,a6G,O2,a1K,a97,AH,Av,AQ,AW,AZ,AU,Aa,Ad,AX,AY,AT,Ae,↓reduceIte,Bool.not_true,sz,Nat.reduceAdd,Ah,Int.cast_ofNat_Int,beq_self_eq_true,b4x,i1,i2,i3,i4,i5,c,ix]
theorem a6r(N:Int):n5 [xcV (tlX N)]=some (.own [.str "large",.int N]):=by
 have i1:a1v (a42 true false false) (.val (xcV (tlX N)))=some (.val (.bool false)):=by rfl
 have i2:a1v (a42 false false true) (.val (xcV (tlX N)))=some (.val (.bool true)):=by rfl
 have i3:a1v (a42 false true false) (.val (xcV (tlX N)))=some (.val (.bool false)):=by rfl
 have i4:a1v (a42 true true true) (.val (xcV (tlX N)))=some (.val (.bool true)):=by rfl
 have i5:gFx ["TooLarge"] "many" (.val (xcV (tlX N)))=some (.val (.int N)):=by rfl
 unfold n5 O7
 generalize xcV (tlX N)=X at*
 have c:=b8h X
 have ix:y6 (.bor [.bool false,.bool true,.bool false]) (.val (.int 0))=some (.val (.bool false)):=rfl
 have ix1:y6 (.bor [.bool false,.bool true,.bool false]) (.val (.int 1))=some (.val (.bool true)):=rfl
 simp (disch:=omega) only [a5R,g9,n6,g0,b9,L9,d4,b6,b0,b5,k4,f7,D5,f8,a0M,f9,h9,a2a,o8,a3k,X5,o9,f6,j0,a0K,r6,v7,a6G,O2,a1K,a97,AH,Av,AQ,AW,AZ,AU,Aa,Ad,AX,AY,AT,Ae,↓reduceIte,Bool.not_true,sz,Nat.reduceAdd,Ah,Int.cast_ofNat_Int,beq_self_eq_true,b4x,i1,i2,i3,i4,i5,c,ix,ix1]
theorem a6q:n5 [xcV nnX]=some (.own [.str "number",.none]):=by
 have i1:a1v (a42 true false false) (.val (xcV nnX))=some (.val (.bool false)):=by rfl
 have i2:a1v (a42 false false true) (.val (xcV nnX))=some (.val (.bool false)):=by rfl
 have i3:a1v (a42 false true false) (.val (xcV nnX))=some (.val (.bool true)):=by rfl
 have i4:a1v (a42 true true true) (.val (xcV nnX))=some (.val (.bool true)):=by rfl
 unfold n5 O7
 generalize xcV nnX=X at*
 have c:=b8i X
 have ix:y6 (.bor [.bool false,.bool false,.bool true]) (.val (.int 0))=some (.val (.bool false)):=rfl
 have ix1:y6 (.bor [.bool false,.bool false,.bool true]) (.val (.int 1))=some (.val (.bool false)):=rfl
 simp (disch:=omega) only [a5R,g9,n6,g0,b9,L9,d4,b6,b0,b5,k4,f7,D5,f8,a0M,f9,h9,o8,X5,o9,f6,j0,a0K,r6,v7,a6G,O2,a1K,a97,AH,Av,AQ,AW,AZ,AU,Aa,Ad,AX,AY,AT,Ae,↓reduceIte,Bool.not_true,sz,Nat.reduceAdd,Ah,Int.cast_ofNat_Int,beq_self_eq_true,b4x,i1,i2,i3,i4,c,ix,ix1]
theorem a6g{p q v:PV}(h:t4 [p,q]=some (.inl (.val v))):j6 [p,q]=some (.own [.str "told",v]):=by
 have tr:R4 (S2 3 t4 (a0 (a7 0) (a0 (a7 1) b7))) 4 (inL ["NoColour","NoNumber","TooLarge"]) (m9 2 (a7 4)) [some (.val p),some (.val q),some (.val .none),some (.val .none),none]=some (.nx [some (.val p),some (.val q),some (.val .none),some (.val v),none]):=by
  rw [a7D (b2d (ps:=[p,q]) (by simp (disch:=omega) only [b9,d4,b6,b0,b5,AH]) h)]
  rfl
 have n1:a9I true (.val .none) (.val .none)=some (.val (.bool false)):=rfl
 unfold j6 R0
 simp (disch:=omega) only [g9,g0,b9,d4,b6,b0,b5,k4,f7,t5,f8,a0M,f9,h9,o8,X5,o9,f6,j0,r6,v7,AH,AQ,AW,AZ,AU,Aa,Ad,AX,AY,AT,Ae,↓reduceIte,sz,Nat.reduceAdd,Ah,tr,n1]
theorem b1a{p q:PV}{X:XT}{r:List PV}(h:t4 [p,q]=some (.inr X))(hc:inL ["NoColour","NoNumber","TooLarge"] X.cls=true)(hr:n5 [xcV X]=some (.own r)):j6 [p,q]=some (.own r):=by
 have tr:R4 (S2 3 t4 (a0 (a7 0) (a0 (a7 1) b7))) 4 (inL ["NoColour","NoNumber","TooLarge"]) (m9 2 (a7 4)) [some (.val p),some (.val q),some (.val .none),some (.val .none),none]=some (.nx [some (.val p),some (.val q),some (.val (xcV X)),some (.val .none),none]):=by
  rw [a7E (a5l (ps:=[p,q]) (by simp (disch:=omega) only [b9,d4,b6,b0,b5,AH]) h) hc]
  rfl
 have n1:a9I true (.val (xcV X)) (.val .none)=some (.val (.bool true)):=by
  unfold xcV
  split<;>rfl
 unfold j6 R0
 generalize xcV X=Y at*
 simp (disch:=omega) only [g9,g0,b9,d4,b6,b0,b5,e7,f7,t5,f8,a0M,f9,h9,a2a,o8,a3k,f6,j0,r6,v7,AH,AQ,AW,AZ,AU,Aa,Ad,AX,AY,tr,n1,hr]
theorem a9s{p q s v:PV}(h:t0 [p,q,s]=some (.inl (.val v))):l6 [p,q,s]=some (.own [.str "told",v]):=by
 have tr:R4 (S2 4 t0 (a0 (a7 0) (a0 (a7 1) (a0 (a7 2) b7)))) 5 (inL ["NoColour","NoNumber","TooLarge"]) (m9 3 (a7 5)) [some (.val p),some (.val q),some (.val s),some (.val .none),some (.val .none),none]=some (.nx [some (.val p),some (.val q),some (.val s),some (.val .none),some (.val v),none]):=by
  rw [a7D (b2d (ps:=[p,q,s]) (by simp (disch:=omega) only [b9,d4,b6,b0,b5,AH]) h)]
  rfl
 have n1:a9I true (.val .none) (.val .none)=some (.val (.bool false)):=rfl
 unfold l6 Q9
 simp (disch:=omega) only [g9,g0,b9,d4,b6,b0,b5,k4,f7,t5,f8,a0M,f9,h9,o8,X5,o9,f6,j0,r6,v7,AH,AQ,AW,AZ,AU,Aa,Ad,AX,AY,AT,Ae,↓reduceIte,sz,Nat.reduceAdd,Ah,tr,n1]
theorem b0C{p q s:PV}{X:XT}{r:List PV}(h:t0 [p,q,s]=some (.inr X))(hc:inL ["NoColour","NoNumber","TooLarge"] X.cls=true)(hr:n5 [xcV X]=some (.own r)):l6 [p,q,s]=some (.own r):=by
 have tr:R4 (S2 4 t0 (a0 (a7 0) (a0 (a7 1) (a0 (a7 2) b7)))) 5 (inL ["NoColour","NoNumber","TooLarge"]) (m9 3 (a7 5)) [some (.val p),some (.val q),some (.val s),some (.val .none),some (.val .none),none]=some (.nx [some (.val p),some (.val q),some (.val s),some (.val (xcV X)),some (.val .none),none]):=by
  rw [a7E (a5l (ps:=[p,q,s]) (by simp (disch:=omega) only [b9,d4,b6,b0,b5,AH]) h) hc]
  rfl
 have n1:a9I true (.val (xcV X)) (.val .none)=some (.val (.bool true)):=by
  unfold xcV
  split<;>rfl
 unfold l6 Q9
 generalize xcV X=Y at*
 simp (disch:=omega) only [g9,g0,b9,d4,b6,b0,b5,e7,f7,t5,f8,a0M,f9,h9,a2a,o8,a3k,f6,j0,r6,v7,AH,AQ,AW,AZ,AU,Aa,Ad,AX,AY,tr,n1,hr]
theorem b4I(i:Int):a1z "int" (.int i)=true:=rfl
theorem b4H(i:Int):a1z "bool" (.int i)=false:=rfl
theorem b8G(b:Bool):a1z "bool" (.bool b)=true:=rfl
theorem a1Z(s i:Int):y9 [.int s,.int i]=some (.val (.bool (decide (0<=i)&& decide (i<s)))):=by
 unfold y9 T5
 by_cases h:0<=i
 ·simp (disch:=omega) only [a5P,a57,n6,g0,b9,d4,f8,f6,G3,a90,a5y,b41,U9,AH,AQ,AW,AU,Ak,Bool.not_false,a5W,a5B,h,b4I,b4H]
  show((((some (d0.val (PyData.int s))).bind fun z=>b0N (d0.val (PyData.int i)) z).bind b5p).bind b5t)=_
  simp (disch:=omega) only [a5S,v0,j0,AH,h]
  try simp [h]
 ·simp (disch:=omega) only [a5P,a57,n6,g0,b9,d4,f8,f6,G3,a90,a5y,b41,U9,AH,AQ,AW,AU,Ak,Bool.not_false,a5W,a5B,h,b4I,b4H]
  show(((some (d0.val (PyData.bool false))).bind b5p).bind b5t)=_
  simp (disch:=omega) only [v0,j0,AH,h]
  try simp [h]
def a8I(x:PV):Prop:=∀s:Int,y9 [.int s,x]=some (.val (.bool false))
theorem b6R(b:Bool):a8I (.bool b):=fun s=>by
 unfold y9 T5
 simp (disch:=omega) only [n6,b9,d4,f8,f6,G3,U9,AH,AQ,AW,AU,Ak,b21,a5B,b8G]
 try rfl
theorem b80(b:Str):a8I (.str b):=fun s=>by
 unfold y9 T5
 simp (disch:=omega) only [n6,b9,d4,f8,f6,G3,U9,AH,AQ,AW,AU,Ak,b4G,a5B]
 try rfl
theorem b6S:a8I .none:=fun s=>by
 unfold y9 T5
 simp (disch:=omega) only [n6,b9,d4,f8,f6,G3,U9,AH,AQ,AW,AU,Ak,b22,a5B]
 try rfl
theorem b8Z(b:List PV):a8I (.list b):=fun s=>by
 unfold y9 T5
 simp (disch:=omega) only [n6,b9,d4,f8,f6,G3,U9,AH,AQ,AW,AU,Ak,b4F,a5B]
 try rfl
section
variable {n m:Nat}(hn:0<n)(h5:n<=5)(hm:0<m)(hm26:m<=26)(hN:m ^(n*n)<=600)
include hn h5 hm hm26 hN
theorem a69{j:Nat}{A:List (List Nat)}(hj:(FX0 n m)[j]?=some A):t0 [.int n,.int m,.int (j:Nat)]=some (.inl (.val (d9 A))):=by
 have hl:j<(FX0 n m).length:=(As.mp hj).1
 have fe:=a1u hn h5 hm hm26 hN
 have ea:=a8G (i:=3) (g:=k6) (m:=a0 (a7 0) (a0 (a7 1) b7)) (ρ:=[some (.val (.int n)),some (.val (.int m)),some (.val (.int (j:Nat))),none]) (ps:=[.int n,.int m]) (by simp (disch:=omega) only [b9,d4,b6,b0,b5,AH]) fe
 have st:y9 [.int ((FX0 n m).length:Nat),.int (j:Nat)]=some (.val (.bool true)):=by
  rw [a1Z,decide_eq_true (by lia),decide_eq_true (by lia)]
  rfl
 have ix:y6 (.bor ((FX0 n m).map d9)) (.val (.int (j:Nat)))=some (.val (d9 A)):=by
  show(L2.atI ((FX0 n m).map d9) ((j:Nat):Int)).map d0.val=_
  rw [b3Q,Al,hj]
  rfl
 unfold t0 W7
 rw [G6]
 simp (disch:=omega) only [a5Q,g9,n6,b9,L9,d4,b6,b0,b5,e7,f8,v0,o9,a0K,a6G,O2,AH,Av,AQ,AW,AZ,AU,Aa,Ad,AX,AY,Bool.not_true,Ac,C6,ea,W4,a0k,st,b1q,a0l,ix]
 rfl
theorem a68{p:PV}(hp:y9 [.int ((FX0 n m).length:Nat),p]=some (.val (.bool false))):t0 [.int n,.int m,p]=some (.inr nnX):=by
 have fe:=a1u hn h5 hm hm26 hN
 have ea:=a8G (i:=3) (g:=k6) (m:=a0 (a7 0) (a0 (a7 1) b7)) (ρ:=[some (.val (.int n)),some (.val (.int m)),some (.val p),none]) (ps:=[.int n,.int m]) (by simp (disch:=omega) only [b9,d4,b6,b0,b5,AH]) fe
 unfold t0 W7
 rw [G6]
 simp (disch:=omega) only [a5Q,n6,b9,L9,d4,b6,b0,b5,e7,a0K,a6G,O2,AH,Av,AQ,AW,AZ,AU,Aa,Ad,AX,AY,Bool.not_false,Ac,C6,ea,W4,a0k,hp,b1r,b4X,a10]
 rfl
end
theorem b0F{n m:Nat}(hn8:n<=8)(hm26:m<=26)(hN:600<m ^(n*n))(p:PV):t0 [.int n,.int m,p]=some (.inr (tlX ((m ^(n*n):Nat):Int))):=by
 have fe:=a7l hn8 hm26 hN
 have ea:=a5l (i:=3) (g:=k6) (m:=a0 (a7 0) (a0 (a7 1) b7)) (ρ:=[some (.val (.int n)),some (.val (.int m)),some (.val p),none]) (ps:=[.int n,.int m]) (by simp (disch:=omega) only [b9,d4,b6,b0,b5,AH]) fe
 unfold t0 W7
 rw [G6]
 simp (disch:=omega) only [AH,AQ,AW,AZ,AU,Aa,Ad,C6,ea,a10]
 rfl
def c0g:PV->List (List Nat)
 | .tuple rows=>rows.map a8d
 |_=>[]
theorem a5j(A:List (List Nat)):c0g (d9 A)=A:=by
 show(A.map row).map a8d=A
 rw [Aw]
 have:(a8d∘row)=id:=funext fun l=>M6 l
 rw [this,List.map_id]
theorem b3c{A B:List (List Nat)}(h:A.length=B.length):ltv (d9 A) (d9 B)=some (decide (A<B)):=by
 show ltv (.tuple (A.map row)) (.tuple (B.map row))=_
 rw [ltv,a34 h]
def b6L(n:Nat)(f:Nat->Nat->Nat):PV->PV
 | .tuple [.str w,.int d,.int t]=>m5 n (mvd n f w d t)
 |_=> .none
theorem b3a{n:Nat}(hn:0<n)(hn8:n<=8)(f:Nat->Nat->Nat):∃A,Lst n f A/\X2 [m5 n f]=some (.val (d9 A)):=by
 have hl:=a1c m4 n
 have e8:m4.length=8:=rfl
 have hp:0<n*n:=Nat.mul_pos hn hn
 have hsz:n*n<=8*8:=Nat.mul_le_mul hn8 hn8
 rw [e8] at hl
 have cm:B1 1 (A6 (i6 T6 (a0 (m1 Q1 (a7 0)) b7))) (d5 1) M7 V4 [some (.val (m5 n f))]=some (.own ((A0 m4 n).map (b6L n f))):=by
  refine B2 (ι:=id) (f:=b6L n f) (A0 m4 n) (Q4 (r:= .ow (.lst (A0 m4 n))) (by simp (disch:=omega) only [n6,b9,b6,b0,b5,e7,AH,K4,b1v hn8]) (by rw [List.map_id];rfl)) (by lia) ?_
  intro p hp
  obtain⟨w,hw,d,t,hd,ht,rfl⟩:=G4.mp hp
  refine⟨_,rfl, ?_⟩
  unfold V4
  simp (disch:=omega) only [b9,d4,b6,b0,b5,e7,AH,AZ,AU,Aa,Ad,AX,AY,id_eq,a7F hn hn8 f hw]
  rfl
 have mem:∀p∈(A0 m4 n).map (b6L n f),∃w∈m4,∃d t:Nat,d<n/\t<n/\p=d9 (u7 n (mvd n f w (d:Nat) (t:Nat))):=fun p hp=>by
  obtain⟨q,hq,rfl⟩:=Aj.mp hp
  obtain⟨w,hw,d,t,hd,ht,rfl⟩:=G4.mp hq
  exact⟨w,hw,d,t,hd,ht,rfl⟩
 obtain⟨p,hp1,hp2,hp3⟩:=b4T (ps:=(A0 m4 n).map (b6L n f)) (key:=c0g)
  (fun p hp q hq=>by
   obtain⟨w,_,d,t,_,_,rfl⟩:=mem p hp
   obtain⟨v,_,e,u,_,_,rfl⟩:=mem q hq
   rw [a5j,a5j]
   exact b3c (by rw [P5,P5]))
  (a5G fun p hp=>by
   obtain⟨w,_,d,t,_,_,rfl⟩:=mem p hp
   exact a0D _)
  (by rw [Ac];lia)
 obtain⟨w,hw,d,t,hd,ht,rfl⟩:=mem p hp1
 refine⟨_,⟨⟨w,hw,d,t,hd,ht,rfl⟩,fun B hB hlt=> ?_⟩, ?_⟩
 ·obtain⟨v,hv,a,b,ha,hb,rfl⟩:=hB
  refine hp3 (d9 (u7 n (mvd n f v (a:Nat) (b:Nat)))) (Aj.mpr ⟨T3 v (a:Nat) (b:Nat),G4.mpr ⟨v,hv,a,b,ha,hb,rfl⟩,rfl⟩) ?_
  rw [a5j,a5j]
  exact hlt
 ·unfold X2 a4y
  simp (disch:=omega) only [n6,f8,v0,f6,j0,AH,AQ,AW,AU,Ak,cm,hp2]
theorem a75:(.str (AK "abcdefghijklmnopqrstuvwxyz"):PV)=row (L7 26):=by kernel_rfl
theorem b8T{i:Nat}(h:i<26):(L7 26).getD i 0=97+i:=by
 unfold L7
 simp [List.getD,h]
theorem b3L{i:Int}(h0:0<=i)(h1:i<26):y6 (.val (row (L7 26))) (.val (.int i))=some (.val (row [97+i.toNat])):=by
 rw [b6n (a3n 26) (by lia) h0 (by lia),b8T (by lia)]
abbrev cfL(x:Int)(n m:Nat):Nat->Nat->Nat:=fun r c=>97+(a2L x ((r:Int)*n+c) % m).toNat
theorem b3U(x:Int)(n:Nat){m:Nat}(hm:0<m):In m n (cfL x n m):=fun r c _ _=>y0.mpr (by
 have h0:0<=a2L x ((r:Int)*n+c) % m:=Int.emod_nonneg _ (by lia)
 have h1:a2L x ((r:Int)*n+c) % m<m:=Int.emod_lt_of_pos _ (by lia)
 show 97<=97+(a2L x ((r:Int)*n+c) % m).toNat/\97+(a2L x ((r:Int)*n+c) % m).toNat<97+m
 lia)
theorem a50{n m:Nat}(hn8:n<=8)(hm:0<m)(hm26:m<=26)(x:Int):K9 [.int n,.int m,.int x]=some (.val (m5 n (cfL x n m))):=by
 unfold K9 a23
 simp (disch:=omega) only [n6,g0,f7,t5,f8,f9,h9,f6,AH,AQ,AW,AZ,AU,Aa,Ad,AX,AY,a75]
 rw [B2 (f:=fun r:Nat=>row ((AR n).map fun(c:Nat)=>cfL x n m r c)) (AR n) (O0 (n:=n) rfl (by lia)) (by rw [At];lia)]
 ·simp (disch:=omega) only [v0,j0,AH,a2F]
  unfold m5 d9
  rw [Aw]
  rfl
 ·intro r hr
  have hr:=List.mem_range.mp hr
  refine⟨_,rfl, ?_⟩
  unfold a0W
  simp (disch:=omega) only [g9,g0,AH,AZ,AU,Aa,Ad,AX,AY]
  rw [B2 (f:=fun c:Nat=>row [cfL x n m r c]) (AR n) (O0 (n:=n) rfl (by lia)) (by rw [At];lia)]
  ·simp (disch:=omega) only [b5,AH,show AK ""=S [] from rfl,a2C (k:=n) (by lia)]
  ·intro c hc
   have hc:=List.mem_range.mp hc
   have hrn:r*n<=8*8:=Nat.mul_le_mul (by lia) hn8
   have h64:(0:Int)<=(r:Int)*n/\(r:Int)*n<=64:=by
    rw [<-Int.natCast_mul]
    lia
   have e:=a17 (c:=x) (k:=(r:Int)*n+c) (by lia)
   have h0:0<=a2L x ((r:Int)*n+c) % m:=Int.emod_nonneg _ (by lia)
   have h1:a2L x ((r:Int)*n+c) % m<m:=Int.emod_lt_of_pos _ (by lia)
   have ix:=b3L h0 (by lia)
   refine⟨_,rfl, ?_⟩
   unfold a0V
   simp (disch:=omega) only [v4,S6,n4,g9,b9,d4,b6,b0,b5,e7,AH,AZ,AU,Aa,Ad,AX,AY,e,ix]
theorem b34{α:Type}{l:List α}{b:Nat}(h:b<=l.length):cut l (some (b:Int)) none=l.drop b:=by
 unfold cut
 rw [HT.sIx_none,HT.sIx_nat,Nat.min_eq_left h]
 rw [List.take_of_length_le (by rw [List.length_drop];lia)]
theorem b55{n b x:Nat}(h:b<n)(F:Nat->Nat):((AR n).map F).take b++[x]++((AR n).map F).drop (b+1)=(AR n).map fun c=>if c=b then x else F c:=by
 refine List.ext_getElem? fun i=> ?_
 rw [Al]
 by_cases c1:i<b
 ·rw [BD (by simp;lia),BD (by simp;lia),List.getElem?_take_of_lt c1,Al]
  rw [List.getElem?_range (by lia)]
  simp only [Av]
  rw [if_neg (by lia)]
 ·by_cases c2:i=b
  ·subst c2
   rw [BD (by simp;lia),List.getElem?_append_right (by simp;lia)]
   rw [List.getElem?_range h]
   simp only [Av]
   rw [if_pos trivial]
   have:i - (((AR n).map F).take i).length=0:=by simp;lia
   rw [this]
   rfl
  ·rw [List.getElem?_append_right (by simp;lia),List.getElem?_drop,Al]
   have:b+1+(i - (((AR n).map F).take b++[x]).length)=i:=by simp;lia
   rw [this]
   by_cases c3:i<n
   ·rw [List.getElem?_range c3]
    simp only [Av]
    rw [if_neg c2]
   ·rw [List.getElem?_eq_none (by simp;lia)]
    rfl
def chg(f:Nat->Nat->Nat)(a b x:Nat):Nat->Nat->Nat:=fun r c=>if r=a/\c=b then x else f r c
theorem b56{n a b x:Nat}(ha:a<n)(f:Nat->Nat->Nat):(u7 n f).set a ((AR n).map fun c=>if c=b then x else f a c)=u7 n (chg f a b x):=by
 refine List.ext_getElem? fun i=> ?_
 unfold u7 chg
 by_cases c:i=a
 ·subst c
  rw [BI (by simpa using ha),Al,List.getElem?_range ha]
  simp
 ·rw [List.getElem?_set_ne (fun e=>c e.symm),Al,Al]
  by_cases c3:i<n
  ·rw [List.getElem?_range c3]
   simp [c]
  ·rw [List.getElem?_eq_none (by simp;lia)]
   rfl
theorem b3W{n m a b x:Nat}{f:Nat->Nat->Nat}(h:In m n f)(hx:x∈L7 m):In m n (chg f a b x):=fun r c hr hc=>by
 unfold chg
 by_cases k:r=a/\c=b
 ·rw [if_pos k];exact hx
 ·rw [if_neg k];exact h r c hr hc
theorem b3C{α:Type}(p:α->Bool)(l:List α):(l.filter p).take 1=(l.find? p).toList:=by
 rw [List.take_one,List.head?_filter]
theorem b8l{n m:Nat}(hn7:n<=7)(hm26:m<=26){g:Nat->Nat->Nat}(hg:In 26 n g):∃vs:List Nat,vs.Pairwise (· <=·)/\(∀x,x∈vs↔x∈(u7 n g).flatten)/\w4 [.list ((u7 n g).map row),.int m]=some (.own ((T9 m vs).toList.map fun x=>row [x])):=by
 have hnn:n*n<=7*7:=Nat.mul_le_mul hn7 hn7
 have hl:=a9E (n:=n) g
 obtain⟨vs,v1,v2,vl,v3⟩:=b5E (T:=(u7 n g).flatten) (by lia)
 have hj:V0 (.val (.str (AK ""))) (.val (.list ((u7 n g).map row)))=some (.val (row (u7 n g).flatten)):=by
  rw [show AK ""=S [] from rfl,a2D (rows:=u7 n g) rfl,a0g]
  rw [<-List.length_flatten]
  simp only [Ae,Nat.mul_zero]
  lia
 refine⟨vs,v1,v2, ?_⟩
 have ct:gSl (.val (row (L7 26))) none (some (m:Int))=some (.val (row (L7 m))):=by
  show gSl (.val (.str (S (L7 26)))) none (some (m:Int))=_
  rw [a9M (by decide),a8e]
  unfold L7 row
  rw [<-List.map_take,List.take_range,Nat.min_eq_left hm26]
 have cm:B1 1 (A6 (m1 a2E (m2 V0 (mC (.str "")) (a7 0)))) (d5 3) (mtB (m2 (a2B true) (a7 3) (a7 2))) F8 [some (.val (.list ((u7 n g).map row))),some (.val (.int m)),some (.val (row (L7 m)))]=some (.own ((vs.filter fun x=>decide (x∉L7 m)).map fun x=>row [x])):=by
  refine a8B (ι:=fun x=>row [x]) (f:=fun x=>row [x]) (q:=fun x=>decide (x∉L7 m)) vs (Q4 (r:= .ow (.lst (vs.map fun x=>row [x]))) (by simp (disch:=omega) only [g9,n6,g0,b9,AH,hj,v3]) rfl) (by lia) ?_
  intro x hx
  have hx26:x∈L7 26:=by
   obtain⟨r,c,hr,hc,rfl⟩:=K8.mp ((v2 x).mp hx)
   exact hg r c hr hc
  refine⟨_,rfl, ?_,fun _=> ?_⟩
  ·simp (disch:=omega) only [g9,b9,d4,r6,v7,AH,AZ,AU,Aa,Ad,AX,AY,a93 hm26 hx26]
  ·unfold F8
   simp (disch:=omega) only [b9,d4,b5,AH,AZ,AU,Aa,Ad,AX,AY]
 unfold w4 Z6
 simp (disch:=omega) only [g0,b9,d4,f7,t5,f8,a0M,f9,h9,f6,j0,AH,AQ,AW,AZ,AU,Aa,Ad,AX,AY,A3,A4,E4,P3,a75,ct,cm,b6u]
 rw [show(1:Int)=((1:Nat):Int) from rfl,a8e,<-List.map_take,b3C]
 rfl
theorem a9D{ps:List PV}(h:u4 ps 49=true):gEq (.own ps) (.own ps)=some (.val (.bool true)):=a9H (p:= .list ps) (by simpa [i9] using h)
theorem b81{n m:Nat}(hn:0<n)(hn7:n<=7)(hm26:m<=26){f:Nat->Nat->Nat}(hf:In m n f){N:Int}(hN0:0<=N):a0f [m5 n f,.int m,.int N]=some (.val (.bool true)):=by
 have hf26:In 26 n f:=fun r c hr hc=>y0.mpr (by have:=y0.mp (hf r c hr hc);lia)
 obtain⟨a,ea,ha⟩:∃a:Nat,N / 26 % n=(a:Int)/\a<n:=⟨(N / 26 % n).toNat,by have:=Int.emod_nonneg (N / 26) (b:=(n:Int)) (by lia);lia,by have:=Int.emod_nonneg (N / 26) (b:=(n:Int)) (by lia);have:=Int.emod_lt_of_pos (N / 26) (b:=(n:Int)) (by lia);lia⟩
 obtain⟨b,eb,hb⟩:∃b:Nat,N / 104 % n=(b:Int)/\b<n:=⟨(N / 104 % n).toNat,by have:=Int.emod_nonneg (N / 104) (b:=(n:Int)) (by lia);lia,by have:=Int.emod_nonneg (N / 104) (b:=(n:Int)) (by lia);have:=Int.emod_lt_of_pos (N / 104) (b:=(n:Int)) (by lia);lia⟩
 have ix:=b3L (i:=N % 26) (by lia) (by lia)
 have hx:97+(N % 26).toNat∈L7 26:=y0.mpr (by lia)
 generalize 97+(N % 26).toNat=x at ix hx
 have hrow:(u7 n f)[a]?=some ((AR n).map fun c=>f a c):=by
  unfold u7
  rw [Al,List.getElem?_range ha];rfl
 have e1:y6 (d0.bor ((u7 n f).map row)) (.val (.int (a:Nat)))=some (.val (row ((AR n).map fun c=>f a c))):=by
  show((L2.atI ((u7 n f).map row) ((a:Nat):Int)).map d0.val)=_
  rw [b3Q,Al,hrow];rfl
 have hl:a8r (.val (m5 n f))=some (.own ((u7 n f).map row)):=rfl
 have s1:gSl (.val (row ((AR n).map fun c=>f a c))) none (some (b:Int))=some (.val (row (((AR n).map fun c=>f a c).take b))):=by
  rw [<-a8e]
  exact a9M (by simp;lia)
 have s2:gSl (.val (row ((AR n).map fun c=>f a c))) (some ((b:Int)+1)) none=some (.val (row (((AR n).map fun c=>f a c).drop (b+1)))):=by
  rw [<-b34 (by simp;lia)]
  exact a9M (by simp;lia)
 have a1:E5 (.val (row (((AR n).map fun c=>f a c).take b))) (.val (row [x]))=some (.val (row (((AR n).map fun c=>f a c).take b++[x]))):=a8q (by simp;lia)
 have a2:E5 (.val (row (((AR n).map fun c=>f a c).take b++[x]))) (.val (row (((AR n).map fun c=>f a c).drop (b+1))))=some (.val (row ((AR n).map fun c=>if c=b then x else f a c))):=by
  rw [<-b55 hb fun c=>f a c]
  exact a8q (by simp;lia)
 have st:=b5z (i:=4) (ρ:=[some (.val (m5 n f)),some (.val (.int m)),some (.val (.int N)),some (.val (.int n)),some (.own ((u7 n f).map row)),some (.val (row [x])),some (.val (.int (a:Nat))),some (.val (.int (b:Nat))),none]) (p:=row ((AR n).map fun c=>if c=b then x else f a c)) (ps:=(u7 n f).map row) (z:=(a:Nat)) rfl (by lia) (by rw [Ac,P5];lia)
 rw [BG,<-List.map_set,b56 ha f] at st
 have hg:In 26 n (chg f a b x):=b3W hf26 hx
 obtain⟨vs,v1,v2,v3⟩:=b8l hn7 hm26 hg
 have hA:Y6 (.val (.list ((u7 n (chg f a b x)).map row)))=some (.val (m5 n (chg f a b x))):=rfl
 have fz:∀nn:MS,a43 4 nn [some (.val (m5 n f)),some (.val (.int m)),some (.val (.int N)),some (.val (.int n)),some (.own ((u7 n (chg f a b x)).map row)),some (.val (row [x])),some (.val (.int (a:Nat))),some (.val (.int (b:Nat))),none]=nn [some (.val (m5 n f)),some (.val (.int m)),some (.val (.int N)),some (.val (.int n)),some (.val (.list ((u7 n (chg f a b x)).map row))),some (.val (row [x])),some (.val (.int (a:Nat))),some (.val (.int (b:Nat))),none]:=fun nn=>rfl
 cases hb':T9 m vs with
 |none=>
  rw [hb'] at v3
  have v3:w4 [.list ((u7 n (chg f a b x)).map row),.int m]=some (.own []):=v3
  have q:gEq (.bor []) (.own [])=some (.val (.bool true)):=rfl
  unfold a0f a3P
  simp (disch:=omega) only [v4,a0I,n4,z6,g9,n6,g0,b9,L9,d4,b6,b0,b5,k4,e7,f7,t5,D5,f8,v0,f9,h9,f6,j0,b2a,c0r,AH,AQ,AW,AZ,AU,Aa,Ad,AX,AY,Ae,↓reduceIte,A3,A4,E4,P3,sz,Ah,hl,K4,a75,ix,ea,eb,a0I,A3,A4,P3,e1,s1,s2,a1,a2,st,fz,v3,q]
  try rfl
 |some y=>
  rw [hb'] at v3
  have v3:w4 [.list ((u7 n (chg f a b x)).map row),.int m]=some (.own [row [y]]):=v3
  have q:gEq (.bor [row [y]]) (.own [])=some (.val (.bool false)):=rfl
  have oc:=b1a (a7L (by lia:n<=8) hm26 hg v1 v2 hb') (by rfl) (a6p y)
  have i0:y6 (.bor [row [y]]) (.val (.int 0))=some (.val (row [y])):=rfl
  have q2:=a9D (ps:=[.str (AK "colour"),row [y]]) (by rfl)
  unfold a0f a3P
  simp (disch:=omega) only [v4,a0I,n4,z6,g9,n6,g0,b9,L9,d4,b6,b0,b5,k4,e7,f7,t5,D5,f8,v0,f9,h9,f6,j0,b2a,c0q,AH,AQ,AW,AZ,AU,Aa,Ad,AX,AY,AT,Ae,↓reduceIte,A3,A4,E4,P3,sz,Nat.reduceAdd,Ah,hl,K4,a75,ix,ea,eb,a0I,A3,A4,P3,e1,s1,s2,a1,a2,st,fz,v3,q,hA,oc,i0,q2]
  try rfl
theorem b3o{n:Nat}(hn:0<n)(hn8:n<=8):FX0 n 1=[u7 n fun _ _=>97]:=by
 have hm:u7 n (fun _ _=>97)∈D6 n 1:=a9u fun r c _ _=>y0.mpr (by lia)
 have hl:=a12 n 1
 rw [Nat.one_pow] at hl
 obtain⟨A,hA⟩:=List.length_eq_one_iff.mp hl
 rw [hA] at hm
 have e:=List.mem_singleton.mp hm
 have ho:Own n A:=by
  obtain⟨B,hB⟩:=b0X hn hn8 fun _ _=>97
  have hBm:B∈D6 n 1:=a8J hn (fun r c _ _=>y0.mpr (by lia)) hB.1
  rw [hA] at hBm
  rw [<-List.mem_singleton.mp hBm]
  exact b1h hn hB
 show frm n (D6 n 1)=_
 rw [hA,a8p,if_pos ho,e]
theorem c0C{n:Nat}(hn8:n<=8):J6 (.val (.str (AK "a"))) (.val (.int n))=some (.val (row ((AR n).map fun _=>97))):=by
 rw [show AK "a"=S [97] from rfl,b6s ⟨⟨by lia,by lia⟩,by decide⟩]
 show some (d0.val (row _))=_
 rw [BG,List.map_const',At,List.flatten_replicate_singleton]
theorem b84{n:Nat}(hn:0<n)(h5:n<=5):E6 [.int n]=some (.val (.bool true)):=by
 have fo:=b3o hn (by lia:n<=8)
 have hN:1 ^(n*n)<=600:=by rw [Nat.one_pow];lia
 have fe:=a1u hn h5 (by lia:0<1) (by lia) hN
 have hf:In 1 n fun _ _=>97:=fun r c _ _=>y0.mpr (by show 97<=97/\97<97+1;lia)
 obtain⟨A,hA⟩:=b0X hn (by lia:n<=8) fun _ _=>97
 obtain⟨j,j1,j2,j3⟩:=a99 hn hf hN hA
 have nu:=a39 hn h5 (by lia) (by lia) hN hf hA j3
 have hj:j=0:=by
  have:=(As.mp j2).1
  rw [fo] at this
  simpa using this
 subst hj
 have oc:j6 [d9 (u7 n fun _ _=>97),.int 1]=some (.own [.str (AK "told"),.int 0]):=a6g nu
 have by0:l6 [.int n,.int 1,.int 0]=some (.own [.str (AK "told"),d9 (u7 n fun _ _=>97)]):=a9s (a69 hn h5 (by lia:0<1) (by lia) hN (j:=0) (A:=u7 n fun _ _=>97) (by rw [fo];rfl))
 have by1:l6 [.int n,.int 1,.int 1]=some (.own [.str (AK "number"),.none]):=b0C (a68 hn h5 (by lia:0<1) (by lia) hN (p:= .int 1) (by rw [fo,a1Z];rfl)) (by rfl) a6q
 rw [fo] at fe
 have cm:B1 1 (C9 (a0 (a7 0) b7)) (d5 2) M7 F9 [some (.val (.int n)),none]=some (.own ((u7 n fun _ _=>97).map row)):=by
  rw [B2 (f:=fun r:Nat=>row ((AR n).map fun _=>97)) (AR n) (O0 (n:=n) rfl (by lia)) (by rw [At];lia)]
  ·unfold u7
   rw [Aw]
   rfl
  ·intro r hr
   refine⟨_,rfl, ?_⟩
   unfold F9
   simp (disch:=omega) only [g9,g0,b9,b5,AH,AZ,AU,Aa,Ad,AX,AY,c0C (by lia:n<=8)]
 have hT:Y6 (.own ((u7 n fun _ _=>97).map row))=some (.val (d9 (u7 n fun _ _=>97))):=rfl
 have lf:left k6 [.int n,.int 1]=some (.own [d9 (u7 n fun _ _=>97)]):=by
  unfold left
  rw [show k6 [.int n,.int 1]=_ from fe]
  rfl
 generalize u7 n (fun _ _=>97)=R at*
 have k:=a0D R
 have k9:i9 (d9 R) 49=true:=by
  show i9 (.tuple _) 49=true
  simp only [i9]
  exact U7 48 _
 have n1:gNe (.own [d9 R]) (.own [d9 R])=some (.val (.bool false)):=a3h (p:= .list [d9 R]) (by simp [i9,u4,k9])
 have n2:gNe (.own [.str (AK "told"),.int 0]) (.own [.str (AK "told"),.int 0])=some (.val (.bool false)):=by rfl
 have q1:gEq (.own [.str (AK "told"),d9 R]) (.own [.str (AK "told"),d9 R])=some (.val (.bool true)):=a9D (by simp [i9,u4,k9])
 have q2:gEq (.own [.str (AK "number"),.none]) (.own [.str (AK "number"),.none])=some (.val (.bool true)):=by rfl
 unfold E6 Z7
 simp (disch:=omega) only [g9,n6,g0,b9,d4,b6,b0,b5,k4,e7,f7,t5,f8,v0,f9,h9,o8,X5,o9,f6,j0,r6,v7,a1K,a97,G3,a5y,AH,AQ,AW,AZ,AU,Aa,Ad,AX,AY,AT,Ae,↓reduceIte,sz,Nat.reduceAdd,Ah,cm,hT,lf,n1,oc,n2,by0,q1,by1,q2]
 try rfl
theorem b15{n m:Nat}(hm:m<=26){k:Nat}(hk:k<=100){N:Int}:∃q4,N5 z7 (d5 4) (G0 0 k) [some (.val (.int N)),some (.val (.int n)),some (.val (.int m)),some (.val (.int 1)),none,none,none,none]=some (.nx [some (.val (.int N)),some (.val (.int n)),some (.val (.int m)),some (.val (.int ((m ^ k:Nat):Int))),q4,none,none,none]):=by
 obtain⟨ρ1,e1,q4,rfl⟩:=C3 (body:=z7) (tg:=d5 4) (fun i ρ=>∃q4:Option d0,ρ=[some (.val (.int N)),some (.val (.int n)),some (.val (.int m)),some (.val (.int ((m ^ i:Nat):Int))),q4,none,none,none])
  (ps:=G0 0 k) (ρ:=[some (.val (.int N)),some (.val (.int n)),some (.val (.int m)),some (.val (.int 1)),none,none,none,none])
  (by
   rintro i p hp ρ ⟨q4,rfl⟩
   obtain⟨rfl,hi⟩:=T4 hp
   refine P6 rfl (ρ2:=[some (.val (.int N)),some (.val (.int n)),some (.val (.int m)),some (.val (.int ((m ^(i+1):Nat):Int))),some (.val (.int ((0:Int)+(i:Int)))),none,none,none]) ?_ ⟨_,rfl⟩
   unfold z7
   rw [Nat.pow_succ,Int.natCast_mul]
   simp (disch:=omega) only [b6t,g9,b9,d4,f7,t5,AH,AX,AY]) ⟨none,rfl⟩
 rw [C1,show((k:Int) - 0).toNat=k by lia] at e1
 exact⟨q4,e1⟩
theorem b4L{n:Nat}(hn:1<n)(hn8:n<=8)(f:Nat->Nat->Nat):∃r:List Nat,y6 (.val (m5 n f)) (.val (.int (-1)))=some (.val (row r))/\gSl (.val (row r)) none (some (-1))=some (.val (row (r.take (n - 1))))/\E5 (.val (row (r.take (n - 1)))) (.val (.str (AK "z")))=some (.val (row (r.take (n - 1)++[122])))/\
 gSl (.val (m5 n f)) none (some (-1))=some (.val (d9 ((u7 n f).take (n - 1))))/\E5 (.val (d9 ((u7 n f).take (n - 1)))) (.val (.tuple [row (r.take (n - 1)++[122])]))=some (.val (m5 n (chg f (n - 1) (n - 1) 122))):=by
 have cutm:∀{α:Type} (w:List α),w.length=n->cut w none (some (-1))=w.take (n - 1):=fun w hw=>by
  unfold cut
  rw [HT.sIx_none,List.drop_zero,Nat.sub_zero]
  congr 1
  rw [hw]
  show(HT.sIx n n (some (-1)))=n - 1
  simp [HT.sIx]
  try lia
 have hl:=P5 n f
 have e1:(u7 n f)[n - 1]?=some ((AR n).map fun c=>f (n - 1) c):=by
  unfold u7
  rw [Al,List.getElem?_range (by lia)];rfl
 refine⟨(AR n).map fun c=>f (n - 1) c, ?_, ?_, ?_, ?_, ?_⟩
 ·show(L2.atI ((u7 n f).map row) (-1)).map d0.val=_
  have:L2.atI ((u7 n f).map row) (-1)=((u7 n f).map row)[n - 1]?:=by
   unfold L2.atI L2.ixN
   rw [if_neg (by lia),Ac,hl,if_pos (by lia),AH]
   congr 1
   lia
  rw [this,Al,e1];rfl
 ·show gSl (.val (.str (S _))) none (some (-1))=_
  rw [a9M (by simp;lia),cutm _ (by simp)]
  try rfl
 ·rw [show(.str (AK "z"):PV)=row [122] from rfl]
  exact a8q (by simp;lia)
 ·show gSl (.val (.tuple ((u7 n f).map row))) none (some (-1))=_
  rw [b6v,cutm _ (by rw [Ac,hl])]
  show _=some (d0.val (.tuple (((u7 n f).take (n - 1)).map row)))
  rw [List.map_take]
 ·have e2:(u7 n f).take (n - 1)++[((AR n).map fun c=>f (n - 1) c).take (n - 1)++[122]]=u7 n (chg f (n - 1) (n - 1) 122):=by
   obtain⟨k,rfl⟩:∃k,n=k+1:=⟨n - 1,by lia⟩
   rw [Nat.add_sub_cancel]
   unfold u7 chg
   rw [<-List.map_take,List.take_range,Nat.min_eq_left (by lia),<-List.map_take,List.take_range,Nat.min_eq_left (by lia)]
   rw [List.range_succ,BF,AQ,AW,BF,AQ,AW,if_pos ⟨rfl,rfl⟩]
   congr 1
   ·refine List.map_congr_left fun r hr=> ?_
    have hr:=List.mem_range.mp hr
    refine List.map_congr_left fun c hc=> ?_
    rw [if_neg (by lia)]
   ·congr 2
    refine List.map_congr_left fun c hc=> ?_
    have hc:=List.mem_range.mp hc
    rw [if_neg (by lia)]
  have hne:(u7 n f).take (n - 1)≠[]:=by
   intro h
   have:=congrArg List.length h
   rw [List.length_take,hl] at this
   simp at this
   lia
  cases hR:(u7 n f).take (n - 1) with
  |nil=>exact absurd hR hne
  |cons a R=>
   rw [hR] at e2
   have:=a5x (A:=a::R) (r:=((AR n).map fun c=>f (n - 1) c).take (n - 1)++[122]) (by
    have:=congrArg List.length hR
    rw [List.length_take,hl] at this
    lia)
   rw [e2] at this
   exact this
theorem b54{m z:Nat}{us:List Nat}(h:∀x∈us,x∉L7 m->x=z)(hz:z∈us)(hm:z∉L7 m):T9 m us=some z:=by
 unfold T9
 cases e:us.find? fun x=>decide (x∉L7 m) with
 |none=>
  have:=List.find?_eq_none.mp e z hz
  simp [hm] at this
 |some y=>
  have h1:=List.mem_of_find?_eq_some e
  have h2:=List.find?_some e
  rw [h y h1 (by simpa using h2)]
theorem a2T{n m:Nat}(hn:1<n)(hn8:n<=8)(hm:0<m)(hm26:m<=26)(hN:600<m ^(n*n)){N:Int}(hh:b3f [1,2] (m2 y6 (B3 (a0 (J3 (a0 (mC (.int 2)) (a0 (mC (.int 5)) b7))) (a0 (J3 (a0 (mC (.int 3)) (a0 (mC (.int 3)) b7))) (a0 (J3 (a0 (mC (.int 2)) (a0 (mC (.int 26)) b7))) (a0 (J3 (a0 (mC (.int 4)) (a0 (mC (.int 2)) b7))) (a0 (J3 (a0 (mC (.int 8)) (a0 (mC (.int 26)) b7))) (a0 (J3 (a0 (mC (.int 5)) (a0 (m2 E5 (mC (.int 1)) (m2 (M5 (fun _ j=>0<j) fun i j=> .int (i % j)) (m2 (M5 a02 fun i j=> .int (i / j)) (a7 0) (mC (.int 8))) (mC (.int 3)))) b7))) b7))))))) (m2 (M5 (fun _ j=>0<j) fun i j=> .int (i % j)) (a7 0) (mC (.int 6)))) [some (.val (.int N)),none,none,none,none,none,none,none]=some (.nx [some (.val (.int N)),some (.val (.int n)),some (.val (.int m)),none,none,none,none,none])):A8 [.int N]=some (.val (.bool true)):=by
 have hnn:n*n<=8*8:=Nat.mul_le_mul hn8 hn8
 obtain⟨q4,lp⟩:=b15 (n:=n) hm26 (k:=n*n) (by lia) (N:=N)
 rw [Int.natCast_mul] at lp
 have lc:=a50 hn8 hm hm26 N
 have hf:=b3U N n hm
 generalize cfL N n m=f at lc hf
 obtain⟨r,l1,l2,l3,l4,l5⟩:=b4L hn hn8 f
 have hf26:In 26 n f:=fun r c hr hc=>y0.mpr (by have:=y0.mp (hf r c hr hc);lia)
 have hg:In 26 n (chg f (n - 1) (n - 1) 122):=b3W hf26 (y0.mpr (by lia))
 have od:m<26->j6 [m5 n (chg f (n - 1) (n - 1) 122),.int m]=some (.own [.str (AK "colour"),row [122]]):=fun h=>by
  obtain⟨us,u1,u2,_⟩:=a5d (m:=m) hn8 hm26 hg
  refine b1a (a7L hn8 hm26 hg (u1.imp fun h=>BE h) u2 (b54 (z:=122) (fun x hx hb=> ?_) ((u2 122).mpr (K8.mpr ⟨n - 1,n - 1,by lia,by lia,by simp [chg]⟩)) (fun k=>by have:=y0.mp k;lia))) (by rfl) (a6p 122)
  obtain⟨r,c,hr,hc,rfl⟩:=K8.mp ((u2 x).mp hx)
  unfold chg at hb ⊢
  by_cases k:r=n - 1/\c=n - 1
  ·rw [if_pos k]
  ·rw [if_neg k] at hb
   exact absurd (hf r c hr hc) hb
 have oc:=b1a (b09 hn8 hm26 hN hf) (by rfl) (a6r _)
 have bn:=b0C (b0F hn8 hm26 hN (.str (AK "x"))) (by rfl) (a6r _)
 have h6:¬((m ^(n*n):Nat):Int)<=600:=by lia
 have fz:∀(nn:MS) (q0 q1 q2 q3 q4 q5 q6:Option d0) (p:PV),a43 7 nn [q0,q1,q2,q3,q4,q5,q6,some (.val p)]=nn [q0,q1,q2,q3,q4,q5,q6,some (.val p)]:=fun _ _ _ _ _ _ _ _ _=>rfl
 generalize ((m ^(n*n):Nat):Int)=P at*
 have qq:gEq (.own [.str (AK "large"),.int P]) (.bor [.str (AK "large"),.int P])=some (.val (.bool true)):=a9H (p:= .list [.str (AK "large"),.int P]) (by rfl)
 have n2:gNe (.own [.str (AK "colour"),row [122]]) (.own [.str (AK "colour"),.str (AK "z")])=some (.val (.bool false)):=a3h (p:= .list [.str (AK "colour"),row [122]]) (by rfl)
 unfold A8 T8
 rw [f6]
 simp only [AQ,AW,AZ,AU,Aa,Ad]
 rw [f9,hh,AH,h9]
 by_cases h26:m<26
 ·have h26':(m:Int)<26:=by lia
  simp (disch:=omega) only [S6,a5S,a5P,g9,g0,b9,L9,d4,b6,b0,b5,p0,k4,e7,f7,t5,D5,f8,v0,f9,h9,o8,X5,o9,j0,r6,v7,a7H,b8b,G3,a5y,a3o,a8H,v5,C5,P4,AH,AX,AY,AT,Ae,↓reduceIte,A3,A4,E4,P3,sz,Nat.reduceAdd,Ah,Int.reduceNeg,lp,decide_eq_false h6,lc,l1,l2,l3,l4,l5,fz,decide_eq_true h26',od h26,n2,oc,qq,bn]
  try rfl
 ·have h26':¬(m:Int)<26:=by lia
  simp (disch:=omega) only [S6,a5S,a5P,g9,g0,b9,L9,d4,b6,b0,b5,p0,k4,e7,f7,t5,D5,f8,v0,f9,h9,o8,X5,o9,j0,r6,v7,a7H,b8a,G3,a5y,a3o,a8H,v5,C5,P4,AH,AX,AY,AT,Ae,↓reduceIte,A3,A4,E4,P3,sz,Nat.reduceAdd,Ah,Int.reduceNeg,lp,decide_eq_false h6,lc,l1,l2,l3,l4,l5,fz,decide_eq_false h26',oc,qq,bn]
  try rfl
theorem c0R{N:Int}(h0:0<=N):A8 [.int N]=some (.val (.bool true)):=by
 have h6:N % 6=0\/N % 6=1\/N % 6=2\/N % 6=3\/N % 6=4\/N % 6=5:=by lia
 rcases h6 with h|h|h|h|h|h
 ·refine a2T (n:=2) (m:=5) (by lia) (by lia) (by lia) (by lia) (by decide) ?_
  simp (disch:=omega) only [v4,n4,z6,g9,g0,b9,b6,b0,b5,p0,k4,L8,AH,AT,Ae,↓reduceIte,sz,Nat.reduceAdd,Ah,Int.cast_ofNat_Int,h]
  rfl
 ·refine a2T (n:=3) (m:=3) (by lia) (by lia) (by lia) (by lia) (by decide) ?_
  simp (disch:=omega) only [v4,n4,z6,g9,g0,b9,b6,b0,b5,p0,k4,L8,AH,AT,Ae,↓reduceIte,sz,Nat.reduceAdd,Ah,Int.cast_ofNat_Int,h]
  rfl
 ·refine a2T (n:=2) (m:=26) (by lia) (by lia) (by lia) (by lia) (by decide) ?_
  simp (disch:=omega) only [v4,n4,z6,g9,g0,b9,b6,b0,b5,p0,k4,L8,AH,AT,Ae,↓reduceIte,sz,Nat.reduceAdd,Ah,Int.cast_ofNat_Int,h]
  rfl
 ·refine a2T (n:=4) (m:=2) (by lia) (by lia) (by lia) (by lia) (by decide) ?_
  simp (disch:=omega) only [v4,n4,z6,g9,g0,b9,b6,b0,b5,p0,k4,L8,AH,AT,Ae,↓reduceIte,sz,Nat.reduceAdd,Ah,Int.cast_ofNat_Int,h]
  rfl
 ·refine a2T (n:=8) (m:=26) (by lia) (by lia) (by lia) (by lia) (by decide) ?_
  simp (disch:=omega) only [v4,n4,z6,g9,g0,b9,b6,b0,b5,p0,k4,L8,AH,AT,Ae,↓reduceIte,sz,Nat.reduceAdd,Ah,Int.cast_ofNat_Int,h]
  rfl
 ·have h3:N / 8 % 3=0\/N / 8 % 3=1\/N / 8 % 3=2:=by lia
  rcases h3 with k|k|k
  ·obtain⟨j,ej,hj⟩:∃j:Nat,4+N / 24 % 2=(j:Int)/\0<j/\j<=5:=⟨(4+N / 24 % 2).toNat,by lia,by lia,by lia⟩
   have oc:=b84 hj.1 hj.2
   obtain⟨q4,lp⟩:=b15 (n:=5) (m:=1) (by lia) (k:=25) (by lia) (N:=N)
   rw [Nat.one_pow] at lp
   have lp:N5 z7 (d5 4) (G0 0 25) [some (.val (.int N)),some (.val (.int 5)),some (.val (.int 1)),some (.val (.int 1)),none,none,none,none]=some (.nx [some (.val (.int N)),some (.val (.int 5)),some (.val (.int 1)),some (.val (.int 1)),q4,none,none,none]):=lp
   have ix:∀a b c d e:PV,y6 (.own [a,b,c,d,e,.tuple [.int 5,.int 1]]) (.val (.int 5))=some (.val (.tuple [.int 5,.int 1])):=fun _ _ _ _ _=>rfl
   have le:decide ((1:Int)<=600)=true:=rfl
   unfold A8 T8
   simp (disch:=omega) only [v4,S6,a5P,n4,z6,g9,g0,b9,d4,b6,b0,b5,p0,k4,e7,f7,t5,D5,f8,v0,f9,h9,a2a,o8,a3k,f6,j0,r6,v7,L8,b5M,v5,C5,P4,AH,AQ,AW,AZ,AU,Aa,Ad,AX,AY,AT,Ae,↓reduceIte,sz,Nat.reduceAdd,Ah,Int.reduceMul,Int.reduceAdd,h,k,ix,lp,le,ej,oc]
   try rfl
  ·refine a2T (n:=5) (m:=2) (by lia) (by lia) (by lia) (by lia) (by decide) ?_
   simp (disch:=omega) only [v4,n4,z6,g9,g0,b9,b6,b0,b5,p0,k4,L8,AH,AT,Ae,↓reduceIte,sz,Nat.reduceAdd,Ah,Int.reduceAdd,Int.cast_ofNat_Int,h,k]
   rfl
  ·refine a2T (n:=5) (m:=3) (by lia) (by lia) (by lia) (by lia) (by decide) ?_
   simp (disch:=omega) only [v4,n4,z6,g9,g0,b9,b6,b0,b5,p0,k4,L8,AH,AT,Ae,↓reduceIte,sz,Nat.reduceAdd,Ah,Int.reduceAdd,Int.cast_ofNat_Int,h,k]
   rfl
theorem b94{cs:List Int}{k:Nat}(h:k<cs.length):∃c:Int,y6 (.val (.list (cs.map .int))) (.val (.int (k:Nat)))=some (.val (.int c)):=by
 refine⟨cs[k], ?_⟩
 show((L2.atI (cs.map PyData.int) ((k:Nat):Int)).map d0.val)=_
 rw [b3Q,Al,Az h];rfl
theorem b7v{n m:Nat}(hn:0<n)(h3:n<=3)(hm:0<m)(hm26:m<=26)(hN:m ^(n*n)<=600){ns:List Int}{A:Int}{k:Nat}(hk:k<ns.length)(hk63:k<100)(q6 q7 q8 q9 q10 q11:Option d0):
 ∃p6 p7 p8 p9 p10 p11,a1A [scL ns,some (.val (.int A)),some (.val (.int n)),some (.val (.int m)),some (.own ((FX0 n m).map d9)),some (.val (.int (k:Nat))),q6,q7,q8,q9,q10,q11]=some (.nx [scL ns,some (.val (.int A)),some (.val (.int n)),some (.val (.int m)),some (.own ((FX0 n m).map d9)),some (.val (.int (k:Nat))),p6,p7,p8,p9,p10,p11]):=by
 obtain⟨c,hc⟩:=b94 hk
 have x:=a17 (c:=c) (k:=(k:Int)) (by lia)
 have hx:=(b04 c k).1
 generalize a2L c k=N at x hx
 have lc:=a50 (by lia:n<=8) hm hm26 c
 have hf:=b3U c n hm
 generalize cfL c n m=f at lc hf
 obtain⟨L,hL,el⟩:=b3a hn (by lia:n<=8) f
 obtain⟨w,hw,d,t,hd,ht,em⟩:=a8F hn (by lia:n<=8) N
 have mv:=a7F hn (by lia:n<=8) f hw (d:Nat) (t:Nat)
 have hO:Of n f (u7 n (mvd n f w (d:Nat) (t:Nat))):=⟨w,hw,d,t,hd,ht,rfl⟩
 generalize mvd n f w (d:Nat) (t:Nat)=g at mv hO
 have hg:In m n g:=fun r c hr hc=>by
  have h1:=a8J hn hf hO
  have h2:=a9t h1 hr hc
  have e:=b1k.mp (a4h (Z8 h1)) r c hr hc
  rwa [e] at h2
 have hLg:Lst n g L:=hL.tr hn (hO.back hn)
 obtain⟨j,j1,j2,j3⟩:=a99 hn hf hN hL
 have n1:=a6g (a39 hn (by lia:n<=5) hm hm26 hN hf hL j3)
 have n2:=a6g (a39 hn (by lia:n<=5) hm hm26 hN hg hLg j3)
 obtain⟨C,hC,nC⟩:∃C:PV,y6 (.own [m5 n f,m5 n g]) (.val (.int ((k:Int) % 2)))=some (.val C)/\j6 [C,.int m]=some (.own [.str (AK "told"),.int (j:Nat)]):=by
  have:(k:Int) % 2=0\/(k:Int) % 2=1:=by lia
  rcases this with e|e
  ·rw [e];exact⟨_,rfl,n1⟩
  ·rw [e];exact⟨_,rfl,n2⟩
 have bt:=a9s (a69 hn (by lia:n<=5) hm hm26 hN j2)
 have od:=b81 hn (by lia:n<=7) hm26 hf (N:=N / 72) (by lia)
 have hlen:(FX0 n m).length<=600:=by
  have:(FX0 n m).length<=(D6 n m).length:=List.length_filter_le ..
  rw [a12] at this
  lia
 obtain⟨y,hy,ny⟩:∃y:PV,y6 (.own [.int (-1),.int ((FX0 n m).length:Nat),.none,.bool true,.str (AK "0"),.list [.int 0],.int 1000000000000000000000000000000]) (.val (.int (N / 7 % 7)))=some (.val y)/\y9 [.int ((FX0 n m).length:Nat),y]=some (.val (.bool false)):=by
  have h7:N / 7 % 7=0\/N / 7 % 7=1\/N / 7 % 7=2\/N / 7 % 7=3\/N / 7 % 7=4\/N / 7 % 7=5\/N / 7 % 7=6:=by lia
  rcases h7 with e|e|e|e|e|e|e<;>rw [e]
  ·exact⟨_,rfl,by rw [a1Z];rfl⟩
  ·exact⟨_,rfl,by rw [a1Z];simp⟩
  ·exact⟨_,rfl,b6S _⟩
  ·exact⟨_,rfl,b6R _ _⟩
  ·exact⟨_,rfl,b80 _ _⟩
  ·exact⟨_,rfl,b8Z _ _⟩
  ·exact⟨_,rfl,by rw [a1Z,decide_eq_false (show ¬(1000000000000000000000000000000:Int)<((FX0 n m).length:Nat) by lia),Bool.and_false]⟩
 have by1:=b0C (a68 hn (by lia:n<=5) hm hm26 hN ny) (by rfl) a6q
 have k9:i9 (d9 L) 49=true:=by
  show i9 (.tuple _) 49=true
  simp only [i9]
  exact U7 48 _
 have e1:y6 (.bor [.str (AK "told"),.int (j:Nat)]) (.val (.int 1))=some (.val (.int (j:Nat))):=rfl
 have e2:gNe (.bor [.str (AK "told"),.int (j:Nat)]) (.own [.str (AK "told"),.int (j:Nat)])=some (.val (.bool false)):=a3h (p:= .list [.str (AK "told"),.int (j:Nat)]) (by rfl)
 have e3:gNe (.own [.str (AK "told"),d9 L]) (.own [.str (AK "told"),d9 L])=some (.val (.bool false)):=a3h (p:= .list [.str (AK "told"),d9 L]) (by simp [i9,u4,k9])
 have e4:gNe (.own [.str (AK "number"),.none]) (.own [.str (AK "number"),.none])=some (.val (.bool false)):=by rfl
 have wh:=b3D (j:Nat)
 unfold a1A
 refine⟨some (.val (.int N)),some (.val (m5 n f)),some (.val (d9 L)),some (.val (m5 n g)),some (.own [.str (AK "told"),.int (j:Nat)]),some (.val y), ?_⟩
 simp (disch:=omega) only [n4,z6,b4y,a5Q,g9,n6,g0,b9,L9,d4,b6,b0,b5,J7,k4,e7,f7,t5,D5,f9,h9,o8,X5,o9,a0K,r6,v7,a6G,O2,a1K,a97,a3o,a8H,AH,Av,AX,AY,AT,Ae,↓reduceIte,Bool.not_true,Ac,sz,Nat.reduceAdd,Ah,Int.reducePow,Int.reduceToNat,Int.reduceNeg,hc,x,lc,el,em,mv,hC,nC,e1,wh,j3,e2,bt,e3,od,hy,by1,e4]
 try rfl
theorem main:∀ns:List Int,ns.length<=63->b7Q [.list (ns.map .int)]=some (.val (.bool true)):=by
 intro ns hl
 obtain⟨c0,hc0⟩:=a7b (ns:=ns) (k:=0) (by lia)
 obtain⟨c1,hc1⟩:=a7b (ns:=ns) (k:=1) (by lia)
 have x0:=a17 (c:=c0) (k:=0) (by lia)
 have x1:=a17 (c:=c1) (k:=1) (by lia)
 have hA:=(b04 c0 0).1
 have hB:=(b04 c1 1).1
 generalize a2L c0 0=A at x0 hA
 generalize a2L c1 1=B at x1 hB
 have tm:=c0R hB
 have go:∀n m K:Nat,0<n->n<=3->0<m->m<=26->m ^(n*n)<=600->K<=ns.length->left k6 [.int n,.int m]=some (.own ((FX0 n m).map d9))/\∃ρ',N5 a1A (d5 5) (G0 2 K) [scL ns,some (.val (.int A)),some (.val (.int n)),some (.val (.int m)),some (.own ((FX0 n m).map d9)),none,none,none,none,none,none,none]=some (.nx ρ'):=fun n m K hn h3 hm hm26 hN hK=>by
  refine⟨?_, ?_⟩
  ·unfold left
   rw [a1u hn (by lia:n<=5) hm hm26 hN]
   rfl
  ·obtain⟨ρ',e,_⟩:=C3 (body:=a1A) (tg:=d5 5) (fun _ ρ=>∃q5 q6 q7 q8 q9 q10 q11:Option d0,ρ=[scL ns,some (.val (.int A)),some (.val (.int n)),some (.val (.int m)),some (.own ((FX0 n m).map d9)),q5,q6,q7,q8,q9,q10,q11])
    (ps:=G0 2 K) (ρ:=[scL ns,some (.val (.int A)),some (.val (.int n)),some (.val (.int m)),some (.own ((FX0 n m).map d9)),none,none,none,none,none,none,none])
    (by
     rintro i p hp ρ ⟨q5,q6,q7,q8,q9,q10,q11,rfl⟩
     obtain⟨rfl,hi⟩:=T4 hp
     rw [show(2:Int)+(i:Int)=((2+i:Nat):Int) by lia]
     obtain⟨p6,p7,p8,p9,p10,p11,e⟩:=b7v hn h3 hm hm26 hN (ns:=ns) (A:=A) (k:=2+i) (by lia) (by lia) q6 q7 q8 q9 q10 q11
     exact P6 rfl e ⟨_,_,_,_,_,_,_,rfl⟩) ⟨none,none,none,none,none,none,none,rfl⟩
   exact⟨ρ',e⟩
 obtain⟨n,hn,en⟩:∃n:Nat,(n=1\/n=2\/n=3)/\y6 (.own [.int 1,.int 2,.int 2,.int 3]) (.val (.int (A % 4)))=some (.val (.int (n:Nat))):=by
  have:A % 4=0\/A % 4=1\/A % 4=2\/A % 4=3:=by lia
  rcases this with h|h|h|h<;>rw [h]
  ·exact⟨1,.inl rfl,rfl⟩
  ·exact⟨2,.inr (.inl rfl),rfl⟩
  ·exact⟨2,.inr (.inl rfl),rfl⟩
  ·exact⟨3,.inr (.inr rfl),rfl⟩
 obtain⟨m0,hm0,em0⟩:∃m0:Nat,(0<m0/\(n=1->m0<=26)/\(n=2->m0<=3)/\(n=3->m0=1))/\y6 (.own [.int (1+A / 4 % 26),.int (1+A / 4 % 3),.int 1]) (.val (.int ((n:Int) - 1)))=some (.val (.int (m0:Nat))):=by
  rcases hn with rfl|rfl|rfl
  ·exact⟨(1+A / 4 % 26).toNat,by lia,by
    rw [show(((1+A / 4 % 26).toNat:Nat):Int)=1+A / 4 % 26 by lia];rfl⟩
  ·exact⟨(1+A / 4 % 3).toNat,by lia,by
    rw [show(((1+A / 4 % 3).toNat:Nat):Int)=1+A / 4 % 3 by lia];rfl⟩
  ·exact⟨1,by lia,rfl⟩
 obtain⟨m,hm,em⟩:∃m:Nat,(0<m/\(n=1->m<=26)/\(n=2->m<=4)/\(n=3->m=1))/\V5 (mtB (m2 gEq (m2 (M5 (fun _ j=>0<j) fun i j=> .int (i % j)) (m2 (M5 a02 fun i j=> .int (i / j)) (a7 1) (mC (.int 128))) (mC (.int 10))) (mC (.int 0)))) (m9 3 (m2 y6 (B3 (a0 (a7 3) (a0 (mC (.int 4)) (a0 (mC (.int 1)) b7)))) (m2 (gI fun i j=> .int (i - j)) (a7 2) (mC (.int 1))))) B4 [scL ns,some (.val (.int A)),some (.val (.int n)),some (.val (.int m0)),none,none,none,none,none,none,none,none]=some (.nx [scL ns,some (.val (.int A)),some (.val (.int n)),some (.val (.int m)),none,none,none,none,none,none,none,none]):=by
  by_cases h:A / 128 % 10=0
  ·have hb:(A / 128 % 10==0)=true:=by rw [h];rfl
   obtain⟨m,hm,e⟩:∃m:Nat,(0<m/\(n=1->m<=26)/\(n=2->m<=4)/\(n=3->m=1))/\y6 (.own [.int (m0:Nat),.int 4,.int 1]) (.val (.int ((n:Int) - 1)))=some (.val (.int (m:Nat))):=by
    rcases hn with rfl|rfl|rfl
    ·exact⟨m0,by lia,rfl⟩
    ·exact⟨4,by lia,rfl⟩
    ·exact⟨1,by lia,rfl⟩
   refine⟨m,hm, ?_⟩
   simp (disch:=omega) only [a30,n4,z6,g9,g0,b9,d4,b6,b0,b5,k4,f7,t5,o8,a3k,r6,v7,AH,AX,AY,AT,Ae,↓reduceIte,sz,Nat.reduceAdd,Ah,b1W,b1W,hb,e]
   try rfl
  ·have hb:(A / 128 % 10==0)=false:=by simpa using h
   refine⟨m0,by lia, ?_⟩
   simp (disch:=omega) only [n4,z6,g9,g0,b9,d4,o8,X5,o9,r6,v7,AH,b1W,b1W,hb]
   try rfl
 have hN:m ^(n*n)<=600:=by
  rcases hn with rfl|rfl|rfl
  ·have:=hm.2.1 rfl
   rw [Nat.mul_one,Nat.pow_one];lia
  ·have h4:=hm.2.2.1 rfl
   exact Nat.le_trans (Nat.pow_le_pow_left h4 4) (by decide)
  ·rw [hm.2.2.2 rfl]
   decide
 obtain⟨K0,eK⟩:∃K0:Int,y6 (.own [.int 10,.int 4,.int 10]) (.val (.int ((n:Int) - 1)))=some (.val (.int K0))/\0<=K0/\K0<=10:=by
  rcases hn with rfl|rfl|rfl
  ·exact⟨10,rfl,by lia⟩
  ·exact⟨4,rfl,by lia⟩
  ·exact⟨10,rfl,by lia⟩
 obtain⟨K,hK,kK⟩:∃K:Nat,(if K0<(ns.length:Int) then K0 else(ns.length:Int))=(K:Int)/\K<=ns.length:=by
  by_cases h:K0<(ns.length:Int)
  ·exact⟨K0.toNat,by rw [if_pos h];lia,by lia⟩
  ·exact⟨ns.length,by rw [if_neg h],by lia⟩
 obtain⟨g1,ρ',g2⟩:=go n m K (by lia) (by lia) hm.1 (by lia) hN kK
 show(b3R [scL ns,none,none,none,none,none,none,none,none,none,none,none]).bind b5t=_
 have s1:m9 1 (i6 B6 (a0 (i6 C4 (a0 (a7 0) (a0 (mC (.int 0)) b7))) (a0 (mC (.int 0)) b7))) [scL ns,none,none,none,none,none,none,none,none,none,none,none]=some (.nx [scL ns,some (.val (.int A)),none,none,none,none,none,none,none,none,none,none]):=by
  simp (disch:=omega) only [g0,b9,b6,b0,b5,e7,f7,t5,AH,AX,AY,hc0,x0]
 have s2:m9 2 (m2 y6 (B3 (a0 (mC (.int 1)) (a0 (mC (.int 2)) (a0 (mC (.int 2)) (a0 (mC (.int 3)) b7))))) (m2 (M5 (fun _ j=>0<j) fun i j=> .int (i % j)) (a7 1) (mC (.int 4)))) [scL ns,some (.val (.int A)),none,none,none,none,none,none,none,none,none,none]=some (.nx [scL ns,some (.val (.int A)),some (.val (.int n)),none,none,none,none,none,none,none,none,none]):=by
  simp (disch:=omega) only [n4,g9,g0,b9,d4,b6,b0,b5,k4,f7,t5,AH,AX,AY,AT,Ae,↓reduceIte,sz,Nat.reduceAdd,Ah,en]
 have s3:m9 3 (m2 y6 (B3 (a0 (m2 E5 (mC (.int 1)) (m2 (M5 (fun _ j=>0<j) fun i j=> .int (i % j)) (m2 (M5 a02 fun i j=> .int (i / j)) (a7 1) (mC (.int 4))) (mC (.int 26)))) (a0 (m2 E5 (mC (.int 1)) (m2 (M5 (fun _ j=>0<j) fun i j=> .int (i % j)) (m2 (M5 a02 fun i j=> .int (i / j)) (a7 1) (mC (.int 4))) (mC (.int 3)))) (a0 (mC (.int 1)) b7)))) (m2 (gI fun i j=> .int (i - j)) (a7 2) (mC (.int 1)))) [scL ns,some (.val (.int A)),some (.val (.int n)),none,none,none,none,none,none,none,none,none]=some (.nx [scL ns,some (.val (.int A)),some (.val (.int n)),some (.val (.int m0)),none,none,none,none,none,none,none,none]):=by
  simp (disch:=omega) only [v4,a30,n4,z6,g9,g0,b9,d4,b6,b0,b5,k4,f7,t5,AH,AX,AY,AT,Ae,↓reduceIte,sz,Nat.reduceAdd,Ah,em0]
 have s5:m9 4 (i6 (left k6) (a0 (a7 2) (a0 (a7 3) b7))) [scL ns,some (.val (.int A)),some (.val (.int n)),some (.val (.int m)),none,none,none,none,none,none,none,none]=some (.nx [scL ns,some (.val (.int A)),some (.val (.int n)),some (.val (.int m)),some (.own ((FX0 n m).map d9)),none,none,none,none,none,none,none]):=by
  simp (disch:=omega) only [b9,d4,b6,b0,b5,e7,f7,D5,AH,AX,AY,g1]
 have hr:b2b (a0 (mC (.int 2)) (a0 (m2 (gI fun i j=> .int (if j<i then j else i)) (m1 Q1 (a7 0)) (m2 y6 (B3 (a0 (mC (.int 10)) (a0 (mC (.int 4)) (a0 (mC (.int 10)) b7)))) (m2 (gI fun i j=> .int (i - j)) (a7 2) (mC (.int 1))))) b7)) [scL ns,some (.val (.int A)),some (.val (.int n)),some (.val (.int m)),some (.own ((FX0 n m).map d9)),none,none,none,none,none,none,none]=some (G0 2 (K:Int)):=by
  have ha:(a0 (mC (.int 2)) (a0 (m2 (gI fun i j=> .int (if j<i then j else i)) (m1 Q1 (a7 0)) (m2 y6 (B3 (a0 (mC (.int 10)) (a0 (mC (.int 4)) (a0 (mC (.int 10)) b7)))) (m2 (gI fun i j=> .int (i - j)) (a7 2) (mC (.int 1))))) b7)) [scL ns,some (.val (.int A)),some (.val (.int n)),some (.val (.int m)),some (.own ((FX0 n m).map d9)),none,none,none,none,none,none,none]=some [.int 2,.int (K:Int)]:=by
   simp (disch:=omega) only [a30,a31,g9,n6,g0,b9,d4,b6,b0,b5,k4,AH,AT,Ae,↓reduceIte,Ac,sz,Nat.reduceAdd,Ah,eK.1,hK]
  rw [b3d,ha,AH]
  exact b7f (by lia)
 unfold b3R
 rw [f9,s1,AH,h9,f9,s2,AH,h9,f9,s3,AH,h9,f9,em,AH,h9,f9,s5,AH,h9]
 simp (disch:=omega) only [g0,b9,b6,b0,b5,e7,f8,v0,f9,h9,o8,X5,o9,j0,a0K,a6G,O2,v5,AH,Av,Bool.not_true,hc1,x1,tm,hr,g2]
end LW
set_option maxHeartbeats 4000000
namespace LW
open PySem PySem.Spec PyProof.Rows L2 PU
seal L2.PE L2.PS L2.PSs L2.PT L2.PW L2.PA L2.PG L2.PGs L2.PI
def top(i:Nat):Stmt:=PySem.Challenge.pw_carpetkin_k85_whole_numbers.main.body.getD i (.Pass ⟨0,0,0,0⟩)
abbrev a1R:Stmt:=top 34
theorem a3B:g5 ["_law_cell","_law_k"] ["_law_cell","_law_k"] (c9 a1R):=mkS
abbrev W3:Stmt:=top 22
theorem a00:g5 ["number","many","come","k"] ["number","many"] (c9 W3):=mkS
abbrev a1P:Stmt:=top 27
theorem a3z:g5 ["side","colours","many"] ["side","colours"] (c9 a1P):=mkS
abbrev R5:Stmt:=top 11
theorem a0o:g5 ["side","movements","way","down","right"] ["side"] (c9 R5):=mkS
abbrev a6u:Stmt:=top 25
theorem a7T:g5 ["starts","ends","found","start","end"] ["starts","ends"] (c9 a6u):=mkS
theorem a36:List.Nodup (α:=Str) ["side","colours","rows","carpets","k","row"]:=by decide+kernel
abbrev Y8:Stmt:=top 26
theorem a1W:g5 ["side","colours","rows","carpets","k"] ["side","colours"] (c9 Y8):=mkS
abbrev a2R:Stmt:=top 14
theorem a4V:g5 ["way"] ["way"] (c9 a2R):=mkS
abbrev a2Q:Stmt:=top 12
theorem a4U:g5 ["way","place","lead"] ["way","place"] (c9 a2Q):=mkS
abbrev a0Q:Stmt:=top 15
theorem a2v:g5 ["side","movement","way","shove"] ["side","movement"] (c9 a0Q):=mkS
abbrev b5v:Stmt:=top 13
theorem b5x:g5 ["side","movement","place","found"] ["side","movement","place"] (c9 b5v):=mkS
theorem a6c:List.Nodup (α:=Str) ["carpet","back","r","side","places","c"]:=by decide+kernel
theorem a6d:List.Nodup (α:=Str) ["carpet","back","r","side","places","place"]:=by decide+kernel
abbrev a1U:Stmt:=top 16
theorem a3E:g5 ["carpet","back","r","side","places"] ["carpet","back","r"] (c9 a1U):=mkS
theorem b06:List.Nodup (α:=Str) ["carpet","movement","side","back","r"]:=by decide+kernel
abbrev a85:Stmt:=top 17
theorem b0j:g5 ["carpet","movement","side","back"] ["carpet","movement"] (c9 a85):=mkS
abbrev a1N:Stmt:=top 28
theorem a3x:g5 ["side","colours","movements","forms","known","carpet","movement"] ["side","colours"] (c9 a1N):=mkS
abbrev Y9:Stmt:=top 32
theorem a1X:g5 ["_law_script","_law_k"] ["_law_script","_law_k"] (c9 Y9):=mkS
theorem a44:List.Nodup (α:=Str) ["_law_n","_law_many","_law_cell","_law_letters","_law_r"]:=by decide+kernel
theorem a45:List.Nodup (α:=Str) ["_law_n","_law_many","_law_cell","_law_letters","_law_r","_law_c"]:=by decide+kernel
abbrev a0O:Stmt:=top 40
theorem a2t:g5 ["_law_n","_law_many","_law_cell","_law_letters"] ["_law_n","_law_many","_law_cell"] (c9 a0O):=mkS
abbrev a0N:Stmt:=top 6
theorem a2s:g5 ["cloth"] ["cloth"] (c9 a0N):=mkS
theorem a46:List.Nodup (α:=Str) ["carpet","movement"]:=by decide+kernel
abbrev a0P:Stmt:=top 20
theorem a2u:g5 ["carpet"] ["carpet"] (c9 a0P):=mkS
abbrev a1V:Stmt:=top 29
theorem a3F:g5 ["carpet","colours","colour","forms"] ["carpet","colours"] (c9 a1V):=mkS
theorem a37:List.Nodup (α:=Str) ["_law_e","_law_some","_law_one"]:=by decide+kernel
abbrev Z0:Stmt:=top 42
theorem a1Y:g5 ["_law_e","_law_some"] ["_law_e"] (c9 Z0):=mkS
abbrev R7:Stmt:=top 43
theorem a0q:g5 ["_law_carpet_here","_law_many","_law_refused","_law_found","_law_e"] ["_law_carpet_here","_law_many"] (c9 R7):=mkS
abbrev a4i:Stmt:=top 10
theorem a6v:g5 ["side","thing"] ["side","thing"] (c9 a4i):=mkS
abbrev a1O:Stmt:=top 30
theorem a3y:g5 ["side","colours","number","forms"] ["side","colours","number"] (c9 a1O):=mkS
abbrev R6:Stmt:=top 44
theorem a0p:g5 ["_law_n","_law_many","_law_number","_law_refused","_law_found","_law_e"] ["_law_n","_law_many","_law_number"] (c9 R6):=mkS
theorem a2h:List.Nodup (α:=Str) ["_law_n","_law_carpet_here","_law_k"]:=by decide+kernel
abbrev O5:Stmt:=top 47
theorem X8:g5 ["_law_n","_law_carpet_here"] ["_law_n"] (c9 O5):=mkS
abbrev W2:Stmt:=top 46
theorem a0Z:g5 ["_law_cell","_law_n","_law_many","_law_carpets","_law_k","_law_due","_law_carpet_here","_law_odd_here"] ["_law_cell"] (c9 W2):=mkS
abbrev a4k:Stmt:=top 35
theorem a6x:g5 ["_law_n","_law_movement_here","_law_place","_law_r","_law_c","_law_way","_law_south","_law_east"] ["_law_n","_law_movement_here","_law_place"] (c9 a4k):=mkS
theorem a6a:List.Nodup (α:=Str) ["_law_carpet_here","_law_movement_here","_law_n","_law_knots","0_law_r","_law_c","_law_r"]:=by decide+kernel
theorem a6b:List.Nodup (α:=Str) ["_law_carpet_here","_law_movement_here","_law_n","_law_knots","0_law_r","0_law_c","_law_r","_law_c"]:=by decide+kernel
abbrev a1S:Stmt:=top 36
theorem a3C:g5 ["_law_carpet_here","_law_movement_here","_law_n","_law_knots","_law_r","_law_c"] ["_law_carpet_here","_law_movement_here"] (c9 a1S):=mkS
abbrev a4j:Stmt:=top 37
theorem a6w:g5 ["_law_n","_law_found","_law_way","_law_south","_law_east"] ["_law_n"] (c9 a4j):=mkS
theorem a59:List.Nodup (α:=Str) ["_law_carpet_here","_law_movement_here"]:=by decide+kernel
abbrev a1Q:Stmt:=top 41
theorem a3A:g5 ["_law_carpet_here"] ["_law_carpet_here"] (c9 a1Q):=mkS
abbrev W1:Stmt:=top 38
theorem a0Y:g5 ["_law_n","_law_cell"] ["_law_n","_law_cell"] (c9 W1):=mkS
abbrev a1T:Stmt:=top 33
theorem a3D:g5 ["_law_found"] ["_law_found"] (c9 a1T):=mkS
theorem a2g:List.Nodup (α:=Str) ["_law_carpet_here","_law_many","_law_letters","_law_colour"]:=by decide+kernel
abbrev O4:Stmt:=top 45
theorem X7:g5 ["_law_carpet_here","_law_many","_law_letters"] ["_law_carpet_here","_law_many"] (c9 O4):=mkS
abbrev a4l:Stmt:=top 48
theorem a6y:g5 ["_law_carpet_here","_law_many","_law_cell","_law_n","_law_rows","_law_colour","_law_r","_law_c","_law_due"] ["_law_carpet_here","_law_many","_law_cell"] (c9 a4l):=mkS
abbrev b5u:Stmt:=top 49
theorem b5w:g5 ["_law_script","_law_seed","_law_n","_law_many","_law_forms","_law_k","_law_cell","_law_carpet_here","_law_least_here","_law_near","_law_found","_law_odd_here"] ["_law_script"] (c9 b5u):=mkS
structure MoB(K:AE)(mg:Str->Option AA):Prop where
 z_ValueError:mg "ValueError"=none
 z_bool:mg "bool"=none
 z_int:mg "int"=none
 z_isinstance:mg "isinstance"=none
 z_len:mg "len"=none
 z_list:mg "list"=none
 z_min:mg "min"=none
 z_range:mg "range"=none
 z_set:mg "set"=none
 z_sorted:mg "sorted"=none
 z_tuple:mg "tuple"=none
 nk:a6e K=true
abbrev a4S:Stmt:=b7K (top 3) 0
theorem a86:g5 ["self","colour"] ["self","colour"] (c9 a4S):=mkS
abbrev a4T:Stmt:=b7K (top 2) 0
theorem a87:g5 ["self","many"] ["self","many"] (c9 a4T):=mkS
section
variable (P:AL)(w:AJ)(K:AE)(mg:Str->Option AA)(base:Heap)
abbrev a07:Prop:=w6 P w K mg base "_law_mixed" ["_law_cell","_law_k"] 1 B6
abbrev a1b:Prop:=w6 P w K mg base "times_itself" ["number","many"] 1 L4
abbrev a4t:Prop:=a05 P w K mg base "check_few" ["side","colours"] 3 v8
abbrev Q8:Prop:=w6 P w K mg base "all_movements" ["side"] 1 y8
abbrev a9n:Prop:=w6 P w K mg base "longer" ["starts","ends"] 1 a1x
abbrev a2l:Prop:=w6 P w K mg base "all_carpets" ["side","colours"] 2 P0
abbrev a5w:Prop:=w6 P w K mg base "way_back" ["way"] 1 a2G
abbrev a2y:Prop:=w6 P w K mg base "place_by" ["way","place"] 1 N6
abbrev a2Z:Prop:=w6 P w K mg base "taken_back" ["side","movement"] 2 S8
abbrev b7I:Prop:=w6 P w K mg base "led" ["side","movement","place"] 2 a9N
abbrev a4w:Prop:=w6 P w K mg base "moved_row" ["carpet","back","r"] 3 X4
abbrev a74:Prop:=w6 P w K mg base "moved" ["carpet","movement"] 4 a3i
abbrev P8:Prop:=a05 P w K mg base "all_forms" ["side","colours"] 5 k6
abbrev a2m:Prop:=w6 P w K mg base "_law_cell_at" ["_law_script","_law_k"] 1 C4
abbrev a0u:Prop:=w6 P w K mg base "_law_carpet" ["_law_n","_law_many","_law_cell"] 2 K9
abbrev a2X:Prop:=w6 P w K mg base "colours_of" ["cloth"] 1 u5
abbrev a2Y:Prop:=w6 P w K mg base "least_form" ["carpet"] 5 S7
abbrev a4x:Prop:=a05 P w K mg base "number_of" ["carpet","colours"] 6 t4
abbrev Y3:Prop:=w6 P w K mg base "_law_refusal" ["_law_e"] 1 n5
abbrev B9:Prop:=w6 P w K mg base "_law_of_carpet" ["_law_carpet_here","_law_many"] 7 j6
abbrev a6Y:Prop:=w6 P w K mg base "is_step" ["side","thing"] 1 y9
abbrev a4s:Prop:=a05 P w K mg base "carpet_of" ["side","colours","number"] 6 t0
abbrev G8:Prop:=w6 P w K mg base "_law_by_number" ["_law_n","_law_many","_law_number"] 7 l6
abbrev Z5:Prop:=w6 P w K mg base "_law_one_colour" ["_law_n"] 8 E6
abbrev a1a:Prop:=w6 P w K mg base "_law_too_many" ["_law_cell"] 9 A8
abbrev a6Z:Prop:=w6 P w K mg base "_law_led" ["_law_n","_law_movement_here","_law_place"] 1 a0e
abbrev a08:Prop:=w6 P w K mg base "_law_moved" ["_law_carpet_here","_law_movement_here"] 2 Q2
abbrev a3N:Prop:=w6 P w K mg base "_law_all" ["_law_n"] 1 T6
abbrev a4u:Prop:=w6 P w K mg base "_law_least" ["_law_carpet_here"] 3 X2
abbrev a09:Prop:=w6 P w K mg base "_law_movement" ["_law_n","_law_cell"] 2 L3
abbrev a4v:Prop:=w6 P w K mg base "_law_whole" ["_law_found"] 1 X3
abbrev Z4:Prop:=w6 P w K mg base "_law_colour_due" ["_law_carpet_here","_law_many"] 1 w4
abbrev a60:Prop:=w6 P w K mg base "_law_odd" ["_law_carpet_here","_law_many","_law_cell"] 8 a0f
end
section
variable (P:AL)(w:AJ){K:AE}{mg:Str->Option AA}(base:Heap)
theorem a8O(D:Df K mg "_law_mixed" a1R):a07 P w K mg base:=by
 refine r8 (k:=0) D a3B (fun _ _ _ _ _ _=>el2 (fun _ _=>rfl)) fun f cdv A outer s H E hr=> ?_
 have S:=a3B
 have hu:=hr.units
 exact(d7 (l7 (d8 t7 (d8 z8 (d8 v6 (d8 t7 (a6 0 (pv 0)) c7) c7) (d8 v6 c7 (d8 z8 (d8 z8 c7 (a6 1 (pv 1))) (a6 1 (pv 1))))) c7)))
theorem a49(D:Df K mg "times_itself" W3)(M:MoB K mg):a1b P w K mg base:=by
 refine r8 (k:=0) D a00 (fun _ _ _ _ _ _=>el2 (fun _ _=>rfl)) fun f cdv A outer s H E hr=> ?_
 have S:=a00
 have hu:=hr.units
 exact(c8 (g7 (i:=2) S.nd c7) (c8 (G2 PassesOwn.never rfl rfl M.z_range (a5 (a6 1 (pv 1)) b8) (i8 (i:=3) S.nd rfl (Or.inl rfl)) (n3 3) (d7 (b8o (i:=2) S.nd (a6 0 (pv 0)) b46))) (d7 (a0E 2 (pv 2)))))
theorem a8M(D:Df K mg "check_few" a1P)(xi_TooLarge:b2D P w K mg base "TooLarge" ["many"] 1){u_MOST_CARPETS:AA}{n_MOST_CARPETS:Nat}(m_MOST_CARPETS:mg "MOST_CARPETS"=some u_MOST_CARPETS)(c_MOST_CARPETS:a0v K n_MOST_CARPETS u_MOST_CARPETS=some M2)(U4:a1b P w K mg base):a4t P w K mg base:=by
 refine a5h (k:=2) D a3z (fun _ _ _ _ _ _=>el2 (fun _ _=>rfl)) fun f cdv A outer s H E hr hx=> ?_
 have S:=a3z
 have hu:=hr.units
 refine a0c ?_ ?_
 ·exact(b8u (g7 (i:=2) S.nd (i7 U4 hr (by decide) rfl (a8 (a8 d6)) (a5 (a6 1 (pv 1)) (a5 (d8 z8 (a6 0 (pv 0)) (a6 0 (pv 0))) b8)))))
 refine a0F ?_
 refine b4j ?_ ?_ ?_
 ·exact(A1 b9d (a6 2 (pv 2)) (a5e rfl m_MOST_CARPETS c_MOST_CARPETS) (by first|rfl|exact nomark _))
 ·exact(a0F (a7j rfl rfl rfl xi_TooLarge hr (by decide) (a8 d6) (a5 (a6 2 (pv 2)) b8) (fun pins σ H s a C dd I x h0 hn e=>a1H I x h0 hn e)))
 exact(a14 x4)
theorem a4a(D:Df K mg "all_movements" R5)(M:MoB K mg){u_WAYS:AA}{n_WAYS:Nat}(m_WAYS:mg "WAYS"=some u_WAYS)(c_WAYS:a0v K n_WAYS u_WAYS=some a9b):Q8 P w K mg base:=by
 refine r8 (k:=0) D a0o (fun _ _ _ _ _ _=>el1 (fun _=>rfl)) fun f cdv A outer s H E hr=> ?_
 have S:=a0o
 have hu:=hr.units
 refine c8 ?_ ?_
 ·exact(g7 (i:=1) S.nd (n0 b8))
 refine c8 ?_ ?_
 ·refine a5I PassesOwn.never ?_ ?_ ?_ (n3 2) ?_
  ·exact rfl
  ·exact(S0 b32 rfl M.z_sorted (by rfl) (a5e rfl m_WAYS c_WAYS))
  ·exact(i8 (i:=2) S.nd rfl (Or.inl rfl))
  refine d7 ?_
  refine G2 PassesOwn.never ?_ ?_ M.z_range ?_ ?_ (n3 3) ?_
  ·exact rfl
  ·exact rfl
  ·exact(a5 (a6 0 (pv 0)) b8)
  ·exact(i8 (i:=3) S.nd rfl (Or.inl rfl))
  exact(d7 (G2 PassesOwn.never rfl rfl M.z_range (a5 (a6 0 (pv 0)) b8) (i8 (i:=4) S.nd rfl (Or.inl rfl)) (n3 4) (d7 (a13 1 (pv 1) (y4 (a5 (a6 2 (pv 2)) (a5 (a6 3 (pv 3)) (a5 (a6 4 (pv 4)) b8))))))))
 exact(d7 (a0E 1 (pv 1)))
theorem b3n(D:Df K mg "longer" a6u):a9n P w K mg base:=by
 refine r8 (k:=0) D a7T (fun _ _ _ _ _ _=>el2 (fun _ _=>rfl)) fun f cdv A outer s H E hr=> ?_
 have S:=a7T
 have hu:=hr.units
 refine c8 ?_ ?_
 ·exact(g7 (i:=2) S.nd (n0 b8))
 refine c8 ?_ ?_
 ·refine a5I PassesOwn.never ?_ ?_ ?_ (n3 3) ?_
  ·exact rfl
  ·exact(a6 0 (pv 0))
  ·exact(i8 (i:=3) S.nd rfl (Or.inl rfl))
  exact(d7 (b6h PassesOwn.never rfl (b8n (a6 1 (pv 1))) (i8 (i:=4) S.nd rfl (Or.inl rfl)) (n3 4) (d7 (a13 2 (pv 2) (d8 b45 (a6 3 (pv 3)) (a6 4 (pv 4)))))))
 exact(d7 (a0E 2 (pv 2)))
theorem a6h(D:Df K mg "all_carpets" Y8)(M:MoB K mg){u_LETTERS:AA}{n_LETTERS:Nat}(m_LETTERS:mg "LETTERS"=some u_LETTERS)(c_LETTERS:a0v K n_LETTERS u_LETTERS=some J8)(a29:a9n P w K mg base):a2l P w K mg base:=by
 refine r8 (k:=1) D a1W (fun _ _ _ _ _ _=>el2 (fun _ _=>rfl)) fun f cdv A outer s H E hr=> ?_
 have S:=a1W
 have hu:=hr.units
 refine c8 ?_ ?_
 ·exact(g7 (i:=2) S.nd (n0 (a5 g8 b8)))
 refine c8 ?_ ?_
 ·exact(g7 (i:=3) S.nd (n0 (a5 (y4 b8) b8)))
 refine c8 ?_ ?_
 ·refine G2 PassesOwn.never ?_ ?_ M.z_range ?_ ?_ (n3 4) ?_
  ·exact rfl
  ·exact rfl
  ·exact(a5 (a6 0 (pv 0)) b8)
  ·exact(i8 (i:=4) S.nd rfl (Or.inl rfl))
  exact(d7 (a5J 2 (g7 (i:=2) S.nd (i7 a29 hr (by decide) rfl (a8 (a8 d6)) (a5 (a6 2 (pv 2)) (a5 (Q0 (a5e rfl m_LETTERS c_LETTERS) X0 (X1 (a6 1 (pv 1)))) b8))))))
 refine c8 ?_ ?_
 ·refine G2 PassesOwn.never ?_ ?_ M.z_range ?_ ?_ (n3 4) ?_
  ·exact rfl
  ·exact rfl
  ·exact(a5 (a6 0 (pv 0)) b8)
  ·exact(i8 (i:=4) S.nd rfl (Or.inl rfl))
  refine d7 ?_
  refine a5J 3 ?_
  refine g7 (i:=3) ?_ ?_
  ·exact S.nd
  refine i7 a29 hr ?_ ?_ ?_ ?_
  ·decide
  ·exact rfl
  ·exact(a8 (a8 d6))
  refine a5 ?_ ?_
  ·exact(a6 3 (pv 3))
  refine a5 ?_ ?_
  ·refine G9 (ys:=["row"]) (N0:=["side","colours","rows","carpets","k"]) (fun _ _ h=>h) ?_ ⟨by kernel_rfl,rfl,of_decide_eq_true rfl,of_decide_eq_true rfl,of_decide_eq_true rfl⟩ ?_ (fun C fp pins s H=>i8 (i:=5) a36 rfl (Or.inl rfl)) (fun n h=>u0 (i:=5) (Nat.le_of_eq h)) (fun C fp pins s H=>U5) ?_
   ·exact rfl
   ·exact(a3W (a6 2 (pv 2)))
   intro C fp pins s H
   exact(y4 (a5 (a6 5 (pv 5)) b8))
  exact b8
 exact(d7 (a0E 3 (pv 3)))
theorem a95(D:Df K mg "way_back" a2R):a5w P w K mg base:=by
 refine r8 (k:=0) D a4V (fun _ _ _ _ _ _=>el1 (fun _=>rfl)) fun f cdv A outer s H E hr=> ?_
 have S:=a4V
 have hu:=hr.units
 exact(c8 (J5 (A1 (a0L hu) (a6 0 (pv 0)) g8 (by first|rfl|exact nomark _)) (d7 (l7 g8)) x4) (c8 (J5 (A1 (a0L hu) (a6 0 (pv 0)) g8 (by first|rfl|exact nomark _)) (d7 (l7 g8)) x4) (d7 (a0E 0 (pv 0)))))
theorem a94(D:Df K mg "place_by" a2Q){a_LEADS:AB}(m_LEADS:mg "LEADS"=some (.ref a_LEADS))(t_LEADS:Tab P w K a_LEADS D0):a2y P w K mg base:=by
 refine r8 (k:=0) D a4U (fun _ _ _ _ _ _=>el2 (fun _ _=>rfl)) fun f cdv A outer s H E hr=> ?_
 have S:=a4U
 have hu:=hr.units
 refine c8 ?_ ?_
 ·exact(g7 (i:=2) S.nd (b8m t_LEADS rfl m_LEADS (a6 0 (pv 0))))
 refine d7 ?_
 refine l7 ?_
 refine y4 ?_
 refine a5 ?_ ?_
 ·exact(d8 v6 (d8 z8 (m6 (a6 2 (pv 2)) c7) (m6 (a6 1 (pv 1)) c7)) (d8 z8 (m6 (a6 2 (pv 2)) c7) (m6 (a6 1 (pv 1)) c7)))
 exact(a5 (d8 v6 (d8 z8 (m6 (a6 2 (pv 2)) c7) (m6 (a6 1 (pv 1)) c7)) (d8 z8 (m6 (a6 2 (pv 2)) c7) (m6 (a6 1 (pv 1)) c7))) b8)
theorem a6V(D:Df K mg "taken_back" a0Q)(a2z:a5w P w K mg base)(U3:a2y P w K mg base):a2Z P w K mg base:=by
 refine r8 (k:=1) D a2v (fun _ _ _ _ _ _=>el2 (fun _ _=>rfl)) fun f cdv A outer s H E hr=> ?_
 have S:=a2v
 have hu:=hr.units
 refine c8 ?_ ?_
 ·exact(g7 (i:=2) S.nd (i7 a2z hr (by decide) rfl (a8 d6) (a5 (m6 (a6 1 (pv 1)) c7) b8)))
 refine c8 ?_ ?_
 ·exact(g7 (i:=3) S.nd (i7 U3 hr (by decide) rfl (a8 (a8 d6)) (a5 (a6 2 (pv 2)) (a5 (y4 (a5 (a3V (m6 (a6 1 (pv 1)) c7)) (a5 (a3V (m6 (a6 1 (pv 1)) c7)) b8))) b8))))
 exact(d7 (l7 (y4 (a5 (a6 2 (pv 2)) (a5 (d8 t7 (m6 (a6 3 (pv 3)) c7) (a6 0 (pv 0))) (a5 (d8 t7 (m6 (a6 3 (pv 3)) c7) (a6 0 (pv 0))) b8))))))
theorem b83(D:Df K mg "led" b5v)(U3:a2y P w K mg base):b7I P w K mg base:=by
 refine r8 (k:=1) D b5x (fun _ _ _ _ _ _=>el3 (fun _ _ _=>rfl)) fun f cdv A outer s H E hr=> ?_
 have S:=b5x
 have hu:=hr.units
 refine c8 ?_ ?_
 ·exact(g7 (i:=3) S.nd (i7 U3 hr (by decide) rfl (a8 (a8 d6)) (a5 (m6 (a6 1 (pv 1)) c7) (a5 (a6 2 (pv 2)) b8))))
 exact(d7 (l7 (y4 (a5 (d8 t7 (d8 v6 (m6 (a6 3 (pv 3)) c7) (m6 (a6 1 (pv 1)) c7)) (a6 0 (pv 0))) (a5 (d8 t7 (d8 v6 (m6 (a6 3 (pv 3)) c7) (m6 (a6 1 (pv 1)) c7)) (a6 0 (pv 0))) b8)))))
theorem a8R(D:Df K mg "moved_row" a1U)(M:MoB K mg)(b35:b7I P w K mg base):a4w P w K mg base:=by
 refine r8 (k:=2) D a3E (fun _ _ _ _ _ _=>el3 (fun _ _ _=>rfl)) fun f cdv A outer s H E hr=> ?_
 have S:=a3E
 have hu:=hr.units
 refine c8 ?_ ?_
 ·exact(g7 (i:=3) S.nd (S0 R1 rfl M.z_len (by rfl) (a6 0 (pv 0))) rfl (Or.inr rfl))
 refine c8 ?_ ?_
 ·refine b6g (i:=4) (ys:=["c"]) (N0:=["carpet","back","r","side","places"]) ?_ (fun _ _ h=>h) ?_ ⟨by kernel_rfl,rfl,of_decide_eq_true rfl,of_decide_eq_true rfl,of_decide_eq_true rfl⟩ ?_ (fun C fp pins s H=>i8 (i:=5) a6c rfl (Or.inl rfl)) (fun n h=>u0 (i:=5) (Nat.le_of_eq h)) (fun C fp pins s H=>U5) ?_
  ·exact S.nd
  ·exact rfl
  ·exact(a0C rfl M.z_range (a5 (a6 3 (pv 3)) b8))
  intro C fp pins s H
  exact(i7 b35 hr (by decide) rfl (a8 (a8 (a8 d6))) (a5 (a6 3 (pv 3)) (a5 (a6 1 (pv 1)) (a5 (y4 (a5 (a6 2 (pv 2)) (a5 (a6 5 (pv 5)) b8))) b8))))
 refine d7 ?_
 refine l7 ?_
 refine a3c ?_ ?_
 ·exact g8
 refine G9 (ys:=["place"]) (N0:=["carpet","back","r","side","places"]) (fun _ _ h=>h) ?_ ⟨by kernel_rfl,rfl,of_decide_eq_true rfl,of_decide_eq_true rfl,of_decide_eq_true rfl⟩ ?_ (fun C fp pins s H=>i8 (i:=5) a6d rfl (Or.inl rfl)) (fun n h=>u0 (i:=5) (Nat.le_of_eq h)) (fun C fp pins s H=>U5) ?_
 ·exact rfl
 ·exact(a3W (a6 4 (pv 4)))
 intro C fp pins s H
 exact(m6 (m6 (a6 0 (pv 0)) (m6 (a6 5 (pv 5)) c7)) (m6 (a6 5 (pv 5)) c7))
theorem b43(D:Df K mg "moved" a85)(M:MoB K mg)(a0B:a2Z P w K mg base)(a1p:a4w P w K mg base):a74 P w K mg base:=by
 refine r8 (k:=3) D b0j (fun _ _ _ _ _ _=>el2 (fun _ _=>rfl)) fun f cdv A outer s H E hr=> ?_
 have S:=b0j
 have hu:=hr.units
 refine c8 ?_ ?_
 ·exact(g7 (i:=2) S.nd (S0 R1 rfl M.z_len (by rfl) (a6 0 (pv 0))))
 refine c8 ?_ ?_
 ·exact(g7 (i:=3) S.nd (i7 a0B hr (by decide) rfl (a8 (a8 d6)) (a5 (a6 2 (pv 2)) (a5 (a6 1 (pv 1)) b8))) rfl (Or.inr rfl))
 refine d7 ?_
 refine l7 ?_
 refine a7g a1j ?_ M.z_tuple ?_ ?_
 ·exact rfl
 ·rfl
 refine G9 (ys:=["r"]) (N0:=["carpet","movement","side","back"]) (fun _ _ h=>h) ?_ ⟨by kernel_rfl,rfl,of_decide_eq_true rfl,of_decide_eq_true rfl,of_decide_eq_true rfl⟩ ?_ (fun C fp pins s H=>i8 (i:=4) b06 rfl (Or.inl rfl)) (fun n h=>u0 (i:=4) (Nat.le_of_eq h)) (fun C fp pins s H=>U5) ?_
 ·exact rfl
 ·exact(a0C rfl M.z_range (a5 (a6 2 (pv 2)) b8))
 intro C fp pins s H
 exact(i7 a1p hr (by decide) rfl (a8 (a8 (a8 d6))) (a5 (a6 0 (pv 0)) (a5 (a6 3 (pv 3)) (a5 (a6 4 (pv 4)) b8))))
theorem a8K(D:Df K mg "all_forms" a1N)(M:MoB K mg)(a1m:a4t P w K mg base)(C0:Q8 P w K mg base)(Y5:a2l P w K mg base)(a3a:a74 P w K mg base):P8 P w K mg base:=by
 refine a5h (k:=4) D a3x (fun _ _ _ _ _ _=>el2 (fun _ _=>rfl)) fun f cdv A outer s H E hr hx=> ?_
 have S:=a3x
 have hu:=hr.units
 refine a0c ?_ ?_
 ·exact(b6j a1m hr (by decide) rfl hx (a8 (a8 d6)) (a5 (a6 0 (pv 0)) (a5 (a6 1 (pv 1)) b8)))
 refine a14 ?_
 refine c8 ?_ ?_
 ·exact(g7 (i:=2) S.nd (i7 C0 hr (by decide) rfl (a8 d6) (a5 (a6 0 (pv 0)) b8)))
 refine c8 ?_ ?_
 ·exact(g7 (i:=3) S.nd (n0 b8))
 refine c8 ?_ ?_
 ·exact(g7 (i:=4) S.nd b1K)
 refine c8 ?_ ?_
 ·refine a5I PassesOwn.never ?_ ?_ ?_ (n3 5) ?_
  ·exact rfl
  ·exact(i7 Y5 hr (by decide) rfl (a8 (a8 d6)) (a5 (a6 0 (pv 0)) (a5 (a6 1 (pv 1)) b8)))
  ·exact(i8 (i:=5) S.nd rfl (Or.inl rfl))
  refine d7 ?_
  refine J5 ?_ ?_ ?_
  ·exact(b0L 4 hu M.nk (pv 4) (a6 5 (pv 5)) (by first|rfl|exact nomark _))
  ·refine c8 ?_ ?_
   ·exact(a13 3 (pv 3) (a6 5 (pv 5)))
   exact(d7 (a5J 2 (a5I PassesOwn.never rfl (a6 2 (pv 2)) (i8 (i:=6) S.nd rfl (Or.inl rfl)) (n3 6) (d7 (a7h 4 hu M.nk (pv 4) (i7 a3a hr (by decide) rfl (a8 (a8 d6)) (a5 (a6 5 (pv 5)) (a5 (a6 6 (pv 6)) b8))) a3b)))))
  exact x4
 exact(d7 (a0E 3 (pv 3)))
theorem a6i(D:Df K mg "_law_cell_at" Y9)(M:MoB K mg):a2m P w K mg base:=by
 refine r8 (k:=0) D a1X (fun _ _ _ _ _ _=>el2 (fun _ _=>rfl)) fun f cdv A outer s H E hr=> ?_
 have S:=a1X
 have hu:=hr.units
 exact(c8 (J5 (A1 a8W (a6 1 (pv 1)) (S0 R1 rfl M.z_len (by rfl) (a6 0 (pv 0))) (by first|rfl|exact nomark _)) (d7 (l7 (m6 (a6 0 (pv 0)) (a6 1 (pv 1))))) x4) (d7 (l7 c7)))
theorem a6T(D:Df K mg "_law_carpet" a0O)(M:MoB K mg)(D8:a07 P w K mg base):a0u P w K mg base:=by
 refine r8 (k:=1) D a2t (fun _ _ _ _ _ _=>el3 (fun _ _ _=>rfl)) fun f cdv A outer s H E hr=> ?_
 have S:=a2t
 have hu:=hr.units
 refine c8 ?_ ?_
 ·exact(g7 (i:=3) S.nd g8 rfl (Or.inr rfl))
 refine d7 ?_
 refine l7 ?_
 refine a7g a1j ?_ M.z_tuple ?_ ?_
 ·exact rfl
 ·rfl
 refine G9 (ys:=["_law_r"]) (N0:=["_law_n","_law_many","_law_cell","_law_letters"]) (fun _ _ h=>h) ?_ ⟨by kernel_rfl,rfl,of_decide_eq_true rfl,of_decide_eq_true rfl,of_decide_eq_true rfl⟩ ?_ (fun C fp pins s H=>i8 (i:=4) a44 rfl (Or.inr rfl)) (fun n h=>u0 (i:=4) (Nat.le_of_eq h)) (fun C fp pins s H=>U5) ?_
 ·exact rfl
 ·exact(a0C rfl M.z_range (a5 (a6 0 (pv 0)) b8))
 intro C fp pins s H
 refine a3c ?_ ?_
 ·exact g8
 refine G9 (ys:=["_law_c"]) (N0:=["_law_n","_law_many","_law_cell","_law_letters","_law_r"]) (fun _ _ h=>h) ?_ ⟨by kernel_rfl,rfl,of_decide_eq_true rfl,of_decide_eq_true rfl,of_decide_eq_true rfl⟩ ?_ (fun C fp pins s H=>i8 (i:=5) a45 rfl (Or.inl rfl)) (fun n h=>u0 (i:=5) (Nat.le_of_eq h)) (fun C fp pins s H=>U5) ?_
 ·exact rfl
 ·exact(a0C rfl M.z_range (a5 (a6 0 (pv 0)) b8))
 intro C fp pins s H
 exact(m6 (a6 3 (pv 3)) (d8 t7 (i7 D8 hr (by decide) rfl (a8 (a8 d6)) (a5 (a6 2 (pv 2)) (a5 (d8 v6 (d8 z8 (a6 4 (pv 4)) (a6 0 (pv 0))) (a6 5 (pv 5))) b8))) (a6 1 (pv 1))))
theorem a6S(D:Df K mg "colours_of" a0N)(M:MoB K mg):a2X P w K mg base:=by
 refine r8 (k:=0) D a2s (fun _ _ _ _ _ _=>el1 (fun _=>rfl)) fun f cdv A outer s H E hr=> ?_
 have S:=a2s
 have hu:=hr.units
 exact(d7 (l7 (b0J rfl rfl M.z_sorted rfl M.z_set (a3c g8 (a6 0 (pv 0))))))
theorem a6U(D:Df K mg "least_form" a0P)(M:MoB K mg)(a3a:a74 P w K mg base)(C0:Q8 P w K mg base):a2Y P w K mg base:=by
 refine r8 (k:=4) D a2u (fun _ _ _ _ _ _=>el1 (fun _=>rfl)) fun f cdv A outer s H E hr=> ?_
 have S:=a2u
 have hu:=hr.units
 refine d7 ?_
 refine l7 ?_
 refine S0 (b1F hu rfl) ?_ M.z_min ?_ ?_
 ·exact rfl
 ·rfl
 refine G9 (ys:=["movement"]) (N0:=["carpet"]) (fun _ _ h=>h) ?_ ⟨by kernel_rfl,rfl,of_decide_eq_true rfl,of_decide_eq_true rfl,of_decide_eq_true rfl⟩ ?_ (fun C fp pins s H=>i8 (i:=1) a46 rfl (Or.inl rfl)) (fun n h=>u0 (i:=1) (Nat.le_of_eq h)) (fun C fp pins s H=>U5) ?_
 ·exact rfl
 ·exact(a3W (i7 C0 hr (by decide) rfl (a8 d6) (a5 (S0 R1 rfl M.z_len (by rfl) (a6 0 (pv 0))) b8)))
 intro C fp pins s H
 exact(y4 (a5 (i7 a3a hr (by decide) rfl (a8 (a8 d6)) (a5 (a6 0 (pv 0)) (a5 (a6 1 (pv 1)) b8))) (a5 (a6 1 (pv 1)) b8)))
theorem a8S(D:Df K mg "number_of" a1V)(M:MoB K mg)(xi_NoColour:b2D P w K mg base "NoColour" ["colour"] 1){u_LETTERS:AA}{n_LETTERS:Nat}(m_LETTERS:mg "LETTERS"=some u_LETTERS)(c_LETTERS:a0v K n_LETTERS u_LETTERS=some J8)(a0z:a2X P w K mg base)(z4:P8 P w K mg base)(a0A:a2Y P w K mg base):a4x P w K mg base:=by
 refine a5h (k:=5) D a3F (fun _ _ _ _ _ _=>el2 (fun _ _=>rfl)) fun f cdv A outer s H E hr hx=> ?_
 have S:=a3F
 have hu:=hr.units
 refine a0c ?_ ?_
 ·refine b8t PassesOwn.leaving ?_ ?_ ?_ (n3 2) ?_
  ·exact rfl
  ·exact(i7 a0z hr (by decide) rfl (a8 d6) (a5 (a6 0 (pv 0)) b8))
  ·exact(i8 (i:=2) S.nd rfl (Or.inl rfl))
  refine a0F ?_
  refine b4j ?_ ?_ ?_
  ·exact(A1 (a6l hu) (a6 2 (pv 2)) (Q0 (a5e rfl m_LETTERS c_LETTERS) X0 (X1 (a6 1 (pv 1)))) (by first|rfl|exact nomark _))
  ·exact(a0F (a7j rfl rfl rfl xi_NoColour hr (by decide) (a8 d6) (a5 (a6 2 (pv 2)) b8) (fun pins σ H s a C dd I x h0 hn e=>a1H I x h0 hn e)))
  exact(a14 x4)
 refine a0c ?_ ?_
 ·exact(a5g (i:=3) S.nd z4 hr (by decide) rfl hx (a8 (a8 d6)) (a5 (S0 R1 rfl M.z_len (by rfl) (a6 0 (pv 0))) (a5 (a6 1 (pv 1)) b8)))
 exact(a14 (d7 (l7 (a9C hu (a6 3 (pv 3)) (m6 (i7 a0A hr (by decide) rfl (a8 d6) (a5 (a6 0 (pv 0)) b8)) c7)))))
theorem a6j(D:Df K mg "_law_refusal" Z0)(M:MoB K mg){C_NoColour:AB}(x_NoColour:XC K mg "NoColour" C_NoColour){C_NoNumber:AB}(x_NoNumber:XC K mg "NoNumber" C_NoNumber){C_TooLarge:AB}(x_TooLarge:XC K mg "TooLarge" C_TooLarge)(ks_NoColour_NoColour:PySem.W.kitOne K (.ref C_NoColour) (.ref C_NoColour)=some true)(ks_NoColour_NoNumber:PySem.W.kitOne K (.ref C_NoColour) (.ref C_NoNumber)=some false)(ks_NoColour_TooLarge:PySem.W.kitOne K (.ref C_NoColour) (.ref C_TooLarge)=some false)(ks_NoColour_ValueError:PySem.W.kitOne K (.ref C_NoColour) (.type "ValueError")=some true)(ks_NoNumber_NoColour:PySem.W.kitOne K (.ref C_NoNumber) (.ref C_NoColour)=some false)(ks_NoNumber_NoNumber:PySem.W.kitOne K (.ref C_NoNumber) (.ref C_NoNumber)=some true)(ks_NoNumber_TooLarge:PySem.W.kitOne K (.ref C_NoNumber) (.ref C_TooLarge)=some false)(ks_NoNumber_ValueError:PySem.W.kitOne K (.ref C_NoNumber) (.type "ValueError")=some true)(ks_TooLarge_NoColour:PySem.W.kitOne K (.ref C_TooLarge) (.ref C_NoColour)=some false)(ks_TooLarge_NoNumber:PySem.W.kitOne K (.ref C_TooLarge) (.ref C_NoNumber)=some false)(ks_TooLarge_TooLarge:PySem.W.kitOne K (.ref C_TooLarge) (.ref C_TooLarge)=some true)(ks_TooLarge_ValueError:PySem.W.kitOne K (.ref C_TooLarge) (.type "ValueError")=some true)(xf_NoColour:a9e K C_NoColour=true)(xf_NoNumber:a9e K C_NoNumber=true)(xf_TooLarge:a9e K C_TooLarge=true)(fx_colour:a4r K ["NoColour"] "colour")(fx_many:a4r K ["TooLarge"] "many"):Y3 P w K mg base:=by
 refine r8 (k:=0) D a1Y (fun _ _ _ _ _ _=>el1 (fun _=>rfl)) fun f cdv A outer s H E hr=> ?_
 have S:=a1Y
 have hu:=hr.units
 refine c8 ?_ ?_
 ·refine g7 (i:=1) ?_ ?_
  ·exact S.nd
  refine n0 ?_
  refine a5 ?_ ?_
  ·exact(a8h (cV:= .ref _) (z0 x_NoColour xf_NoColour ks_NoColour_NoColour (z0 x_NoNumber xf_NoNumber ks_NoNumber_NoColour (z0 x_TooLarge xf_TooLarge ks_TooLarge_NoColour a3I))) (fun u h=>h) rfl M.z_isinstance (a6 0 (pv 0)) (a5m rfl x_NoColour.mg rfl))
  refine a5 ?_ ?_
  ·exact(a8h (cV:= .ref _) (z0 x_NoColour xf_NoColour ks_NoColour_TooLarge (z0 x_NoNumber xf_NoNumber ks_NoNumber_TooLarge (z0 x_TooLarge xf_TooLarge ks_TooLarge_TooLarge a3I))) (fun u h=>h) rfl M.z_isinstance (a6 0 (pv 0)) (a5m rfl x_TooLarge.mg rfl))
  refine a5 ?_ ?_
  ·exact(a8h (cV:= .ref _) (z0 x_NoColour xf_NoColour ks_NoColour_NoNumber (z0 x_NoNumber xf_NoNumber ks_NoNumber_NoNumber (z0 x_TooLarge xf_TooLarge ks_TooLarge_NoNumber a3I))) (fun u h=>h) rfl M.z_isinstance (a6 0 (pv 0)) (a5m rfl x_NoNumber.mg rfl))
  exact b8
 refine c8 ?_ ?_
 ·refine J5 (PW.pt (b1P (A1 (a2N hu) (S0 R1 rfl M.z_len (by rfl) (G9 (ys:=["_law_one"]) (N0:=["_law_e","_law_some"]) (fun _ _ h=>h) rfl ⟨by kernel_rfl,rfl,of_decide_eq_true rfl,of_decide_eq_true rfl,of_decide_eq_true rfl⟩ (a3W (a6 1 (pv 1))) (fun C fp pins s H=>i8 (i:=2) a37 rfl (Or.inl rfl)) (fun n h=>u0 (i:=2) (Nat.le_of_eq h)) (fun C fp pins s H=>(b4b (a1t (a6 2 (pv 2))))) (fun C fp pins s H=>(a6 2 (pv 2))))) c7 (by first|rfl|exact nomark _)) (a8k (a5K (a1t (a8h (cV:= .ty "ValueError") (z0 x_NoColour xf_NoColour ks_NoColour_ValueError (z0 x_NoNumber xf_NoNumber ks_NoNumber_ValueError (z0 x_TooLarge xf_TooLarge ks_TooLarge_ValueError a3I))) (fun u h=>h) rfl M.z_isinstance (a6 0 (pv 0)) (a3v rfl M.z_ValueError (by rfl) rfl))))))) ?_ ?_
  ·exact(d7 (l7 (n0 (a5 g8 (a5 U6 b8)))))
  exact x4
 refine c8 ?_ ?_
 ·exact(J5 (a1t (m6 (a6 1 (pv 1)) c7)) (d7 (l7 (n0 (a5 g8 (a5 (b7L fx_colour (a6 0 (pv 0))) b8))))) x4)
 exact(c8 (J5 (a1t (m6 (a6 1 (pv 1)) c7)) (d7 (l7 (n0 (a5 g8 (a5 (b7L fx_many (a6 0 (pv 0))) b8))))) x4) (d7 (l7 (n0 (a5 g8 (a5 U6 b8))))))
theorem a4c(D:Df K mg "_law_of_carpet" R7){C_CarpetError:AB}(x_CarpetError:XC K mg "CarpetError" C_CarpetError){C_NoColour:AB}(x_NoColour:XC K mg "NoColour" C_NoColour){C_NoNumber:AB}(x_NoNumber:XC K mg "NoNumber" C_NoNumber){C_TooLarge:AB}(x_TooLarge:XC K mg "TooLarge" C_TooLarge)(im_NoColour_CarpetError:a0U K C_NoColour C_CarpetError=true)(im_NoNumber_CarpetError:a0U K C_NoNumber C_CarpetError=true)(im_TooLarge_CarpetError:a0U K C_TooLarge C_CarpetError=true)(a1q:a4x P w K mg base)(G1:Y3 P w K mg base):B9 P w K mg base:=by
 refine r8 (k:=6) D a0q (fun _ _ _ _ _ _=>el2 (fun _ _=>rfl)) fun f cdv A outer s H E hr=> ?_
 have S:=a0q
 have hu:=hr.units
 refine c8 ?_ ?_
 ·exact(g7 (i:=2) S.nd U6)
 refine c8 ?_ ?_
 ·exact(g7 (i:=3) S.nd U6)
 refine c8 ?_ ?_
 ·refine a7i (i:=4) ?_ x_CarpetError (a0h x_CarpetError x_NoColour im_NoColour_CarpetError (a0h x_CarpetError x_NoNumber im_NoNumber_CarpetError (a0h x_CarpetError x_TooLarge im_TooLarge_CarpetError b1Z))) ?_ ?_
  ·exact S.nd
  ·intro Y pn E hx
   exact(a0F (a5g (i:=3) S.nd a1q hr (by decide) rfl hx (a8 (a8 d6)) (a5 (a6 0 (pv 0)) (a5 (a6 1 (pv 1)) b8))))
  intro a Y
  exact(d7 (g7 (i:=2) S.nd (a6 4 (pv 4))))
 exact(c8 (J5 (A1 a96 (a6 2 (pv 2)) U6 (by first|rfl|exact nomark _)) (d7 (l7 (i7 G1 hr (by decide) rfl (a8 d6) (a5 (a6 2 (pv 2)) b8)))) x4) (d7 (l7 (n0 (a5 g8 (a5 (a6 3 (pv 3)) b8))))))
theorem b1c(D:Df K mg "is_step" a4i)(M:MoB K mg):a6Y P w K mg base:=by
 refine r8 (k:=0) D a6v (fun _ _ _ _ _ _=>el2 (fun _ _=>rfl)) fun f cdv A outer s H E hr=> ?_
 have S:=a6v
 have hu:=hr.units
 refine d7 ?_
 refine l7 ?_
 exact(a5D (a8g (.inl rfl) rfl M.z_isinstance (a6 1 (pv 1)) (a3v rfl M.z_int (by rfl) rfl)) (a5D (b4d (a8g (.inr (.inl rfl)) rfl M.z_isinstance (a6 1 (pv 1)) (a3v rfl M.z_bool (by rfl) rfl))) (a5E (b4c b2g a8W c7 (a6 1 (pv 1)) (a6 0 (pv 0))))))
theorem a8L(D:Df K mg "carpet_of" a1O)(M:MoB K mg)(kb:K.In base){C_NoNumber:AB}(x_NoNumber:XC K mg "NoNumber" C_NoNumber)(xe_NoNumber:PySem.W.excIn K C_NoNumber a3r "ValueError.__new__"=true)(z4:P8 P w K mg base)(a3R:a6Y P w K mg base):a4s P w K mg base:=by
 refine a5h (k:=5) D a3y (fun _ _ _ _ _ _=>el3 (fun _ _ _=>rfl)) fun f cdv A outer s H E hr hx=> ?_
 have S:=a3y
 have hu:=hr.units
 refine a0c ?_ ?_
 ·exact(a5g (i:=3) S.nd z4 hr (by decide) rfl hx (a8 (a8 d6)) (a5 (a6 0 (pv 0)) (a5 (a6 1 (pv 1)) b8)))
 refine a0c ?_ ?_
 ·refine b4j ?_ ?_ ?_
  ·exact(a5K (a1t (i7 a3R hr (by decide) rfl (a8 (a8 d6)) (a5 (S0 R1 rfl M.z_len (by rfl) (a6 3 (pv 3))) (a5 (a6 2 (pv 2)) b8)))))
  ·exact(a0F (b4k rfl rfl rfl x_NoNumber.mg (b7E kb xe_NoNumber) (a5 g8 b8) (fun pins σ H s a I x h0 hn e=>a1H I x h0 hn e)))
  exact(a14 x4)
 exact(a14 (d7 (l7 (m6 (a6 3 (pv 3)) (a6 2 (pv 2))))))
theorem a4b(D:Df K mg "_law_by_number" R6){C_CarpetError:AB}(x_CarpetError:XC K mg "CarpetError" C_CarpetError){C_NoColour:AB}(x_NoColour:XC K mg "NoColour" C_NoColour){C_NoNumber:AB}(x_NoNumber:XC K mg "NoNumber" C_NoNumber){C_TooLarge:AB}(x_TooLarge:XC K mg "TooLarge" C_TooLarge)(im_NoColour_CarpetError:a0U K C_NoColour C_CarpetError=true)(im_NoNumber_CarpetError:a0U K C_NoNumber C_CarpetError=true)(im_TooLarge_CarpetError:a0U K C_TooLarge C_CarpetError=true)(a1l:a4s P w K mg base)(G1:Y3 P w K mg base):G8 P w K mg base:=by
 refine r8 (k:=6) D a0p (fun _ _ _ _ _ _=>el3 (fun _ _ _=>rfl)) fun f cdv A outer s H E hr=> ?_
 have S:=a0p
 have hu:=hr.units
 refine c8 ?_ ?_
 ·exact(g7 (i:=3) S.nd U6)
 refine c8 ?_ ?_
 ·exact(g7 (i:=4) S.nd U6)
 refine c8 ?_ ?_
 ·refine a7i (i:=5) ?_ x_CarpetError (a0h x_CarpetError x_NoColour im_NoColour_CarpetError (a0h x_CarpetError x_NoNumber im_NoNumber_CarpetError (a0h x_CarpetError x_TooLarge im_TooLarge_CarpetError b1Z))) ?_ ?_
  ·exact S.nd
  ·intro Y pn E hx
   exact(a0F (a5g (i:=4) S.nd a1l hr (by decide) rfl hx (a8 (a8 (a8 d6))) (a5 (a6 0 (pv 0)) (a5 (a6 1 (pv 1)) (a5 (a6 2 (pv 2)) b8)))))
  intro a Y
  exact(d7 (g7 (i:=3) S.nd (a6 5 (pv 5))))
 exact(c8 (J5 (A1 a96 (a6 3 (pv 3)) U6 (by first|rfl|exact nomark _)) (d7 (l7 (i7 G1 hr (by decide) rfl (a8 d6) (a5 (a6 3 (pv 3)) b8)))) x4) (d7 (l7 (n0 (a5 g8 (a5 (a6 4 (pv 4)) b8))))))
theorem a3t(D:Df K mg "_law_one_colour" O5)(M:MoB K mg)(z4:P8 P w K mg base)(m7:B9 P w K mg base)(o0:G8 P w K mg base):Z5 P w K mg base:=by
 refine r8 (k:=7) D X8 (fun _ _ _ _ _ _=>el1 (fun _=>rfl)) fun f cdv A outer s H E hr=> ?_
 have S:=X8
 have hu:=hr.units
 refine c8 ?_ ?_
 ·refine g7 (i:=1) ?_ ?_
  ·exact S.nd
  refine a7g a1j ?_ M.z_tuple ?_ ?_
  ·exact rfl
  ·rfl
  refine G9 (ys:=["_law_k"]) (N0:=["_law_n","_law_carpet_here"]) (fun _ _ h=>h) ?_ ⟨by kernel_rfl,rfl,of_decide_eq_true rfl,of_decide_eq_true rfl,of_decide_eq_true rfl⟩ ?_ (fun C fp pins s H=>i8 (i:=2) a2h rfl (Or.inl rfl)) (fun n h=>u0 (i:=2) (Nat.le_of_eq h)) (fun C fp pins s H=>U5) ?_
  ·exact rfl
  ·exact(a0C rfl M.z_range (a5 (a6 0 (pv 0)) b8))
  intro C fp pins s H
  exact(d8 z8 g8 (a6 0 (pv 0)))
 refine c8 ?_ ?_
 ·refine J5 (PW.pt (b1P (A1 (a2N hu) (b1L z4 hr (by decide) rfl (a8 (a8 d6)) (a5 (a6 0 (pv 0)) (a5 c7 b8))) (n0 (a5 (a6 1 (pv 1)) b8)) (by first|rfl|exact nomark _)) (a8k (A1 (a2N hu) (i7 m7 hr (by decide) rfl (a8 (a8 d6)) (a5 (a6 1 (pv 1)) (a5 c7 b8))) (n0 (a5 g8 (a5 c7 b8))) (by first|rfl|exact nomark _))))) ?_ ?_
  ·exact(d7 (l7 a3b))
  exact x4
 refine d7 ?_
 refine l7 ?_
 refine a5D ?_ ?_
 ·exact(a3U (a0L hu) (i7 o0 hr (by decide) rfl (a8 (a8 (a8 d6))) (a5 (a6 0 (pv 0)) (a5 c7 (a5 c7 b8)))) (n0 (a5 g8 (a5 (a6 1 (pv 1)) b8))) (by first|rfl|exact nomark _))
 exact(a5E (a3U (a0L hu) (i7 o0 hr (by decide) rfl (a8 (a8 (a8 d6))) (a5 (a6 0 (pv 0)) (a5 c7 (a5 c7 b8)))) (n0 (a5 g8 (a5 U6 b8))) (by first|rfl|exact nomark _)))
theorem a48(D:Df K mg "_law_too_many" W2)(M:MoB K mg)(K6:a0u P w K mg base)(N4:Z5 P w K mg base)(m7:B9 P w K mg base)(o0:G8 P w K mg base):a1a P w K mg base:=by
 refine r8 (k:=8) D a0Z (fun _ _ _ _ _ _=>el1 (fun _=>rfl)) fun f cdv A outer s H E hr=> ?_
 have S:=a0Z
 have hu:=hr.units
 refine c8 ?_ ?_
 ·refine b0K (is:=[1,2]) ?_ ?_ ?_
  ·exact rfl
  ·refine m6 ?_ ?_
   ·refine n0 ?_
    refine a5 ?_ ?_
    ·exact(y4 (a5 c7 (a5 c7 b8)))
    refine a5 ?_ ?_
    ·exact(y4 (a5 c7 (a5 c7 b8)))
    refine a5 ?_ ?_
    ·exact(y4 (a5 c7 (a5 c7 b8)))
    exact(a5 (y4 (a5 c7 (a5 c7 b8))) (a5 (y4 (a5 c7 (a5 c7 b8))) (a5 (y4 (a5 c7 (a5 (d8 v6 c7 (d8 t7 (d8 M0 (a6 0 (pv 0)) c7) c7)) b8))) b8)))
   exact(d8 t7 (a6 0 (pv 0)) c7)
  exact(V9 (i8 (i:=1) S.nd rfl (Or.inl rfl)) (V9 (i8 (i:=2) S.nd rfl (Or.inl rfl)) a8Y))
 refine c8 ?_ ?_
 ·exact(g7 (i:=3) S.nd c7)
 refine c8 ?_ ?_
 ·exact(G2 PassesOwn.never rfl rfl M.z_range (a5 (d8 z8 (a6 1 (pv 1)) (a6 1 (pv 1))) b8) (i8 (i:=4) S.nd rfl (Or.inl rfl)) (n3 4) (d7 (g7 (i:=3) S.nd (d8 z8 (a6 3 (pv 3)) (a6 2 (pv 2))))))
 refine c8 ?_ ?_
 ·exact(g7 (i:=5) S.nd (n0 (a5 g8 (a5 (a6 3 (pv 3)) b8))))
 refine c8 ?_ ?_
 ·exact(J5 (A1 b2g (a6 3 (pv 3)) c7 (by first|rfl|exact nomark _)) (d7 (l7 (i7 N4 hr (by decide) rfl (a8 d6) (a5 (d8 v6 c7 (d8 t7 (d8 M0 (a6 0 (pv 0)) c7) c7)) b8)))) x4)
 refine c8 ?_ ?_
 ·exact(g7 (i:=6) S.nd (i7 K6 hr (by decide) rfl (a8 (a8 (a8 d6))) (a5 (a6 1 (pv 1)) (a5 (a6 2 (pv 2)) (a5 (a6 0 (pv 0)) b8)))))
 refine c8 ?_ ?_
 ·exact(g7 (i:=7) S.nd (d8 v6 (Q0 (a6 6 (pv 6)) X0 (X1 (a3V c7))) (y4 (a5 (d8 v6 (Q0 (m6 (a6 6 (pv 6)) (a3V c7)) X0 (X1 (a3V c7))) g8) b8))))
 refine c8 ?_ ?_
 ·refine a5J 7 ?_
  refine J5 (PW.pt (b8q (A1 a8W (a6 2 (pv 2)) c7 (by first|rfl|exact nomark _)) (b6i (A1 (a2N hu) (i7 m7 hr (by decide) rfl (a8 (a8 d6)) (a5 (a6 7 (pv 7)) (a5 (a6 2 (pv 2)) b8))) (n0 (a5 g8 (a5 g8 b8))) (by first|rfl|exact nomark _))))) ?_ ?_
  ·exact(d7 (l7 a3b))
  exact x4
 refine d7 ?_
 refine l7 ?_
 refine a5D ?_ ?_
 ·exact(a3U (a0L hu) (i7 m7 hr (by decide) rfl (a8 (a8 d6)) (a5 (a6 6 (pv 6)) (a5 (a6 2 (pv 2)) b8))) (a6 5 (pv 5)) (by first|rfl|exact nomark _))
 exact(a5E (a3U (a0L hu) (i7 o0 hr (by decide) rfl (a8 (a8 (a8 d6))) (a5 (a6 1 (pv 1)) (a5 (a6 2 (pv 2)) (a5 g8 b8)))) (a6 5 (pv 5)) (by first|rfl|exact nomark _)))
theorem b1e(D:Df K mg "_law_led" a4k):a6Z P w K mg base:=by
 refine r8 (k:=0) D a6x (fun _ _ _ _ _ _=>el3 (fun _ _ _=>rfl)) fun f cdv A outer s H E hr=> ?_
 have S:=a6x
 have hu:=hr.units
 refine c8 ?_ ?_
 ·exact(b0K (is:=[3,4]) rfl (a6 2 (pv 2)) (V9 (i8 (i:=3) S.nd rfl (Or.inl rfl)) (V9 (i8 (i:=4) S.nd rfl (Or.inl rfl)) a8Y)))
 refine c8 ?_ ?_
 ·exact(b0K (is:=[5,6,7]) rfl (a6 1 (pv 1)) (V9 (i8 (i:=5) S.nd rfl (Or.inl rfl)) (V9 (i8 (i:=6) S.nd rfl (Or.inl rfl)) (V9 (i8 (i:=7) S.nd rfl (Or.inl rfl)) a8Y))))
 refine c8 ?_ ?_
 ·exact(J5 (A1 (a8V hu) (a6 5 (pv 5)) (y4 (a5 g8 (a5 g8 (a5 g8 (a5 g8 b8))))) (by first|rfl|exact nomark _)) (d7 (b8p 3 4 S.nd rfl (a5 (a6 4 (pv 4)) (a5 (a6 3 (pv 3)) b8)))) x4)
 refine c8 ?_ ?_
 ·exact(J5 (A1 (a8V hu) (a6 5 (pv 5)) (y4 (a5 g8 (a5 g8 (a5 g8 (a5 g8 b8))))) (by first|rfl|exact nomark _)) (d7 (g7 (i:=3) S.nd (d8 a3u c7 (a6 3 (pv 3))))) x4)
 refine c8 ?_ ?_
 ·exact(J5 (A1 (a8V hu) (a6 5 (pv 5)) (y4 (a5 g8 (a5 g8 (a5 g8 (a5 g8 b8))))) (by first|rfl|exact nomark _)) (d7 (g7 (i:=4) S.nd (d8 a3u c7 (a6 4 (pv 4))))) x4)
 exact(d7 (l7 (y4 (a5 (d8 t7 (d8 v6 (a6 3 (pv 3)) (a6 6 (pv 6))) (a6 0 (pv 0))) (a5 (d8 t7 (d8 v6 (a6 4 (pv 4)) (a6 7 (pv 7))) (a6 0 (pv 0))) b8)))))
theorem a8P(D:Df K mg "_law_moved" a1S)(M:MoB K mg)(a3S:a6Z P w K mg base):a08 P w K mg base:=by
 refine r8 (k:=1) D a3C (fun _ _ _ _ _ _=>el2 (fun _ _=>rfl)) fun f cdv A outer s H E hr=> ?_
 have S:=a3C
 have hu:=hr.units
 refine c8 ?_ ?_
 ·exact(g7 (i:=2) S.nd (S0 R1 rfl M.z_len (by rfl) (a6 0 (pv 0))) rfl (Or.inr rfl))
 refine c8 ?_ ?_
 ·exact(g7 (i:=3) S.nd b1K rfl (Or.inr rfl))
 refine c8 ?_ ?_
 ·refine G2 PassesOwn.never ?_ ?_ M.z_range ?_ ?_ (n3 4) ?_
  ·exact rfl
  ·exact rfl
  ·exact(a5 (a6 2 (pv 2)) b8)
  ·exact(i8 (i:=4) S.nd rfl (Or.inl rfl))
  refine d7 ?_
  refine G2 PassesOwn.never ?_ ?_ M.z_range ?_ ?_ (n3 5) ?_
  ·exact rfl
  ·exact rfl
  ·exact(a5 (a6 2 (pv 2)) b8)
  ·exact(i8 (i:=5) S.nd rfl (Or.inl rfl))
  refine d7 ?_
  refine a7h 3 ?_ M.nk (pv 3) ?_ ?_
  ·exact hu
  ·exact(i7 a3S hr (by decide) rfl (a8 (a8 (a8 d6))) (a5 (a6 2 (pv 2)) (a5 (a6 1 (pv 1)) (a5 (y4 (a5 (a6 4 (pv 4)) (a5 (a6 5 (pv 5)) b8))) b8))))
  exact(m6 (m6 (a6 0 (pv 0)) (a6 4 (pv 4))) (a6 5 (pv 5)))
 refine d7 ?_
 refine l7 ?_
 refine a7g a1j ?_ M.z_tuple ?_ ?_
 ·exact rfl
 ·rfl
 refine G9 (ys:=["_law_r"]) (N0:=["_law_carpet_here","_law_movement_here","_law_n","_law_knots","0_law_r","_law_c"]) (fun _ _ h=>h) ?_ ⟨by kernel_rfl,rfl,of_decide_eq_true rfl,of_decide_eq_true rfl,of_decide_eq_true rfl⟩ ?_ (fun C fp pins s H=>i8 (i:=6) a6a rfl (Or.inr rfl)) (fun n h=>u0 (i:=6) (Nat.le_of_eq h)) (fun C fp pins s H=>U5) ?_
 ·exact rfl
 ·exact(a0C rfl M.z_range (a5 (a6 2 (pv 2)) b8))
 intro C fp pins s H
 refine a3c ?_ ?_
 ·exact g8
 refine G9 (ys:=["_law_c"]) (N0:=["_law_carpet_here","_law_movement_here","_law_n","_law_knots","0_law_r","0_law_c","_law_r"]) (fun _ _ h=>h) ?_ ⟨by kernel_rfl,rfl,of_decide_eq_true rfl,of_decide_eq_true rfl,of_decide_eq_true rfl⟩ ?_ (fun C fp pins s H=>i8 (i:=7) a6b rfl (Or.inl rfl)) (fun n h=>u0 (i:=7) (Nat.le_of_eq h)) (fun C fp pins s H=>U5) ?_
 ·exact rfl
 ·exact(a0C rfl M.z_range (a5 (a6 2 (pv 2)) b8))
 intro C fp pins s H
 exact(b6f 3 hu (pv 3) (a5 (a6 6 (pv 6)) (a5 (a6 7 (pv 7)) b8)))
theorem b1d(D:Df K mg "_law_all" a4j)(M:MoB K mg):a3N P w K mg base:=by
 refine r8 (k:=0) D a6w (fun _ _ _ _ _ _=>el1 (fun _=>rfl)) fun f cdv A outer s H E hr=> ?_
 have S:=a6w
 have hu:=hr.units
 refine c8 ?_ ?_
 ·exact(g7 (i:=1) S.nd (n0 b8))
 refine c8 ?_ ?_
 ·refine a5I PassesOwn.never ?_ ?_ ?_ (n3 2) ?_
  ·exact rfl
  ·exact(n0 (a5 g8 (a5 g8 (a5 g8 (a5 g8 (a5 g8 (a5 g8 (a5 g8 (a5 g8 b8)))))))))
  ·exact(i8 (i:=2) S.nd rfl (Or.inl rfl))
  refine d7 ?_
  refine G2 PassesOwn.never ?_ ?_ M.z_range ?_ ?_ (n3 3) ?_
  ·exact rfl
  ·exact rfl
  ·exact(a5 (a6 0 (pv 0)) b8)
  ·exact(i8 (i:=3) S.nd rfl (Or.inl rfl))
  exact(d7 (G2 PassesOwn.never rfl rfl M.z_range (a5 (a6 0 (pv 0)) b8) (i8 (i:=4) S.nd rfl (Or.inl rfl)) (n3 4) (d7 (a13 1 (pv 1) (y4 (a5 (a6 2 (pv 2)) (a5 (a6 3 (pv 3)) (a5 (a6 4 (pv 4)) b8))))))))
 exact(d7 (a0E 1 (pv 1)))
theorem a8N(D:Df K mg "_law_least" a1Q)(M:MoB K mg)(P9:a08 P w K mg base)(Z9:a3N P w K mg base):a4u P w K mg base:=by
 refine r8 (k:=2) D a3A (fun _ _ _ _ _ _=>el1 (fun _=>rfl)) fun f cdv A outer s H E hr=> ?_
 have S:=a3A
 have hu:=hr.units
 refine d7 ?_
 refine l7 ?_
 refine S0 (b1F hu rfl) ?_ M.z_min ?_ ?_
 ·exact rfl
 ·rfl
 refine G9 (ys:=["_law_movement_here"]) (N0:=["_law_carpet_here"]) (fun _ _ h=>h) ?_ ⟨by kernel_rfl,rfl,of_decide_eq_true rfl,of_decide_eq_true rfl,of_decide_eq_true rfl⟩ ?_ (fun C fp pins s H=>i8 (i:=1) a59 rfl (Or.inl rfl)) (fun n h=>u0 (i:=1) (Nat.le_of_eq h)) (fun C fp pins s H=>U5) ?_
 ·exact rfl
 ·exact(a3W (i7 Z9 hr (by decide) rfl (a8 d6) (a5 (S0 R1 rfl M.z_len (by rfl) (a6 0 (pv 0))) b8)))
 intro C fp pins s H
 exact(i7 P9 hr (by decide) rfl (a8 (a8 d6)) (a5 (a6 0 (pv 0)) (a5 (a6 1 (pv 1)) b8)))
theorem a47(D:Df K mg "_law_movement" W1)(Z9:a3N P w K mg base):a09 P w K mg base:=by
 refine r8 (k:=1) D a0Y (fun _ _ _ _ _ _=>el2 (fun _ _=>rfl)) fun f cdv A outer s H E hr=> ?_
 have S:=a0Y
 have hu:=hr.units
 exact(d7 (l7 (m6 (i7 Z9 hr (by decide) rfl (a8 d6) (a5 (a6 0 (pv 0)) b8)) (d8 t7 (a6 1 (pv 1)) (d8 z8 (d8 z8 c7 (a6 0 (pv 0))) (a6 0 (pv 0)))))))
theorem a8Q(D:Df K mg "_law_whole" a1T)(M:MoB K mg):a4v P w K mg base:=by
 refine r8 (k:=0) D a3D (fun _ _ _ _ _ _=>el1 (fun _=>rfl)) fun f cdv A outer s H E hr=> ?_
 have S:=a3D
 have hu:=hr.units
 exact(d7 (l7 (a5D (a8g (.inl rfl) rfl M.z_isinstance (a6 0 (pv 0)) (a3v rfl M.z_int (by rfl) rfl)) (a5E (b4d (a8g (.inr (.inl rfl)) rfl M.z_isinstance (a6 0 (pv 0)) (a3v rfl M.z_bool (by rfl) rfl)))))))
theorem a3s(D:Df K mg "_law_colour_due" O4)(M:MoB K mg):Z4 P w K mg base:=by
 refine r8 (k:=0) D X7 (fun _ _ _ _ _ _=>el2 (fun _ _=>rfl)) fun f cdv A outer s H E hr=> ?_
 have S:=X7
 have hu:=hr.units
 refine c8 ?_ ?_
 ·exact(g7 (i:=2) S.nd (Q0 g8 X0 (X1 (a6 1 (pv 1)))) rfl (Or.inr rfl))
 refine d7 ?_
 refine l7 ?_
 refine Q0 ?_ ?_ ?_
 ·refine G9 (ys:=["_law_colour"]) (N0:=["_law_carpet_here","_law_many","_law_letters"]) (fun _ _ h=>h) ?_ ⟨by kernel_rfl,rfl,of_decide_eq_true rfl,of_decide_eq_true rfl,of_decide_eq_true rfl⟩ ?_ (fun C fp pins s H=>i8 (i:=3) a2g rfl (Or.inl rfl)) (fun n h=>u0 (i:=3) (Nat.le_of_eq h)) ?_ ?_
  ·exact rfl
  ·exact(a3W (S0 (b33 rfl) rfl M.z_sorted (by rfl) (a3c g8 (a6 0 (pv 0)))))
  ·intro C fp pins s H
   exact(b4b (A1 (a6l hu) (a6 3 (pv 3)) (a6 2 (pv 2)) (by first|rfl|exact nomark _)))
  intro C fp pins s H
  exact(a6 3 (pv 3))
 ·exact X0
 exact(X1 c7)
theorem b1f(D:Df K mg "_law_odd" a4l)(M:MoB K mg)(N3:Z4 P w K mg base)(m7:B9 P w K mg base):a60 P w K mg base:=by
 refine r8 (k:=7) D a6y (fun _ _ _ _ _ _=>el3 (fun _ _ _=>rfl)) fun f cdv A outer s H E hr=> ?_
 have S:=a6y
 have hu:=hr.units
 refine c8 ?_ ?_
 ·exact(g7 (i:=3) S.nd (S0 R1 rfl M.z_len (by rfl) (a6 0 (pv 0))))
 refine c8 ?_ ?_
 ·exact(g7 (i:=4) S.nd (a7g (b31 rfl) rfl M.z_list (by rfl) (a6 0 (pv 0))))
 refine c8 ?_ ?_
 ·exact(g7 (i:=5) S.nd (m6 g8 (d8 t7 (a6 2 (pv 2)) c7)))
 refine c8 ?_ ?_
 ·exact(g7 (i:=6) S.nd (d8 t7 (d8 M0 (a6 2 (pv 2)) c7) (a6 3 (pv 3))))
 refine c8 ?_ ?_
 ·exact(g7 (i:=7) S.nd (d8 t7 (d8 M0 (a6 2 (pv 2)) c7) (a6 3 (pv 3))))
 refine c8 ?_ ?_
 ·exact(b4h 4 (pv 4) (a6 6 (pv 6)) (d8 v6 (d8 v6 (Q0 (m6 (a6 4 (pv 4)) (a6 6 (pv 6))) X0 (X1 (a6 7 (pv 7)))) (a6 5 (pv 5))) (Q0 (m6 (a6 4 (pv 4)) (a6 6 (pv 6))) (X1 (d8 v6 (a6 7 (pv 7)) c7)) X0)))
 refine c8 ?_ ?_
 ·exact(a5J 4 (g7 (i:=8) S.nd (i7 N3 hr (by decide) rfl (a8 (a8 d6)) (a5 (a6 4 (pv 4)) (a5 (a6 1 (pv 1)) b8)))))
 refine d7 ?_
 refine l7 ?_
 refine c0b ?_ ?_
 ·exact(a3U (a0L hu) (a6 8 (pv 8)) (n0 b8) (by first|rfl|exact nomark _))
 refine a5E ?_
 refine a3U (a0L hu) ?_ ?_ ?_
 ·exact(i7 m7 hr (by decide) rfl (a8 (a8 d6)) (a5 (a7g a1j rfl M.z_tuple (by rfl) (a6 4 (pv 4))) (a5 (a6 1 (pv 1)) b8)))
 ·exact(n0 (a5 g8 (a5 (m6 (a6 8 (pv 8)) c7) b8)))
 first|rfl|exact nomark _
theorem b82{f:AB}{fd:FuncData}(F:Fun K "law" "law" b5u f fd)(M:MoB K mg)(D8:a07 P w K mg base)(z4:P8 P w K mg base)(O8:a2m P w K mg base)(U2:a1a P w K mg base)(K6:a0u P w K mg base)(a1n:a4u P w K mg base)(P9:a08 P w K mg base)(m7:B9 P w K mg base)(U1:a09 P w K mg base)(o0:G8 P w K mg base)(a1o:a4v P w K mg base)(a3T:a60 P w K mg base):M4 P w K mg base CX0 10 f fd ["_law_script"] (spP K 1 b7Q):=by
 refine b7N (k:=9) F b5w fun cdv A outer s H E hr=> ?_
 have S:=b5w
 have hu:=hr.units
 refine c8 ?_ ?_
 ·exact(g7 (i:=1) S.nd (i7 D8 hr (by decide) rfl (a8 (a8 d6)) (a5 (i7 O8 hr (by decide) rfl (a8 (a8 d6)) (a5 (a6 0 (pv 0)) (a5 c7 b8))) (a5 c7 b8))))
 refine c8 ?_ ?_
 ·exact(g7 (i:=2) S.nd (m6 (n0 (a5 c7 (a5 c7 (a5 c7 (a5 c7 b8))))) (d8 t7 (a6 1 (pv 1)) c7)))
 refine c8 ?_ ?_
 ·refine g7 (i:=3) ?_ ?_
  ·exact S.nd
  exact(m6 (n0 (a5 (d8 v6 c7 (d8 t7 (d8 M0 (a6 1 (pv 1)) c7) c7)) (a5 (d8 v6 c7 (d8 t7 (d8 M0 (a6 1 (pv 1)) c7) c7)) (a5 c7 b8)))) (d8 a3u (a6 2 (pv 2)) c7))
 refine c8 ?_ ?_
 ·refine J5 ?_ ?_ ?_
  ·exact(A1 (a0L hu) (d8 t7 (d8 M0 (a6 1 (pv 1)) c7) c7) c7 (by first|rfl|exact nomark _))
  ·exact(d7 (g7 (i:=3) S.nd (m6 (n0 (a5 (a6 3 (pv 3)) (a5 c7 (a5 c7 b8)))) (d8 a3u (a6 2 (pv 2)) c7))))
  exact x4
 refine c8 ?_ ?_
 ·exact(g7 (i:=4) S.nd (b1L z4 hr (by decide) rfl (a8 (a8 d6)) (a5 (a6 2 (pv 2)) (a5 (a6 3 (pv 3)) b8))))
 refine c8 ?_ ?_
 ·refine J5 ?_ ?_ ?_
  ·refine a5K ?_
   refine a1t ?_
   refine i7 U2 hr ?_ ?_ ?_ ?_
   ·decide
   ·exact rfl
   ·exact(a8 d6)
   exact(a5 (i7 D8 hr (by decide) rfl (a8 (a8 d6)) (a5 (i7 O8 hr (by decide) rfl (a8 (a8 d6)) (a5 (a6 0 (pv 0)) (a5 c7 b8))) (a5 c7 b8))) b8)
  ·exact(d7 (l7 a3b))
  exact x4
 refine c8 ?_ ?_
 ·refine b4g PassesOwn.never ?_ ?_ M.z_range ?_ ?_ (n3 5) ?_
  ·exact rfl
  ·exact rfl
  ·exact(a5 c7 (a5 (c0a (b8j rfl) rfl M.z_min (by rfl) (S0 R1 rfl M.z_len (by rfl) (a6 0 (pv 0))) (m6 (n0 (a5 c7 (a5 c7 (a5 c7 b8)))) (d8 a3u (a6 2 (pv 2)) c7))) b8))
  ·exact(i8 (i:=5) S.nd rfl (Or.inl rfl))
  refine c8 ?_ ?_
  ·exact(g7 (i:=6) S.nd (i7 D8 hr (by decide) rfl (a8 (a8 d6)) (a5 (m6 (a6 0 (pv 0)) (a6 5 (pv 5))) (a5 (a6 5 (pv 5)) b8))))
  refine c8 ?_ ?_
  ·exact(g7 (i:=7) S.nd (i7 K6 hr (by decide) rfl (a8 (a8 (a8 d6))) (a5 (a6 2 (pv 2)) (a5 (a6 3 (pv 3)) (a5 (m6 (a6 0 (pv 0)) (a6 5 (pv 5))) b8)))))
  refine c8 ?_ ?_
  ·exact(g7 (i:=8) S.nd (i7 a1n hr (by decide) rfl (a8 d6) (a5 (a6 7 (pv 7)) b8)))
  refine c8 ?_ ?_
  ·exact(g7 (i:=9) S.nd (i7 P9 hr (by decide) rfl (a8 (a8 d6)) (a5 (a6 7 (pv 7)) (a5 (i7 U1 hr (by decide) rfl (a8 (a8 d6)) (a5 (a6 2 (pv 2)) (a5 (a6 6 (pv 6)) b8))) b8))))
  refine c8 ?_ ?_
  ·exact(g7 (i:=10) S.nd (i7 m7 hr (by decide) rfl (a8 (a8 d6)) (a5 (m6 (n0 (a5 (a6 7 (pv 7)) (a5 (a6 9 (pv 9)) b8))) (d8 t7 (a6 5 (pv 5)) c7)) (a5 (a6 3 (pv 3)) b8))))
  refine c8 ?_ ?_
  ·refine J5 (PW.pt (b1P (a5K (a1t (i7 a1o hr (by decide) rfl (a8 d6) (a5 (m6 (a6 10 (pv 10)) c7) b8)))) (a8k (A1 (a2N hu) (a6 10 (pv 10)) (n0 (a5 g8 (a5 (a9C hu (a6 4 (pv 4)) (a6 8 (pv 8))) b8))) (by first|rfl|exact nomark _))))) ?_ ?_
   ·exact(d7 (l7 a3b))
   exact x4
  refine c8 ?_ ?_
  ·refine J5 (PW.pt (b1P (A1 (a2N hu) (i7 o0 hr (by decide) rfl (a8 (a8 (a8 d6))) (a5 (a6 2 (pv 2)) (a5 (a6 3 (pv 3)) (a5 (m6 (a6 10 (pv 10)) c7) b8)))) (n0 (a5 g8 (a5 (a6 8 (pv 8)) b8))) (by first|rfl|exact nomark _)) (a8k (a5K (a1t (i7 a3T hr (by decide) rfl (a8 (a8 (a8 d6))) (a5 (a6 7 (pv 7)) (a5 (a6 3 (pv 3)) (a5 (d8 M0 (a6 6 (pv 6)) c7) b8))))))))) ?_ ?_
   ·exact(d7 (l7 a3b))
   exact x4
  refine c8 ?_ ?_
  ·refine g7 (i:=11) ?_ ?_
   ·exact S.nd
   refine m6 ?_ ?_
   ·exact(n0 (a5 (a3V c7) (a5 (S0 R1 rfl M.z_len (by rfl) (a6 4 (pv 4))) (a5 U6 (a5 a3b (a5 g8 (a5 (n0 (a5 c7 b8)) (a5 (d8 b60 c7 c7) b8))))))))
   exact(d8 t7 (d8 M0 (a6 6 (pv 6)) c7) c7)
  refine d7 ?_
  refine J5 ?_ ?_ ?_
  ·exact(A1 (a2N hu) (i7 o0 hr (by decide) rfl (a8 (a8 (a8 d6))) (a5 (a6 2 (pv 2)) (a5 (a6 3 (pv 3)) (a5 (a6 11 (pv 11)) b8)))) (n0 (a5 g8 (a5 U6 b8))) (by first|rfl|exact nomark _))
  ·exact(d7 (l7 a3b))
  exact x4
 exact(d7 (l7 a3b))
end
theorem b78{l:PySem.W.OpenLaw}{w:AJ}{K:AE}{h:Heap}{mg:Str->Option AA}{fa:AB}(X:K.In h)(G:h.Ns mainGlobals mg)(hfa:mg "law"=some (.ref fa))
 {C_CarpetError:AB}
 {C_NoColour:AB}
 {C_NoNumber:AB}
 {C_TooLarge:AB}
 {f0_NoColour:AB}
 {f0_TooLarge:AB}
 {uu_WAYS:AA}
 {aa_LEADS:AB}
 {uu_LETTERS:AA}
 {uu_MOST_CARPETS:AA}
 (D8:Df0 K "_law_mixed" a1R)
 (U4:Df0 K "times_itself" W3)
 (a1m:Df0 K "check_few" a1P)
 (C0:Df0 K "all_movements" R5)
 (a29:Df0 K "longer" a6u)
 (Y5:Df0 K "all_carpets" Y8)
 (a2z:Df0 K "way_back" a2R)
 (U3:Df0 K "place_by" a2Q)
 (a0B:Df0 K "taken_back" a0Q)
 (b35:Df0 K "led" b5v)
 (a1p:Df0 K "moved_row" a1U)
 (a3a:Df0 K "moved" a85)
 (z4:Df0 K "all_forms" a1N)
 (O8:Df0 K "_law_cell_at" Y9)
 (K6:Df0 K "_law_carpet" a0O)
 (a0z:Df0 K "colours_of" a0N)
 (a0A:Df0 K "least_form" a0P)
 (a1q:Df0 K "number_of" a1V)
 (G1:Df0 K "_law_refusal" Z0)
 (m7:Df0 K "_law_of_carpet" R7)
 (a3R:Df0 K "is_step" a4i)
 (a1l:Df0 K "carpet_of" a1O)
 (o0:Df0 K "_law_by_number" R6)
 (N4:Df0 K "_law_one_colour" O5)
 (U2:Df0 K "_law_too_many" W2)
 (a3S:Df0 K "_law_led" a4k)
 (P9:Df0 K "_law_moved" a1S)
 (Z9:Df0 K "_law_all" a4j)
 (a1n:Df0 K "_law_least" a1Q)
 (U1:Df0 K "_law_movement" W1)
 (a1o:Df0 K "_law_whole" a1T)
 (N3:Df0 K "_law_colour_due" O4)
 (a3T:Df0 K "_law_odd" a4l)
 (b95:Df0 K "law" b5u)
 (nk:a6e K=true)
 (xa_CarpetError:PySem.W.nsIn K mainGlobals "CarpetError"=some (some (.ref C_CarpetError))) (xq_CarpetError:(Y7 K C_CarpetError "CarpetError" && a40 K C_CarpetError)=true)
 (xa_NoColour:PySem.W.nsIn K mainGlobals "NoColour"=some (some (.ref C_NoColour))) (xq_NoColour:(Y7 K C_NoColour "NoColour" && a40 K C_NoColour)=true)
 (xa_NoNumber:PySem.W.nsIn K mainGlobals "NoNumber"=some (some (.ref C_NoNumber))) (xq_NoNumber:(Y7 K C_NoNumber "NoNumber" && a40 K C_NoNumber)=true)
 (xa_TooLarge:PySem.W.nsIn K mainGlobals "TooLarge"=some (some (.ref C_TooLarge))) (xq_TooLarge:(Y7 K C_TooLarge "TooLarge" && a40 K C_TooLarge)=true)
 (xf_NoColour:a9e K C_NoColour=true)
 (xf_NoNumber:a9e K C_NoNumber=true)
 (xf_TooLarge:a9e K C_TooLarge=true)
 (xe_NoNumber:PySem.W.excIn K C_NoNumber a3r "ValueError.__new__"=true)
 (x0_NoColour:PySem.W.findIn K (.ref C_NoColour) "__init__"=some (some (.ref f0_NoColour))) (xk_NoColour:(Y7 K C_NoColour "NoColour" && b6A K C_NoColour)=true) (x1_NoColour:a3Y K C_NoColour f0_NoColour=true) (x2_NoColour:(["colour"]:List Str).all (fun g=>PySem.W.findIn K (.ref C_NoColour) g==some none)=true) (dm0_NoColour:Dm K "__init__" "NoColour.__init__" a4S f0_NoColour)
 (x0_TooLarge:PySem.W.findIn K (.ref C_TooLarge) "__init__"=some (some (.ref f0_TooLarge))) (xk_TooLarge:(Y7 K C_TooLarge "TooLarge" && b6A K C_TooLarge)=true) (x1_TooLarge:a3Y K C_TooLarge f0_TooLarge=true) (x2_TooLarge:(["many"]:List Str).all (fun g=>PySem.W.findIn K (.ref C_TooLarge) g==some none)=true) (dm0_TooLarge:Dm K "__init__" "TooLarge.__init__" a4T f0_TooLarge)
 (xr_CarpetError:PySem.W.readsIn K C_CarpetError (.type "type")=true) (xg_CarpetError:PySem.W.findCls K (.ref C_CarpetError) (.type "type") "__init__"=some (.val (.builtin "ValueError.__init__"))) (xs_CarpetError:PySem.W.specialIn K (.ref C_CarpetError) "__getattribute__"=some (some (.builtin "type.__getattribute__")))
 (ks_NoColour_NoColour:PySem.W.kitOne K (.ref C_NoColour) (.ref C_NoColour)=some true)
 (ks_NoColour_NoNumber:PySem.W.kitOne K (.ref C_NoColour) (.ref C_NoNumber)=some false)
 (ks_NoColour_TooLarge:PySem.W.kitOne K (.ref C_NoColour) (.ref C_TooLarge)=some false)
 (ks_NoColour_ValueError:PySem.W.kitOne K (.ref C_NoColour) (.type "ValueError")=some true)
 (ks_NoNumber_NoColour:PySem.W.kitOne K (.ref C_NoNumber) (.ref C_NoColour)=some false)
 (ks_NoNumber_NoNumber:PySem.W.kitOne K (.ref C_NoNumber) (.ref C_NoNumber)=some true)
 (ks_NoNumber_TooLarge:PySem.W.kitOne K (.ref C_NoNumber) (.ref C_TooLarge)=some false)
 (ks_NoNumber_ValueError:PySem.W.kitOne K (.ref C_NoNumber) (.type "ValueError")=some true)
 (ks_TooLarge_NoColour:PySem.W.kitOne K (.ref C_TooLarge) (.ref C_NoColour)=some false)
 (ks_TooLarge_NoNumber:PySem.W.kitOne K (.ref C_TooLarge) (.ref C_NoNumber)=some false)
 (ks_TooLarge_TooLarge:PySem.W.kitOne K (.ref C_TooLarge) (.ref C_TooLarge)=some true)
 (ks_TooLarge_ValueError:PySem.W.kitOne K (.ref C_TooLarge) (.type "ValueError")=some true)
 (im_NoColour_CarpetError:a0U K C_NoColour C_CarpetError=true)
 (im_NoNumber_CarpetError:a0U K C_NoNumber C_CarpetError=true)
 (im_TooLarge_CarpetError:a0U K C_TooLarge C_CarpetError=true)
 (z_ValueError:PySem.W.nsIn K mainGlobals "ValueError"=some none)
 (z_bool:PySem.W.nsIn K mainGlobals "bool"=some none)
 (z_int:PySem.W.nsIn K mainGlobals "int"=some none)
 (z_isinstance:PySem.W.nsIn K mainGlobals "isinstance"=some none)
 (z_len:PySem.W.nsIn K mainGlobals "len"=some none)
 (z_list:PySem.W.nsIn K mainGlobals "list"=some none)
 (z_min:PySem.W.nsIn K mainGlobals "min"=some none)
 (z_range:PySem.W.nsIn K mainGlobals "range"=some none)
 (z_set:PySem.W.nsIn K mainGlobals "set"=some none)
 (z_sorted:PySem.W.nsIn K mainGlobals "sorted"=some none)
 (z_tuple:PySem.W.nsIn K mainGlobals "tuple"=some none)
 (e_WAYS:PySem.W.nsIn K mainGlobals "WAYS"=some (some uu_WAYS)) (q_WAYS:a0v K 40 uu_WAYS=some a9b)
 (e_LEADS:PySem.W.nsIn K mainGlobals "LEADS"=some (some (.ref aa_LEADS)))
 (t_LEADS:b9G K 9 aa_LEADS=some D0) (h_LEADS:a8t K aa_LEADS=D0.map (fun kv=>b25 w kv.1))
 (e_LETTERS:PySem.W.nsIn K mainGlobals "LETTERS"=some (some uu_LETTERS)) (q_LETTERS:a0v K 40 uu_LETTERS=some J8)
 (e_MOST_CARPETS:PySem.W.nsIn K mainGlobals "MOST_CARPETS"=some (some uu_MOST_CARPETS)) (q_MOST_CARPETS:a0v K 40 uu_MOST_CARPETS=some M2)
 :∃fd:FuncData,(∀(s:AC) (v:AA),BindsTo s fd ⟨[v],[]⟩ [("_law_script",v)])/\∀base:Heap,K.In base->base.Ns mainGlobals mg->M4 l.prog w K mg base CX0 10 fa fd ["_law_script"] (b0l K):=by
 have x_CarpetError:XC K mg "CarpetError" C_CarpetError:=b2x X G xa_CarpetError xq_CarpetError
 have x_NoColour:XC K mg "NoColour" C_NoColour:=b2x X G xa_NoColour xq_NoColour
 have x_NoNumber:XC K mg "NoNumber" C_NoNumber:=b2x X G xa_NoNumber xq_NoNumber
 have x_TooLarge:XC K mg "TooLarge" C_TooLarge:=b2x X G xa_TooLarge xq_TooLarge
 have M:MoB K mg:=⟨PySem.W.mg_none_of X G z_ValueError,PySem.W.mg_none_of X G z_bool,PySem.W.mg_none_of X G z_int,PySem.W.mg_none_of X G z_isinstance,PySem.W.mg_none_of X G z_len,PySem.W.mg_none_of X G z_list,PySem.W.mg_none_of X G z_min,PySem.W.mg_none_of X G z_range,PySem.W.mg_none_of X G z_set,PySem.W.mg_none_of X G z_sorted,PySem.W.mg_none_of X G z_tuple,nk⟩
 have mm_WAYS:=PySem.W.mg_of X G e_WAYS
 have mm_LEADS:=PySem.W.mg_of X G e_LEADS
 have tt_LEADS:Tab l.prog w K aa_LEADS D0:=b9I 9 t_LEADS h_LEADS (by decide+kernel)
 have mm_LETTERS:=PySem.W.mg_of X G e_LETTERS
 have mm_MOST_CARPETS:=PySem.W.mg_of X G e_MOST_CARPETS
 have kx_NoColour:KX K "NoColour" C_NoColour:=b7R xa_NoColour xk_NoColour
 have na_NoColour:∀g∈(["colour"]:List Str),T7 K C_NoColour g:=b3N x2_NoColour
 have kx_TooLarge:KX K "TooLarge" C_TooLarge:=b7R xa_TooLarge xk_TooLarge
 have na_TooLarge:∀g∈(["many"]:List Str),T7 K C_TooLarge g:=b3N x2_TooLarge
 have fx_colour:a4r K ["NoColour"] "colour":=(a5N kx_NoColour (na_NoColour _ (by decide)) a7m)
 have fx_many:a4r K ["TooLarge"] "many":=(a5N kx_TooLarge (na_TooLarge _ (by decide)) a7m)
 refine b6B (b95.to X G) hfa (fun _ _ _ _ _ _ _=>rfl) main fun base f fd kb F=> ?_
 have xi_NoColour:b2D l.prog w K mg base "NoColour" ["colour"] 1:=a9O (k:=0) dm0_NoColour a86 rfl kx_NoColour (PySem.W.mg_of X G xa_NoColour) x1_NoColour na_NoColour (by decide+kernel) (by decide) (fun _ _ _ _ _ _=>el2 (fun _ _=>rfl)) fun cdv A outer s H E hr=>(a0m (b0b rfl (PySem.W.mg_of X G xa_CarpetError) xr_CarpetError xg_CarpetError xs_CarpetError (y3 (pv 0) (y3 (pv 1) O3))) (a0m (b2l rfl (pv 0) (pv 1)) a80))
 have xi_TooLarge:b2D l.prog w K mg base "TooLarge" ["many"] 1:=a9O (k:=0) dm0_TooLarge a87 rfl kx_TooLarge (PySem.W.mg_of X G xa_TooLarge) x1_TooLarge na_TooLarge (by decide+kernel) (by decide) (fun _ _ _ _ _ _=>el2 (fun _ _=>rfl)) fun cdv A outer s H E hr=>(a0m (b0b rfl (PySem.W.mg_of X G xa_CarpetError) xr_CarpetError xg_CarpetError xs_CarpetError (y3 (pv 0) (y3 (pv 1) O3))) (a0m (b2l rfl (pv 0) (pv 1)) a80))
 have a4p:=a8O l.prog w base (D8.to X G)
 have a5t:=a49 l.prog w base (U4.to X G) M
 have a9h:=a8M l.prog w base (a1m.to X G) xi_TooLarge mm_MOST_CARPETS q_MOST_CARPETS a5t
 have a0S:=a4a l.prog w base (C0.to X G) M mm_WAYS q_WAYS
 have b3G:=b3n l.prog w base (a29.to X G)
 have a6M:=a6h l.prog w base (Y5.to X G) M mm_LETTERS q_LETTERS b3G
 have b0w:=a95 l.prog w base (a2z.to X G)
 have a5s:=a94 l.prog w base (U3.to X G) mm_LEADS tt_LEADS
 have a72:=a6V l.prog w base (a0B.to X G) b0w a5s
 have b9W:=b83 l.prog w base (b35.to X G) a5s
 have a9k:=a8R l.prog w base (a1p.to X G) M b9W
 have b1t:=b43 l.prog w base (a3a.to X G) M a72 a9k
 have W5:=a8K l.prog w base (z4.to X G) M a9h a0S a6M b1t
 have a6N:=a6i l.prog w base (O8.to X G) M
 have a2U:=a6T l.prog w base (K6.to X G) M a4p
 have a70:=a6S l.prog w base (a0z.to X G) M
 have a71:=a6U l.prog w base (a0A.to X G) M b1t a0S
 have a9l:=a8S l.prog w base (a1q.to X G) M xi_NoColour mm_LETTERS q_LETTERS a70 W5 a71
 have a2j:=a6j l.prog w base (G1.to X G) M x_NoColour x_NoNumber x_TooLarge ks_NoColour_NoColour ks_NoColour_NoNumber ks_NoColour_TooLarge ks_NoColour_ValueError ks_NoNumber_NoColour ks_NoNumber_NoNumber ks_NoNumber_TooLarge ks_NoNumber_ValueError ks_TooLarge_NoColour ks_TooLarge_NoNumber ks_TooLarge_TooLarge ks_TooLarge_ValueError xf_NoColour xf_NoNumber xf_TooLarge fx_colour fx_many
 have G7:=a4c l.prog w base (m7.to X G) x_CarpetError x_NoColour x_NoNumber x_TooLarge im_NoColour_CarpetError im_NoNumber_CarpetError im_TooLarge_CarpetError a9l a2j
 have b2z:=b1c l.prog w base (a3R.to X G) M
 have a9g:=a8L l.prog w base (a1l.to X G) M kb x_NoNumber xe_NoNumber W5 b2z
 have Q7:=a4b l.prog w base (o0.to X G) x_CarpetError x_NoColour x_NoNumber x_TooLarge im_NoColour_CarpetError im_NoNumber_CarpetError im_TooLarge_CarpetError a9g a2j
 have a3M:=a3t l.prog w base (N4.to X G) M W5 G7 Q7
 have a5r:=a48 l.prog w base (U2.to X G) M a2U a3M G7 Q7
 have b2A:=b1e l.prog w base (a3S.to X G)
 have a4q:=a8P l.prog w base (P9.to X G) M b2A
 have a6X:=b1d l.prog w base (Z9.to X G) M
 have a9i:=a8N l.prog w base (a1n.to X G) M a4q a6X
 have a5q:=a47 l.prog w base (U1.to X G) a6X
 have a9j:=a8Q l.prog w base (a1o.to X G) M
 have a3L:=a3s l.prog w base (N3.to X G) M
 have b2B:=b1f l.prog w base (a3T.to X G) M a3L G7
 exact b82 l.prog w base F M a4p W5 a6N a5r a2U a9i a4q G7 a5q Q7 a9j b2B
end LW
namespace PySem.W.Fast
def tw9669399954232767888:=()
def tw15519424753968982442:=()
def tw15766814752464285677:=()
def tw601120957695385673:=()
def tw4790514589332400687:=()
def tw2739436193537749062:=()
def tw13626970156784491264:=()
def tw13146967358915155354:=()
def tw4868603103807668273:=()
def tw183290846457674814:=()
def tw17599583206470427734:=()
def tw4189994954486220687:=()
def tw9786361728421526323:=()
def tw2254005765584815930:=()
def tw9838174058459996495:=()
def tw1094540810077936428:=()
def tw17379075042138011130:=()
def tw6389672422007481920:=()
def tw12372369588706660653:=()
def tw1944265087863211086:=()
def tw17346706518696979789:=()
def tw3240977772043940494:=()
def tw12507785465085056910:=()
def tw6241134043611715411:=()
def tw4241084289865703743:=()
def tw3879802652520601951:=()
def tw13773947521500404377:=()
def tw7096230766015245351:=()
def tw11977704907573451999:=()
def tw761942088116093726:=()
def tw6172546617293394387:=()
def tw7434336603122122356:=()
def tw10183008286366829469:=()
def tw5816821707148899732:=()
def tw2645062063288620619:=()
def tw11125500655764826133:=()
def tw13460030685549249989:=()
def tw13824412677166967562:=()
def tw15655952862203017605:=()
def tw1274519551819218213:=()
def tw16059050244152181488:=()
def tw7703519000564879481:=()
def tw3370079203883199010:=()
def tw12497629385291010793:=()
def tw7244651161846216325:=()
def tw10098977741590502605:=()
def tw5425005613675613208:=()
def tw12707178768653276519:=()
def tw3544315493131217108:=()
def tw9800034751403257684:=()
def tw3978464224174225853:=()
def tw16416920107933485866:=()
def tw5186478239679673880:=()
def tw7694619384392101287:=()
def tw9226925420404409695:=()
def tw15673429252727379755:=()
def tw7291718317047065904:=()
def tw8449075980640455477:=()
def tw11396945613213882558:=()
def tw13983967614764290520:=()
def tw7851307887689608435:=()
def tw2165606652699411339:=()
def tw6565880792643460580:=()
def tw3228346835985163233:=()
def tw16561825473868219379:=()
def tw8473305157625462483:=()
def tw12577681087377962873:=()
def tw16733594286390416259:=()
def tw1926485461142626112:=()
def tw3017873430667007825:=()
def tw17503453516109402062:=()
def tw303972487414238140:=()
def tw6144564390999989325:=()
def tw2196690091067835465:=()
def tw14098189437071465173:=()
def tw15047018656862846966:=()
def tw9947649146455523795:=()
def tw10236423212801700446:=()
def tw4189260610980123021:=()
def tw5580715633949269001:=()
def tw6398892215469722866:=()
def tw11990377775320266958:=()
def tw16838151496517541780:=()
def tw4166221729819734207:=()
def tw10821772251473948199:=()
def tw17632549890169027060:=()
def tw13697792845628712050:=()
def tw4019755284292486342:=()
def tw11123156280850003558:=()
end PySem.W.Fast
open PySem PySem.W PyProof.Rows
set_option maxRecDepth 100000 in
set_option maxHeartbeats 0 in
theorem PySem.Challenge.cw_carpetkin_k85_whole_numbers_holds : PySem.Challenge.rw_carpetkin_k85_whole_numbers.Holds := by
 w_on;o_law;k_head;(case hw=>w_witness2)
 k_fill
 refine PU.c1t (k:=10) (x:="_law_script") (l:=PySem.Challenge.rw_carpetkin_k85_whole_numbers) (by decide) rfl rfl (fun w h Y=>PySem.W.kIn_of Y) ?F
 case F=>
  intro w mg fa h KX G hmg
  refine' LW.b78 KX G hmg ?_ ?_ ?_ ?_ ?_ ?_ ?_ ?_ ?_ ?_ ?_ ?_ ?_ ?_ ?_ ?_ ?_ ?_ ?_ ?_ ?_ ?_ ?_ ?_ ?_ ?_ ?_ ?_ ?_ ?_ ?_ ?_ ?_ ?_ ?_ ?_ ?_ ?_ ?_ ?_ ?_ ?_ ?_ ?_ ?_ ?_ ?_ ?_ ?_ ?_ ?_ ?_ ?_ ?_ ?_ ?_ ?_ ?_ ?_ ?_ ?_ ?_ ?_ ?_ ?_ ?_ ?_ ?_ ?_ ?_ ?_ ?_ ?_ ?_ ?_ ?_ ?_ ?_ ?_ ?_ ?_ ?_ ?_ ?_ ?_ ?_ ?_ ?_ ?_ ?_ ?_ ?_ ?_ ?_ ?_
  all_goals first|(apply PU.b96<;>k_is)|(apply PU.b98<;>first|k_is|kernel_rfl)|k_is|kernel_rfl|skip
