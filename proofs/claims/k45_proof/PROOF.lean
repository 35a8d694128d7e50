import PyProof.Rows.All
import Wide.All
import OpenK.AllK
import Wide.FinOn
import Lean
import PyProof.EqAt
import PyProof.EqKinds
import PyProof.TupleCall
import PyProof.Rows.SortPure
import PyProof.Rows.SortWalk
import PyProof.AttrMissHeap
import KE.KDictOf
import KE.KIntText
import PyProof.StrBlockH
import PyProof.CallStr
import PyProof.StrLawsIn
import PyProof.StrLawsOcc
import PyProof.StationsW
import PyProof.ExcClass2
import PyProof.ExcBaseAll.ValueError
import PyProof.RulesTry
import PyProof.Rows.CatchBare
import PyProof.Rows.CatchOwn
import OpenK.KOwn
import PyProof.NsDelKeeps
import PyProof.Rows.RuleDivmod
import PyProof.Rows.SumAny
import PySem.Challenge.RW_carpetkin_k45_whole_all_by_few
set_option Elab.async false
set_option linter.all false
set_option maxRecDepth 100000
noncomputable section
open PySem renaming Value -> AA
open PySem renaming Addr -> AB
open PySem renaming Shared -> AC
open PySem.W renaming Frag -> AD
open PySem renaming Expr -> AE
open PySem renaming wpAny_bind -> AF
open PySem renaming wpAny -> AG
open Option renaming bind_some -> AH
open PySem.Str renaming ofString -> AI
open PySem renaming World -> AJ
open PySem renaming sizeLine -> AK
open PySem renaming Program -> AL
open List renaming map_cons -> AM
open Nat renaming le_refl -> AN
open PySem renaming Around -> AO
open PySem renaming wpAny_pure -> AQ
open List renaming set_cons_zero -> AR
open List renaming set_cons_succ -> AS
open List renaming length_cons -> AT
open List renaming length_map -> AU
open List renaming replicate -> AV
open List renaming range -> AW
open PySem renaming starEach -> AX
open PySem.Heap renaming lt_size -> AY
open List renaming length_append -> AZ
open List renaming length_nil -> Aa
open List renaming size_toArray -> Ab
open List renaming replicate_succ -> Ac
open List renaming map_nil -> Ad
open PySem.Heap renaming get?_push_of_some -> Ae
open List renaming replicate_zero -> Af
open List renaming mem_cons -> Ag
open Nat renaming reduceLeDiff -> Ah
open List renaming mem_cons_of_mem -> Ai
open List renaming mem_map -> Aj
open List renaming nil_append -> Ak
open List renaming mem_cons_self -> Al
open List renaming append_nil -> Am
open Nat renaming ne_of_lt -> An
open List renaming cons_append -> Ao
open List renaming mem_append -> Ap
open List renaming getElem?_map -> Aq
open List renaming getElem?_eq_some_iff -> Ar
open Bool renaming false_ne_true -> As
open Bool renaming false_eq_true -> At
open List renaming mem_of_getElem? -> Au
open List renaming mem_append_right -> Av
open PySem.Heap renaming get?_push_size -> Aw
open List renaming map_append -> Ax
open List renaming mem_append_left -> Ay
open List renaming map_map -> Az
open List renaming getElem?_eq_getElem -> BA
open List renaming getElem?_append_left -> BB
open Nat renaming lt_of_lt_of_le -> BC
open List renaming length_range -> BD
open Nat renaming le_of_lt -> BE
open Option renaming map_some -> BF
open Int renaming toNat_natCast -> BG
open List renaming getElem?_set_self -> BH
namespace L2
open PySem PySem.Spec PyProof.Rows
abbrev f8:=Sum Int Str
def a5A:f8->AA->Bool
 | .inl k,v=>Value.isInt k v
 | .inr x,v=>Value.isStrOf x v
def b0w(w:AJ):f8->Int
 | .inl k=>hashInt k
 | .inr x=>hashStr w x
theorem t7:∀{k:f8} {v:AA},a5A k v=true->(∃i t,k=Sum.inl i/\v=Value.int i t)\/(∃x t,k=Sum.inr x/\v=Value.str x t)
 | .inl i,v,h=>by
   obtain⟨t,e⟩:=Value.isInt_shape (k:=i) (v:=v) h
   exact .inl ⟨i,t,rfl,e⟩
 | .inr x,v,h=>by
   obtain⟨t,e⟩:=Value.isStrOf_shape (x:=x) (v:=v) h
   exact .inr ⟨x,t,rfl,e⟩
theorem b0x(i:Int)(t:Tok):a5A (.inl i) (.int i t)=true:=by simp [a5A,Value.isInt]
theorem b0y(x:Str)(t:Tok):a5A (.inr x) (.str x t)=true:=by simp [a5A,Value.isStrOf]
theorem b2c(a b:Int):decide ((Sum.inl a:f8)=Sum.inl b)=(a==b):=by
 by_cases e:a=b
 ·subst e;simp
 ·have h:¬(Sum.inl a:f8)=Sum.inl b:=fun q=>e (Sum.inl.inj q)
  rw [decide_eq_false h]
  exact(beq_eq_false_iff_ne.mpr e).symm
theorem b2d(a b:Str):decide ((Sum.inr a:f8)=Sum.inr b)=decide (a=b):=by
 by_cases e:a=b
 ·subst e;simp
 ·have h:¬(Sum.inr a:f8)=Sum.inr b:=fun q=>e (Sum.inr.inj q)
  rw [decide_eq_false h,decide_eq_false e]
theorem b6k(a:Int)(b:Str):decide ((Sum.inl a:f8)=Sum.inr b)=false:=decide_eq_false (fun q=>nomatch q)
theorem b6l(a:Str)(b:Int):decide ((Sum.inr a:f8)=Sum.inl b)=false:=decide_eq_false (fun q=>nomatch q)
def k4(prog:AL)(w:AJ):PySem.KeyKind prog w f8 where
 is:=a5A
 hash:=b0w w
 inj:=fun v a b ha hb=>by
  rcases t7 ha with⟨i,t,rfl,rfl⟩|⟨x,t,rfl,rfl⟩
  ·rcases t7 hb with⟨j,u,rfl,e⟩|⟨y,u,rfl,e⟩
   ·injection e with e1 _;rw [e1]
   ·exact nomatch e
  ·rcases t7 hb with⟨j,u,rfl,e⟩|⟨y,u,rfl,e⟩
   ·exact nomatch e
   ·injection e with e1 _;rw [e1]
 byValue:=fun k v h=>by
   rcases t7 h with⟨i,t,rfl,rfl⟩|⟨x,t,rfl,rfl⟩<;>rfl
 pyHash:=fun hv h=>by
  rcases t7 hv with⟨i,t,rfl,rfl⟩|⟨x,t,rfl,rfl⟩
  ·exact wpAny_pyHash_int h
  ·exact wpAny_pyHash_str h
 eqBool:=fun hu hv h=>by
  rcases t7 hu with⟨i,t,rfl,rfl⟩|⟨x,t,rfl,rfl⟩
  ·rcases t7 hv with⟨j,u,rfl,rfl⟩|⟨y,u,rfl,rfl⟩
   ·rw [b2c] at h;exact wpAny_eqBool_int h
   ·rw [b6k] at h;exact SeqAt.EqAt.int_str i t y u _ _ _ _ h
  ·rcases t7 hv with⟨j,u,rfl,rfl⟩|⟨y,u,rfl,rfl⟩
   ·rw [b6l] at h;exact SeqAt.EqAt.str_int x t j u _ _ _ _ h
   ·rw [b2d] at h;exact wpAny_eqBool_str h
 «strs»:=fun k x t v h=>by
  rcases t7 h with⟨i,u,rfl,e⟩|⟨y,u,rfl,e⟩
  ·exact nomatch e
  ·injection e with e1 _
   subst e1
   cases v<;>rfl
theorem Y9(prog:AL)(w:AJ)(i:Int)(t:Tok):(k4 prog w).is (.inl i) (.int i t)=true:=b0x i t
theorem Z0(prog:AL)(w:AJ)(x:Str)(t:Tok):(k4 prog w).is (.inr x) (.str x t)=true:=b0y x t
inductive V where
 |non|bl (b:Bool)|int (i:Int)|str (x:Str)|byt (b:Array UInt8)|flt (b:UInt64)|ref (a:AB)|ty (n:String)
 deriving DecidableEq
def l6:V->AA->Prop
 | .non,u=>u=Value.none
 | .bl b,u=>u=Value.bool b
 | .int i,u=>∃t,u=Value.int i t
 | .str x,u=>∃t,u=Value.str x t
 | .byt b,u=>∃t,u=Value.bytes b t
 | .flt b,u=>∃t,u=Value.float b t
 | .ref a,u=>u=Value.ref a
 | .ty n,u=>u=Value.type n
abbrev i4:List V->List AA->Prop:=Paired l6
theorem i4.length{xs:List V}{us:List AA}(r:i4 xs us):xs.length=us.length:=Paired.length r
theorem i4.get:∀{xs:List V} {us:List AA} {i:Nat} {x:V},i4 xs us->xs[i]?=some x->∃u,us[i]?=some u/\l6 x u
 |_,_,_,_,.nil,e=>by simp at e
 |_,_,0,_,.cons r _,e=>by simp at e;subst e;exact⟨_,rfl,r⟩
 |_,_,i+1,x,.cons _ t,e=>by
  obtain⟨u,h1,h2⟩:=i4.get (i:=i) (x:=x) t (by simpa using e)
  exact⟨u,by simpa using h1,h2⟩
theorem i4.set{x:V}{u:AA}(r:l6 x u):∀{xs:List V} {us:List AA} (i:Nat),i4 xs us->i4 (xs.set i x) (us.set i u)
 |_,_,_,.nil=> .nil
 |_,_,0,.cons _ t=> .cons r t
 |_,_,i+1,.cons q t=> .cons q (i4.set r i t)
theorem i4.append:∀{xs ys:List V} {us ws:List AA},i4 xs us->i4 ys ws->i4 (xs++ys) (us++ws)
 |_,_,_,_,.nil,s=>s
 |_,_,_,_,.cons r t,s=> .cons r (i4.append t s)
theorem i4.take:∀{xs:List V} {us:List AA} (n:Nat),i4 xs us->i4 (xs.take n) (us.take n)
 |_,_,0,_=> .nil
 |_,_,_+1,.nil=> .nil
 |_,_,n+1,.cons r t=> .cons r (i4.take n t)
theorem i4.drop:∀{xs:List V} {us:List AA} (n:Nat),i4 xs us->i4 (xs.drop n) (us.drop n)
 |_,_,0,r=>r
 |_,_,_+1,.nil=> .nil
 |_,_,n+1,.cons _ t=>i4.drop n t
theorem i4.none_of:∀{xs:List V} {us:List AA} {i:Nat},i4 xs us->xs[i]?=none->us[i]?=none:=fun {xs us i} r e=>by
 have h1:=r.length
 have h2:xs.length<=i:=List.getElem?_eq_none_iff.mp e
 exact List.getElem?_eq_none_iff.mpr (by lia)
def a1e:Option V->Option AA->Prop
 |some v,some u=>l6 v u
 |none,none=>True
 |_,_=>False
def KV{κ:Type}:List (κ×V)->List (κ×AA)->Prop:=Paired fun(p:κ×V) (q:κ×AA)=>p.1=q.1/\l6 p.2 q.2
def kV:f8->V
 | .inl i=> .int i
 | .inr x=> .str x
inductive HO where
 |lst (xs:List V)
 |tup (xs:List V)
 |dK (kvs:List (f8×V))|dT (kvs:List (List f8×V))
 |set (S:Int->Bool) (n:Nat)
 |ins (C dx:AB) (fs:List (Str×V))
 |own (x:AB)
 |xd (fs:List (Str×V))
 |met (f x:AB)
 |rng (lo hi:Int)
 |frz (o:Obj) (u:HO)
 |tbl (ps:Array AA)
 |ext (φ:Heap->Prop)
abbrev Hp:=AB->Option HO
def upd(H:Hp)(a:AB)(o:HO):Hp:=fun b=>if b=a then some o else H b
theorem i7{H:Hp}{a:AB}{o:HO}:upd H a o a=some o:=by unfold upd;rw [if_pos rfl]
theorem g5{H:Hp}{a b:AB}{o:HO}(h:b≠a):upd H a o b=H b:=by unfold upd;rw [if_neg h]
theorem a2U{H:Hp}{a b:AB}{o u:HO}(h:H a=some o)(h':H b=some u)(d:o≠u):a≠b:=by
 intro e;subst e;rw [h] at h';exact d (Option.some.inj h')
theorem g6{H:Hp}{a b:AB}{o:HO}(h:H a=some o)(h':H b=none):a≠b:=by
 intro e;subst e;rw [h] at h';cases h'
section
variable (P:AL)(w:AJ)
def v7(H:Hp)(h:Heap)(a:AB):HO->Prop
 | .lst xs=>xs.length<=AK/\∃(its:List AA) (n:Nat),i4 xs its/\h.get? a=some {cls:= .type "list",data:= .seq its.toArray n}
 | .tup xs=>xs.length<=AK/\∃its:List AA,i4 xs its/\IsTup h a its.toArray
 | .dK kvs=>kvs.length<=AK/\(a==sysModules)=false/\∃vs,KV kvs vs/\h.DictOf (k4 P w) a vs
 | .dT kvs=>kvs.length<=AK/\(a==sysModules)=false/\∃xs:List (List f8×AB×AA),
  Paired (fun(p:List f8×V) (q:List f8×AB×AA)=>p.1=q.1/\H q.2.1=some (.tup (p.1.map kV))/\l6 p.2 q.2.2) kvs xs/\
  ∃o es ep,h.get? a=some o/\o.ExactDict/\o.data= .dict es ep/\es.toList=xs.map (entryOfKey (tupleKind (k4 P w)))/\(xs.map (·.1)).Nodup
 | .set S n=>h.SetOf (intKind P w) a S n
 | .ins C dx fs=>H dx=some (.own a)/\fs.length<=1000/\dx≠a/\h.get? a=some (PySem.W.instObj C dx)/\
  ∃mA,h.Ns1 dx mA/\(∀f,a1e (fs.lookup f) (mA f))/\PySem.Within mA (fs.map (·.1))
 | .own _=>∃o,h.get? a=some o
 | .xd fs=>∃mA,h.Ns1 a mA/\∀f,a1e (fs.lookup f) (mA f)
 | .rng lo hi=>∃t u v,h.get? a=some {cls:= .type "range",data:= .fields #[.int lo t,.int hi u,.int 1 v]}
 | .frz o u=>h.get? a=some o/\v7 H h a u
 | .tbl ps=>h.get? a=some {cls:= .none,data:= .fields ps}
 | .met f x=>h.get? a=some (PySem.W.methodObj (.ref f) (.ref x))
 | .ext φ=>φ h/\(∃o,h.get? a=some o)/\∀h1 h2:Heap,φ h1->(∀o,h1.get? a=some o->h2.get? a=some o)->φ h2
def HOk(H:Hp)(h:Heap):Prop:=∀a o,H a=some o->v7 P w H h a o
end
section
variable {P:AL}{w:AJ}{H H':Hp}{h h':Heap}{a:AB}{o:HO}
theorem v7.lt(x:v7 P w H h a o):a<h.objs.size:=by
 cases o with
 |lst xs=>obtain⟨_,_,_,_,e⟩:=x;exact AY e
 |tup xs=>obtain⟨_,_,_,p⟩:=x;exact p.lt
 |dK kvs=>obtain⟨_,_,_,_,o,_,_,e,_⟩:=x;exact AY e
 |dT kvs=>obtain⟨_,_,_,_,o,_,_,e,_⟩:=x;exact AY e
 |set S n=>obtain⟨o,_,_,_,e,_⟩:=x;exact AY e
 |ins C dx fs=>obtain⟨_,_,_,e,_⟩:=x;exact AY e
 |own y=>obtain⟨_,e⟩:=x;exact AY e
 |xd fs=>obtain⟨_,⟨_,_,_,e,_⟩,_⟩:=x;exact AY e
 |rng lo hi=>obtain⟨_,_,_,e⟩:=x;exact AY e
 |frz ob u=>obtain⟨e,_⟩:=x;exact AY e
 |tbl ps=>exact AY (show h.get? a=some _ from x)
 |met f y=>exact AY (show h.get? a=some _ from x)
 |ext φ=>obtain⟨_,⟨_,e⟩,_⟩:=x;exact AY e
theorem Paired.mapP{α β:Type}{F G:α->β->Prop}:∀{l₁:List α} {l₂:List β},Paired F l₁ l₂->(∀a b,F a b->G a b)->Paired G l₁ l₂
 |_,_,.nil,_=> .nil
 |_,_,.cons r t,f=> .cons (f _ _ r) (Paired.mapP t f)
theorem v7.stay(x:v7 P w H h a o)(k:∀b u,(b=a\/H b=some (.own a))->h.get? b=some u->h'.get? b=some u)
 (ho:∀b,H b=some (.own a)->H' b=some (.own a)) (ht:∀b xs,H b=some (.tup xs)->H' b=some (.tup xs)):v7 P w H' h' a o:=by
 induction o with
 |lst xs=>obtain⟨z,its,n,r,e⟩:=x;exact⟨z,its,n,r,k _ _ (.inl rfl) e⟩
 |tup xs=>obtain⟨z,its,r,ob,e,c⟩:=x;exact⟨z,its,r,ob,k _ _ (.inl rfl) e,c⟩
 |dK kvs=>obtain⟨z,y,vs,r,ob,es,ep,e,c⟩:=x;exact⟨z,y,vs,r,ob,es,ep,k _ _ (.inl rfl) e,c⟩
 |dT kvs=>
  obtain⟨z,y,xs,r,ob,es,ep,e,c⟩:=x
  exact⟨z,y,xs,Paired.mapP r fun p q z=>⟨z.1,ht _ _ z.2.1,z.2.2⟩,ob,es,ep,k _ _ (.inl rfl) e,c⟩
 |set S n=>obtain⟨ob,es,ep,t,e,c⟩:=x;exact⟨ob,es,ep,t,k _ _ (.inl rfl) e,c⟩
 |ins C dx fs=>
  obtain⟨d,z,ne,e,mA,⟨od,es,ep,e2,c⟩,r⟩:=x
  exact⟨ho _ d,z,ne,k _ _ (.inl rfl) e,mA,⟨od,es,ep,k _ _ (.inr d) e2,c⟩,r⟩
 |own y=>obtain⟨ob,e⟩:=x;exact⟨ob,k _ _ (.inl rfl) e⟩
 |xd fs=>obtain⟨mA,⟨od,es,ep,e,c⟩,r⟩:=x;exact⟨mA,⟨od,es,ep,k _ _ (.inl rfl) e,c⟩,r⟩
 |rng lo hi=>obtain⟨t,u,v,e⟩:=x;exact⟨t,u,v,k _ _ (.inl rfl) e⟩
 |frz ob u ih=>obtain⟨e,q⟩:=x;exact⟨k _ _ (.inl rfl) e,ih q⟩
 |tbl ps=>
  have e:h.get? a=some {cls:= .none,data:= .fields ps}:=x
  show h'.get? a=some {cls:= .none,data:= .fields ps}
  exact k a _ (.inl rfl) e
 |met f y=>
  have e:h.get? a=some (PySem.W.methodObj (.ref f) (.ref y)):=x
  show h'.get? a=some (PySem.W.methodObj (.ref f) (.ref y))
  exact k a _ (.inl rfl) e
 |ext φ=>obtain⟨p,⟨o,e⟩,st⟩:=x;exact⟨st _ _ p fun o q=>k _ _ (.inl rfl) q,⟨o,k _ _ (.inl rfl) e⟩,st⟩
theorem HOk.lt(x:HOk P w H h)(e:H a=some o):a<h.objs.size:=(x a o e).lt
theorem HOk.fresh(x:HOk P w H h)(e:h.objs.size<=a):H a=none:=by
 cases q:H a with
 |none=>rfl
 |some u=>exact absurd (BC (x.lt q) e) (Nat.lt_irrefl _)
theorem HOk.kept(x:HOk P w H h)(k:∀b u,h.get? b=some u->h'.get? b=some u):HOk P w H h':=fun a o e=>
 (x a o e).stay (fun b u _ q=>k b u q) (fun _ q=>q) fun _ _ q=>q
theorem HOk.laid(x:HOk P w H h)(k:∀b u,h.get? b=some u->h'.get? b=some u)(hp:h.objs.size<=a)(new:v7 P w (upd H a o) h' a o):HOk P w (upd H a o) h':=fun b u e=>by
 have hn:=x.fresh hp
 by_cases hb:b=a
 ·subst hb;rw [i7] at e;cases e;exact new
 ·rw [g5 hb] at e
  exact(x b u e).stay (fun c v _ q=>k c v q) (fun c q=>by rw [g5 (g6 q hn)];exact q) fun c xs q=>by rw [g5 (g6 q hn)];exact q
end
def Rd(H:Hp)(a:AB)(u:HO):Prop:=H a=some u\/∃o,H a=some (.frz o u)
theorem Rd.of{H:Hp}{a:AB}{u:HO}(h:H a=some u):Rd H a u:= .inl h
theorem Rd.ok{P:AL}{w:AJ}{H:Hp}{h:Heap}{a:AB}{u:HO}(r:Rd H a u)(x:HOk P w H h):v7 P w H h a u:=by
 rcases r with r|⟨o,r⟩
 ·exact x a u r
 ·obtain⟨_,q⟩:=x a _ r
  exact q
def Mut:Option HO->Prop
 |some (.lst _)=>True
 |some (.dK _)=>True
 |some (.dT _)=>True
 |some (.set _ _)=>True
 |some (.ins _ _ _)=>True
 |some (.ext _)=>True
 |_=>False
section
variable {P:AL}{w:AJ}{H:Hp}{h h':Heap}{x e:AB}{o':HO}
theorem HOk.write(ok:HOk P w H h)(mu:Mut (H x))(he:e=x\/H e=some (.own x))(k:∀b u,b≠e->h.get? b=some u->h'.get? b=some u)(heo:∃u,h'.get? e=some u)
 (new:v7 P w (upd H x o') h' x o'):HOk P w (upd H x o') h':=fun b u q=>by
 have nown:∀c y,H c=some (.own y)->c≠x:=fun c y r z=>by subst z;rw [r] at mu;exact mu
 have ntup:∀c xs,H c=some (.tup xs)->c≠x:=fun c xs r z=>by subst z;rw [r] at mu;exact mu
 by_cases hb:b=x
 ·subst hb;rw [i7] at q;cases q;exact new
 ·rw [g5 hb] at q
  by_cases hbe:b=e
  ·have q':H b=some (.own x):=by
    rcases he with z|z
    ·exact absurd (hbe.trans z) hb
    ·rw [hbe];exact z
   rw [q] at q';cases q'
   obtain⟨v,hv⟩:=heo
   exact⟨v,by rw [hbe];exact hv⟩
  ·refine(ok b u q).stay (fun c v hc r=>k c v ?_ r) (fun c r=>by rw [g5 (nown c b r)];exact r) fun c xs r=>by rw [g5 (ntup c xs r)];exact r
   rcases hc with rfl|hc
   ·exact hbe
   ·rintro rfl
    rcases he with z|z
    ·exact nown c b hc z
    ·rw [hc] at z;cases z;exact hb rfl
end
structure Un(fs ex:List AB)(H H':Hp)(h h':Heap):Prop where
 keep:∀b o,h.get? b=some o->H b=none->b∉fs->b∉ex->h'.get? b=some o
 slot:∀b o,h.get? b=some o->H b=none->b∈fs->b∉ex->∃sl,h'.get? b=some {o with slots:=sl}
 free:∀b o,h.get? b=some o->H b=none->b∉ex->H' b=none
 there:∀b o,h.get? b=some o->b∉ex->∃o',h'.get? b=some o'
 tups:∀b xs,H b=some (.tup xs)->H' b=some (.tup xs)
 frzs:∀b o u,H b=some (.frz o u)->H' b=some (.frz o u)
 tbls:∀b ps,H b=some (.tbl ps)->∃more,H' b=some (.tbl (ps++more))
section
variable {fs fs' ex ex':List AB}{H H1 H2:Hp}{h h1 h2 h':Heap}{a x e:AB}{o:HO}
theorem Un.any(u:Un fs ex H H1 h h1){b:AB}{ob:Obj}(q:h.get? b=some ob)(n:H b=none)(hx:b∉ex):∃sl,h1.get? b=some {ob with slots:=sl}:=by
 by_cases hb:b∈fs
 ·exact u.slot b ob q n hb hx
 ·exact⟨ob.slots,u.keep b ob q n hb hx⟩
theorem Un.trans(a:Un fs ex H H1 h h1)(b:Un fs ex H1 H2 h1 h2):Un fs ex H H2 h h2 where
 keep:=fun c ob q n hc hx=>b.keep c ob (a.keep c ob q n hc hx) (a.free c ob q n hx) hc hx
 slot:=fun c ob q n hc hx=>by
  obtain⟨sl,e1⟩:=a.slot c ob q n hc hx
  obtain⟨sl',e2⟩:=b.slot c _ e1 (a.free c ob q n hx) hc hx
  exact⟨sl',e2⟩
 free:=fun c ob q n hx=>by
  obtain⟨o',e1⟩:=a.there c ob q hx
  exact b.free c o' e1 (a.free c ob q n hx) hx
 there:=fun c ob q hx=>by
  obtain⟨o',e1⟩:=a.there c ob q hx
  exact b.there c o' e1 hx
 tups:=fun c xs q=>b.tups c xs (a.tups c xs q)
 frzs:=fun c ob xs q=>b.frzs c ob xs (a.frzs c ob xs q)
 tbls:=fun c ps q=>by
  obtain⟨m1,e1⟩:=a.tbls c ps q
  obtain⟨m2,e2⟩:=b.tbls c _ e1
  exact⟨m1++m2,by rw [e2,Array.append_assoc]⟩
theorem Un.kept(k:∀b u,h.get? b=some u->h'.get? b=some u):Un fs ex H H h h':=
 ⟨fun b ob q _ _ _=>k b ob q,fun b ob q _ _ _=>⟨ob.slots,k b ob q⟩,fun _ _ _ n _=>n,fun b ob q _=>⟨ob,k b ob q⟩,fun _ _ q=>q,fun _ _ _ q=>q,fun _ ps q=>⟨#[],by rw [q];simp⟩⟩
theorem Un.refl:Un fs ex H H h h:=Un.kept fun _ _ q=>q
theorem Un.laid(k:∀b u,h.get? b=some u->h'.get? b=some u)(hp:h.objs.size<=a)(hn:H a=none):Un fs ex H (upd H a o) h h' where
 keep:=fun b u q _ _ _=>k b u q
 slot:=fun b u q _ _ _=>⟨u.slots,k b u q⟩
 free:=fun b u q n _=>by rw [g5 (An (BC (AY q) hp))];exact n
 there:=fun b u q _=>⟨u,k b u q⟩
 tups:=fun b xs q=>by rw [g5 (g6 q hn)];exact q
 frzs:=fun b u xs q=>by rw [g5 (g6 q hn)];exact q
 tbls:=fun b ps q=>⟨#[],by rw [g5 (g6 q hn),q];simp⟩
theorem Un.write(mu:Mut (H x))(he:e=x\/H e=some (.own x))(k:∀b u,b≠e->h.get? b=some u->h'.get? b=some u)(heo:∃u,h'.get? e=some u):Un fs ex H (upd H x o) h h':=by
 have hx:∀b,H b=none->b≠x:=fun b n z=>by subst z;rw [n] at mu;exact mu
 have hb:∀b,H b=none->b≠e:=fun b n z=>by
  subst z
  rcases he with r|r
  ·exact hx b n r
  ·rw [n] at r;cases r
 have hm:∀b u,H b=some u->¬Mut (some u)->b≠x:=fun b u q nm z=>by subst z;rw [q] at mu;exact nm mu
 refine⟨fun b u q n _ _=>k b u (hb b n) q,fun b u q n _ _=>⟨u.slots,k b u (hb b n) q⟩,fun b u q n _=>by rw [g5 (hx b n)];exact n,fun b u q _=> ?_,
  fun b xs q=>by rw [g5 (hm b _ q fun z=>z)];exact q,fun b u xs q=>by rw [g5 (hm b _ q fun z=>z)];exact q,fun b ps q=>⟨#[],by rw [g5 (hm b _ q fun z=>z),q];simp⟩⟩
 by_cases hbe:b=e
 ·subst hbe;exact heo
 ·exact⟨u,k b u hbe q⟩
theorem Un.mono(u:Un fs ex H H1 h h1)(hs:∀b∈fs,b∈fs')(hx:∀b∈ex,b∈ex'):Un fs' ex' H H1 h h1:=
 ⟨fun b ob q n hb he=>u.keep b ob q n (fun z=>hb (hs b z)) fun z=>he (hx b z),fun _ _ q n _ he=>u.any q n fun z=>he (hx _ z),fun b ob q n he=>u.free b ob q n fun z=>he (hx b z),fun b ob q he=>u.there b ob q fun z=>he (hx b z),u.tups,u.frzs,u.tbls⟩
end
def trk(h:Heap)(H:Hp):List AB:=(AW h.objs.size).filter fun a=>(H a).isSome
def a6p(h:Heap)(H:Hp):Heap:=PySem.W.hideAll h (trk h H)
theorem b0r(h:Heap)(H:Hp):(a6p h H).objs.size=h.objs.size:=PySem.W.hideAll_size _ _
theorem b13{h:Heap}{H:Hp}{b:AB}{o:Obj}(e:h.get? b=some o)(n:H b=none):(a6p h H).get? b=some o:=
 PySem.W.hideAll_get _ e fun hm=>by
  have q:(H b).isSome=true:=(List.mem_filter.mp hm).2
  rw [n] at q;simp at q
theorem b4s{h:Heap}{H:Hp}{b:AB}{o:Obj}(e:(a6p h H).get? b=some o):h.get? b=some o/\H b=none:=by
 have e':h.get? b=some o:=PySem.W.of_hideAll (trk h H) e
 refine⟨e', ?_⟩
 cases q:H b with
 |none=>rfl
 |some x=>
  have hm:b∈trk h H:=List.mem_filter.mpr ⟨List.mem_range.mpr (AY e'),by simp [q]⟩
  have z:(a6p h H).get? b=none:=PySem.W.hideAll_none (trk h H) hm
  rw [z] at e;cases e
def b3x(g h:Heap)(L:AB):List (AB×Obj):=(AW h.objs.size).filterMap fun a=>if a=L\/(g.get? a).isSome=true then none else(h.get? a).map fun o=>(a,o)
def B2(g h:Heap)(L d:AB):List (AB×Obj):=(b3x g h L).filter fun p=>decide (p.1≠d)
structure Mod(K:AD)(mg:Str->Option AA)(base:Heap):Prop where
 kin:K.In base
 glob:base.Ns mainGlobals mg
 blt:∃mb,base.Ns builtinsNs mb/\∀x:Str,x≠"__name__"->mb x=bootBuiltins x
 nolimit:base.NoLimit
structure Cx where
 prog:AL
 w:AJ
 K:AD
 mg:Str->Option AA
 base:Heap
 A:AO
 N:List Str
 s₀:AC
 H₀:Hp
 env:Env
 outer:List Env
 stack:List Env
 ex:List AB
 fn:Str->Bool
 calm:Bool
 pn:List (AB×Obj)
 xe:AA->AC->Prop
def frs(l:List Env):List AB:=l.filterMap (·.frame)
abbrev Cx.fs(X:Cx):List AB:=frs X.outer
def Vis(sc:Scope)(x:Str):Prop:=sc.names.lookup x=some .local\/sc.names.lookup x=some .cell\/sc.names.lookup x=some .free
def Loc(sc:Scope)(x:Str):Prop:=sc.names.lookup x=some .local\/sc.names.lookup x=some .cell
def b77(env:Env)(h:Heap)(m:Str->Option AA)(x:Str)(u:AA):Prop:=
 (env.kindOf x=some .local/\m x=some u)\/((env.kindOf x=some .cell\/env.kindOf x=some .free)/\∃c,env.cells.lookup x=some c/\h.IsCell c (some u))
structure Cx.Ok(X:Cx):Prop where
 mod:Mod X.K X.mg X.base
 kind:X.env.scope.kind= .function
 glob:X.env.globals=mainGlobals
 blt:X.env.builtins=builtinsNs
 above:X.s₀.heap.objs.size<=X.env.locals
 inj:∀x y c,X.env.cells.lookup x=some c->X.env.cells.lookup y=some c->x=y
 has:∀x,(X.env.kindOf x=some .cell\/X.env.kindOf x=some .free)->∃c,X.env.cells.lookup x=some c
 cab:∀x c,X.fn x=true->X.env.cells.lookup x=some c->X.s₀.heap.objs.size<=c
 hd:X.calm=true->X.A.handled=none
 frames:X.A.frames=some X.stack
 stk:X.stack=X.outer\/(X.stack=X.env::X.outer/\X.env.frame=some X.env.locals)
 exf:∀b∈X.ex,b≠X.env.locals/\∀x c,X.env.cells.lookup x=some c->c≠b
 bs:∀b o,X.base.get? b=some o->X.s₀.heap.get? b=some o/\X.H₀ b=none
 bsz:X.base.objs.size<=X.s₀.heap.objs.size
 noex:∀b o,X.base.get? b=some o->b∉X.ex
 exfs:∀b∈X.ex,b∉X.fs
 funs:X.s₀.heap.FunFrames X.base X.outer
 frf:∀b∈X.fs,X.H₀ b=none
structure i2(X:Cx)(pins:List (AB×Obj))(σ:List (Option V))(H:Hp)(s:AC):Prop where
 ok:X.Ok
 os:s.os=X.s₀.os
 bare:AllBare s.gens
 base:Un X.fs X.ex X.H₀ H X.s₀.heap s.heap
 loc:∃m,s.heap.Ns X.env.locals m/\∀(i:Nat) (x:Str) (v:V),X.N[i]?=some x->σ[i]?=some (some v)->Vis X.env.scope x->∃u,l6 v u/\b77 X.env s.heap m x u
 cell:∀x c,X.env.cells.lookup x=some c->∃v,s.heap.IsCell c v
 free:H X.env.locals=none
 freeC:∀x c,X.env.cells.lookup x=some c->H c=none
 pin:∀p∈X.pn++pins,s.heap.get? p.1=some p.2/\H p.1=none/\p.1≠X.env.locals/\p.1∉X.fs/\∀v,p.2.data≠.cell v
 hok:HOk X.prog X.w H s.heap
 len:σ.length=X.N.length
section
variable {X:Cx}{pins:List (AB×Obj)}{σ:List (Option V)}{H H':Hp}{s:AC}{h':Heap}
theorem Cx.Ok.nofr(ok:X.Ok){b:AB}{o:Obj}(e:X.base.get? b=some o):b∉X.fs:=fun hb=>by
 have:=(ok.funs.mem hb).1
 rw [e] at this;cases this
theorem i2.bs(I:i2 X pins σ H s):∀b o,X.base.get? b=some o->s.heap.get? b=some o/\H b=none:=fun b o e=>
 ⟨I.base.keep b o (I.ok.bs b o e).1 (I.ok.bs b o e).2 (I.ok.nofr e) (I.ok.noex b o e),I.base.free b o (I.ok.bs b o e).1 (I.ok.bs b o e).2 (I.ok.noex b o e)⟩
theorem i2.bk(I:i2 X pins σ H s):∀b o,X.base.get? b=some o->s.heap.get? b=some o:=fun b o e=>(I.bs b o e).1
theorem i2.mod(I:i2 X pins σ H s):Mod X.K X.mg X.base:=I.ok.mod
theorem i2.kIn(I:i2 X pins σ H s):X.K.In s.heap:=I.ok.mod.kin.keeps I.bk
theorem i2.nolimit(I:i2 X pins σ H s):s.heap.NoLimit:=I.ok.mod.nolimit.keeps I.bk
theorem i2.fr(I:i2 X pins σ H s):∃m,Fr X.base X.env.locals s.heap m:=
 let ⟨m,hn,_⟩:=I.loc
 ⟨m,hn,I.bk,Nat.le_trans I.ok.bsz I.ok.above⟩
theorem i2.lt(I:i2 X pins σ H s):X.env.locals<s.heap.objs.size:=let ⟨_,hn,_⟩:=I.loc;hn.lt
theorem i2.sz(I:i2 X pins σ H s):X.s₀.heap.objs.size<=s.heap.objs.size:=Nat.le_trans I.ok.above (BE I.lt)
theorem i2.nofs(I:i2 X pins σ H s){a:AB}(h:s.heap.objs.size<=a):a∉X.fs:=fun hb=>by
 obtain⟨_,o,ho,_⟩:=I.ok.funs.mem hb
 exact absurd (BC (AY ho) (Nat.le_trans I.sz h)) (Nat.lt_irrefl _)
theorem i2.cne(I:i2 X pins σ H s):∀x c,X.env.cells.lookup x=some c->c≠X.env.locals:=fun x c e z=>by
 obtain⟨v,o,ho,hd⟩:=I.cell x c e
 obtain⟨m,⟨o',es,ep,ho',hd',_⟩,_⟩:=I.loc
 rw [z,ho'] at ho;cases ho;rw [hd'] at hd;cases hd
theorem i2.funs(I:i2 X pins σ H s):s.heap.FunFrames X.base X.outer:=by
 have all:∀(l:List Env),(∀b∈frs l,b∈X.fs)->X.s₀.heap.FunFrames X.base l->s.heap.FunFrames X.base l:=by
  intro l
  induction l with
  |nil=>intro _ _;trivial
  |cons env r ih=>
   intro hs hl
   obtain⟨hk,⟨L,o,hf,hn,ho,hd⟩,hr⟩:=hl
   have hL:L∈X.fs:=hs L (by unfold frs;rw [List.filterMap_cons,hf];exact Al)
   obtain⟨sl,e⟩:=I.base.slot L o ho (I.ok.frf L hL) hL fun z=>I.ok.exfs L z hL
   exact⟨hk,⟨L,_,hf,hn,e,hd⟩,ih (fun b hb=>hs b (by unfold frs;rw [List.filterMap_cons,hf];exact Ai _ hb)) hr⟩
 exact all X.outer (fun _ hb=>hb) I.ok.funs
theorem i2.stack(I:i2 X pins σ H s):s.heap.FunFrames X.base X.stack:=by
 rcases I.ok.stk with e|⟨e,hf⟩
 ·rw [e];exact I.funs
 ·rw [e]
  obtain⟨m,hn,_⟩:=I.loc
  refine .cons (by rw [I.ok.kind];decide) hf hn ?_ I.funs
  exact Heap.get?_none_of_le (Nat.le_trans I.ok.bsz I.ok.above)
theorem i2.stkSub(I:i2 X pins σ H s):∀b∈frs X.stack,b∈X.env.locals::X.fs:=fun b hb=>by
 rcases I.ok.stk with e|⟨e,hf⟩
 ·rw [e] at hb;exact Ai _ hb
 ·rw [e] at hb
  unfold frs at hb
  rw [List.filterMap_cons,hf] at hb
  exact hb
theorem i2.stkFree(I:i2 X pins σ H s):∀b∈frs X.stack,H b=none:=fun b hb=>by
 rcases Ag.mp (I.stkSub b hb) with e|hb
 ·rw [e];exact I.free
 ·obtain⟨_,o,ho,_⟩:=I.ok.funs.mem hb
  exact I.base.free b o ho (I.ok.frf b hb) fun z=>I.ok.exfs b z hb
theorem i2.step{g':Array GenState}{t':Nat}{d':Drawn}{ch:List AB}(I:i2 X pins σ H s)
 (hch:∀b∈ch,(b∈X.ex\/X.s₀.heap.objs.size<=b)/\b≠X.env.locals/\(∀x c,X.env.cells.lookup x=some c->c≠b)/\∀p∈X.pn++pins,p.1≠b)
 (keep:∀b o,b≠X.env.locals->b∉X.fs->b∉ch->s.heap.get? b=some o->H b=none->h'.get? b=some o)
 (slot:∀b o,b≠X.env.locals->b∈X.fs->b∉ch->s.heap.get? b=some o->H b=none->∃sl,h'.get? b=some {o with slots:=sl}) (free:∀b o,b∉ch->s.heap.get? b=some o->H b=none->H' b=none)
 (there:∀b o,b∉ch->s.heap.get? b=some o->∃o',h'.get? b=some o')
 (tups:∀b xs,H b=some (.tup xs)->H' b=some (.tup xs)) (frzs:∀b o u,H b=some (.frz o u)->H' b=some (.frz o u)) (tbls:∀b ps,H b=some (.tbl ps)->∃more,H' b=some (.tbl (ps++more)))
 (ns:∀m,s.heap.Ns X.env.locals m->h'.Ns X.env.locals m) (hok:HOk X.prog X.w H' h') (hg:AllBare g'):
 i2 X pins σ H' {s with heap:=h',gens:=g',drawn:=d',toks:=t'}:=by
 have neL:∀b o,X.s₀.heap.get? b=some o->b≠X.env.locals:=fun b o e=>An (BC (AY e) I.ok.above)
 have neC:∀b o,X.s₀.heap.get? b=some o->b∉X.ex->b∉ch:=fun b o e hx hb=>by
  rcases(hch b hb).1 with z|z
  ·exact hx z
  ·exact absurd (BC (AY e) z) (Nat.lt_irrefl _)
 have cellK:∀x c,X.env.cells.lookup x=some c->∀v,s.heap.IsCell c v->h'.IsCell c v:=fun x c e v ⟨o,ho,hd⟩=>by
  have nch:c∉ch:=fun z=>(hch c z).2.2.1 x c e rfl
  by_cases hc:c∈X.fs
  ·obtain⟨sl,q⟩:=slot c o (I.cne x c e) hc nch ho (I.freeC x c e)
   exact⟨_,q,hd⟩
  ·exact⟨o,keep c o (I.cne x c e) hc nch ho (I.freeC x c e),hd⟩
 refine⟨I.ok,I.os,hg,⟨fun b o e n hb hx=> ?_,fun b o e n hb hx=> ?_,fun b o e n hx=> ?_,fun b o e hx=> ?_,fun b xs e=>tups b xs (I.base.tups b xs e),fun b o xs e=>frzs b o xs (I.base.frzs b o xs e),fun b ps e=> ?_⟩, ?_,fun x c e=> ?_, ?_,fun x c e=> ?_,fun p hp=> ?_,hok,I.len⟩
 ·exact keep b o (neL b o e) hb (neC b o e hx) (I.base.keep b o e n hb hx) (I.base.free b o e n hx)
 ·obtain⟨sl,e1⟩:=I.base.slot b o e n hb hx
  obtain⟨sl',e2⟩:=slot b _ (neL b o e) hb (neC b o e hx) e1 (I.base.free b o e n hx)
  exact⟨sl',e2⟩
 ·obtain⟨o',e1⟩:=I.base.there b o e hx
  exact free b o' (neC b o e hx) e1 (I.base.free b o e n hx)
 ·obtain⟨o',e1⟩:=I.base.there b o e hx
  exact there b o' (neC b o e hx) e1
 ·obtain⟨m1,e1⟩:=I.base.tbls b ps e
  obtain⟨m2,e2⟩:=tbls b _ e1
  exact⟨m1++m2,by rw [e2,Array.append_assoc]⟩
 ·obtain⟨m,hn,hl⟩:=I.loc
  refine⟨m,ns m hn,fun i x v e1 e2 e3=> ?_⟩
  obtain⟨u,r,l⟩:=hl i x v e1 e2 e3
  refine⟨u,r, ?_⟩
  rcases l with l|⟨k,c,e,z⟩
  ·exact .inl l
  ·exact .inr ⟨k,c,e,cellK x c e _ z⟩
 ·obtain⟨v,z⟩:=I.cell x c e
  exact⟨v,cellK x c e v z⟩
 ·obtain⟨m,⟨o,_,_,ho,_⟩,_⟩:=I.loc
  exact free _ o (fun z=>(hch _ z).2.1 rfl) ho I.free
 ·obtain⟨v,o,ho,hd⟩:=I.cell x c e
  exact free c o (fun z=>(hch c z).2.2.1 x c e rfl) ho (I.freeC x c e)
 ·obtain⟨e,n,ne,nf,d⟩:=I.pin p hp
  have nch:p.1∉ch:=fun z=>(hch p.1 z).2.2.2 p hp rfl
  exact⟨keep p.1 p.2 ne nf nch e n,free p.1 p.2 nch e n,ne,nf,d⟩
theorem i2.un{t':Nat}(I:i2 X pins σ H s)(u:Un X.fs [] H H' s.heap h')(hok:HOk X.prog X.w H' h'):i2 X pins σ H' {s with heap:=h',toks:=t'}:=by
 obtain⟨m,⟨o,es,ep,ho,r⟩,_⟩:=id I.loc
 obtain⟨sl,hL⟩:=u.any ho I.free (by simp)
 exact I.step (g':=s.gens) (d':=s.drawn) (ch:=[]) (fun _ z=>nomatch z) (fun b o _ hb _ e n=>u.keep b o e n hb (by simp)) (fun b o _ hb _ e n=>u.slot b o e n hb (by simp)) (fun b o _ e n=>u.free b o e n (by simp)) (fun b o _ e=>u.there b o e (by simp)) u.tups u.frzs u.tbls (fun m' hm=>by
  obtain⟨o',es',ep',ho',r'⟩:=hm
  rw [ho] at ho';cases ho'
  exact⟨_,es',ep',hL,r'⟩) hok I.bare
theorem i2.call{g':Array GenState}{t':Nat}{d':Drawn}{ch:List AB}(I:i2 X pins σ H s)(u:Un (frs X.stack) ch H H' s.heap h')(hok:HOk X.prog X.w H' h')(hg:AllBare g')
 (hch:∀b∈ch,(b∈X.ex\/X.s₀.heap.objs.size<=b)/\b≠X.env.locals/\(∀x c,X.env.cells.lookup x=some c->c≠b)/\∀p∈X.pn++pins,p.1≠b):
 i2 X pins σ H' {s with heap:=h',gens:=g',drawn:=d',toks:=t'}:=by
 obtain⟨m,⟨o,es,ep,ho,r⟩,_⟩:=id I.loc
 obtain⟨sl,hL⟩:=u.any ho I.free fun z=>(hch _ z).2.1 rfl
 exact I.step (ch:=ch) hch (fun b o hL hb hc e n=>u.keep b o e n (fun z=>(Ag.mp (I.stkSub b z)).elim hL hb) hc) (fun b o _ _ hc e n=>u.any e n hc) (fun b o hc e n=>u.free b o e n hc) (fun b o hc e=>u.there b o e hc) u.tups u.frzs u.tbls (fun m' hm=>by
  obtain⟨o',es',ep',ho',r'⟩:=hm
  rw [ho] at ho';cases ho'
  exact⟨_,es',ep',hL,r'⟩) hok hg
theorem i2.turned{t':Nat}{it:AB}(I:i2 X pins σ H s)(k:∀b o,b≠it->s.heap.get? b=some o->h'.get? b=some o)(hn:H it=none)(hL:it≠X.env.locals)
 (h1:it∈X.ex\/X.s₀.heap.objs.size<=it) (h2:∀x c,X.env.cells.lookup x=some c->c≠it) (h3:∀p∈X.pn++pins,p.1≠it):i2 X pins σ H {s with heap:=h',toks:=t'}:=by
 have nit:∀b u,H b=some u->b≠it:=fun b u e z=>by rw [z,hn] at e;cases e
 refine I.step (g':=s.gens) (d':=s.drawn) (ch:=[it]) (fun b hb=> ?_) (fun b o _ _ hc e _=>k b o (fun z=>hc (by simp [z])) e) (fun b o _ _ hc e _=>⟨o.slots,k b o (fun z=>hc (by simp [z])) e⟩) (fun _ _ _ _ n=>n)
  (fun b o hc e=>⟨o,k b o (fun z=>hc (by simp [z])) e⟩) (fun _ _ e=>e) (fun _ _ _ e=>e) (fun b ps e=>⟨#[],by rw [e];simp⟩) (fun m hm=> ?_) (fun b u e=> ?_) I.bare
 ·have e:b=it:=by simpa using hb
  subst e
  exact⟨h1,hL,h2,h3⟩
 ·obtain⟨o,es,ep,ho,r⟩:=hm
  exact⟨o,es,ep,k _ o (Ne.symm hL) ho,r⟩
 ·refine(I.hok b u e).stay (fun c v hc q=>k c v ?_ q) (fun _ q=>q) fun _ _ q=>q
  rcases hc with z|z
  ·rw [z];exact nit b u e
  ·exact nit c _ z
theorem i2.tok(I:i2 X pins σ H s)(t:Nat):i2 X pins σ H {s with toks:=t}:=I.un (h':=s.heap) (t':=t) Un.refl I.hok
theorem i2.kept{t':Nat}(I:i2 X pins σ H s)(k:∀b u,s.heap.get? b=some u->h'.get? b=some u):i2 X pins σ H {s with heap:=h',toks:=t'}:=I.un (Un.kept k) (I.hok.kept k)
theorem i2.laid{a:AB}{o:HO}{t':Nat}(I:i2 X pins σ H s)(k:∀b u,s.heap.get? b=some u->h'.get? b=some u)(hp:s.heap.objs.size<=a)(new:v7 X.prog X.w (upd H a o) h' a o):
 i2 X pins σ (upd H a o) {s with heap:=h',toks:=t'}:=I.un (Un.laid k hp (I.hok.fresh hp)) (I.hok.laid k hp new)
theorem i2.write{x e:AB}{o:HO}{t':Nat}(I:i2 X pins σ H s)(mu:Mut (H x))(he:e=x\/H e=some (.own x))(k:∀b u,b≠e->s.heap.get? b=some u->h'.get? b=some u)(heo:∃u,h'.get? e=some u)
 (new:v7 X.prog X.w (upd H x o) h' x o):i2 X pins σ (upd H x o) {s with heap:=h',toks:=t'}:=I.un (Un.write mu he k heo) (I.hok.write mu he k heo new)
theorem i2.weak{σ':List (Option V)}(I:i2 X pins σ H s)(hl:σ'.length=σ.length)(w:∀(i:Nat) v,σ'[i]?=some (some v)->σ[i]?=some (some v)):i2 X pins σ' H s:=
 ⟨I.ok,I.os,I.bare,I.base,let ⟨m,hn,hl'⟩:=I.loc;⟨m,hn,fun i x v e1 e2 e3=>hl' i x v e1 (w i v e2) e3⟩,I.cell,I.free,I.freeC,I.pin,I.hok,hl.trans I.len⟩
theorem i2.pins_of{pins':List (AB×Obj)}(I:i2 X pins σ H s)(h:∀p∈pins',s.heap.get? p.1=some p.2/\H p.1=none/\p.1≠X.env.locals/\p.1∉X.fs/\∀v,p.2.data≠.cell v):i2 X pins' σ H s:=
 ⟨I.ok,I.os,I.bare,I.base,I.loc,I.cell,I.free,I.freeC,fun p hp=>(Ap.mp hp).elim (fun z=>I.pin p (Ay _ z)) (h p),I.hok,I.len⟩
theorem a7U{N:List Str}(hN:N.Nodup){i j:Nat}{x:Str}(a:N[i]?=some x)(b:N[j]?=some x):i=j:=by
 obtain⟨h1,e1⟩:=Ar.mp a
 obtain⟨h2,e2⟩:=Ar.mp b
 exact(List.getElem_inj hN).mp (e1.trans e2.symm)
theorem b0Z{M:Model}{A:AO}{E:AA->AC->Prop}{i:Nat}{x:Str}{v:V}{u:AA}{Q:Unit->AC->Prop}(I:i2 X pins σ H s)(hN:X.N.Nodup)(hi:X.N[i]?=some x)(hx:Loc X.env.scope x)(r:l6 v u)
 (h:∀s',i2 X pins (σ.set i (some v)) H s'->(∃a,Heap.SameBut a s.heap s'.heap/\(a=X.env.locals\/X.env.cells.lookup x=some a))->Q () s') (hf:X.fn x=true\/X.env.scope.names.lookup x=some .local:=by first|exact .inl rfl|exact .inr rfl|assumption):AG M A (storeName X.env x u) Q E s:=by
 obtain⟨m,hn,hl⟩:=id I.loc
 have hcls:(X.env.scope.kind== .class||(X.env.scope.kind== .module && X.env.locals !=X.env.globals))=false:=by rw [I.ok.kind];rfl
 have hiσ:i<σ.length:=by rw [I.len];exact(Ar.mp hi).1
 have cne:=I.cne
 have tracked:∀{a:AB} {h':Heap},(∃o,s.heap.get? a=some o/\H a=none)->Heap.SameBut a s.heap h'->HOk X.prog X.w H h':=fun {a h'} ha hs b ob e=>by
  obtain⟨_,_,hfree⟩:=ha
  refine(I.hok b ob e).stay (fun c w' hc q=>(hs.2 c ?_).trans q) (fun _ q=>q) fun _ _ q=>q
  rintro rfl
  rcases hc with rfl|hc
  ·rw [hfree] at e;cases e
  ·rw [hfree] at hc;cases hc
 rcases hx with hk|hk
 ·refine wpAny_storeName_local hk hn (fun h' hn' hs=> ?_) hcls
  obtain⟨oL,_,_,hoL,_⟩:=id hn
  refine h _ ⟨I.ok,I.os,I.bare,⟨fun b o e n hb hx=> ?_,fun b o e n hb hx=> ?_,I.base.free,fun b o e hx=> ?_,I.base.tups,I.base.frzs,I.base.tbls⟩,⟨_,hn',fun j y v' e1 e2 e3=> ?_⟩,fun y c e=> ?_,I.free,I.freeC,fun p hp=> ?_,tracked ⟨oL,hoL,I.free⟩ hs,by simpa using I.len⟩ ⟨_,hs,.inl rfl⟩
  ·exact(hs.2 b (An (BC (AY e) I.ok.above))).trans (I.base.keep b o e n hb hx)
  ·obtain⟨sl,e1⟩:=I.base.slot b o e n hb hx
   exact⟨sl,(hs.2 b (An (BC (AY e) I.ok.above))).trans e1⟩
  ·obtain⟨o',e1⟩:=I.base.there b o e hx
   exact⟨o',(hs.2 b (An (BC (AY e) I.ok.above))).trans e1⟩
  ·by_cases hj:j=i
   ·subst hj
    rw [hi] at e1;cases e1
    rw [BH hiσ] at e2
    cases e2
    exact⟨u,r,.inl ⟨hk,by simp⟩⟩
   ·rw [List.getElem?_set_ne (Ne.symm hj)] at e2
    obtain⟨u',r',q⟩:=hl j y v' e1 e2 e3
    refine⟨u',r', ?_⟩
    rcases q with⟨k,e⟩|⟨k,c,e,z⟩
    ·refine .inl ⟨k, ?_⟩
     have:y≠x:=fun e=>hj (a7U hN e1 (e▸hi))
     simp [this,e]
    ·exact .inr ⟨k,c,e,z.sameBut hs (cne y c e)⟩
  ·obtain⟨w',z⟩:=I.cell y c e
   exact⟨w',z.sameBut hs (cne y c e)⟩
  ·obtain⟨e,n,ne,nf,d⟩:=I.pin p hp
   exact⟨(hs.2 p.1 ne).trans e,n,ne,nf,d⟩
 ·have hfn:X.fn x=true:=by
   rcases hf with z|z
   ·exact z
   ·rw [z] at hk;cases hk
  obtain⟨c,hc⟩:=I.ok.has x (.inl hk)
  obtain⟨w',z⟩:=I.cell x c hc
  refine wpAny_storeName_cell I.ok.kind hk hc z (fun h' hc' hs=> ?_)
  obtain⟨oc,hoc,hocd⟩:=id z
  refine h {s with heap:=h'} ⟨I.ok,I.os,I.bare,⟨fun b o e n hb hx=> ?_,fun b o e n hb hx=> ?_,I.base.free,fun b o e hx=> ?_,I.base.tups,I.base.frzs,I.base.tbls⟩,⟨m,hn.sameBut hs (Ne.symm (cne x c hc)),fun j y v' e1 e2 e3=> ?_⟩,fun y c' e=> ?_,I.free,I.freeC,fun p hp=> ?_,tracked ⟨oc,hoc,I.freeC x c hc⟩ hs,by simpa using I.len⟩ ⟨c,hs,.inr hc⟩
  ·exact(hs.2 b (An (BC (AY e) (I.ok.cab x c hfn hc)))).trans (I.base.keep b o e n hb hx)
  ·obtain⟨sl,e1⟩:=I.base.slot b o e n hb hx
   exact⟨sl,(hs.2 b (An (BC (AY e) (I.ok.cab x c hfn hc)))).trans e1⟩
  ·obtain⟨o',e1⟩:=I.base.there b o e hx
   exact⟨o',(hs.2 b (An (BC (AY e) (I.ok.cab x c hfn hc)))).trans e1⟩
  ·by_cases hj:j=i
   ·subst hj
    rw [hi] at e1;cases e1
    rw [BH hiσ] at e2
    cases e2
    exact⟨u,r,.inr ⟨.inl hk,c,hc,hc'⟩⟩
   ·rw [List.getElem?_set_ne (Ne.symm hj)] at e2
    obtain⟨u',r',q⟩:=hl j y v' e1 e2 e3
    refine⟨u',r', ?_⟩
    rcases q with q|⟨k,c',e,z'⟩
    ·exact .inl q
    ·refine .inr ⟨k,c',e,z'.sameBut hs ?_⟩
     rintro rfl
     exact hj (a7U hN e1 (I.ok.inj _ _ _ e hc▸hi))
  ·by_cases hcc:c'=c
   ·subst hcc;exact⟨_,hc'⟩
   ·obtain⟨w2,z2⟩:=I.cell y c' e
    exact⟨w2,z2.sameBut hs hcc⟩
  ·obtain⟨e,n,ne,nf,d⟩:=I.pin p hp
   refine⟨(hs.2 p.1 ?_).trans e,n,ne,nf,d⟩
   intro q
   rw [q,hoc] at e
   have q':oc=p.2:=Option.some.inj e
   exact d w' (by rw [<-q'];exact hocd)
theorem a4X{M:Model}{A:AO}{E:AA->AC->Prop}{i:Nat}{x:Str}{v:V}{u:AA}{Q:Unit->AC->Prop}(I:i2 X pins σ H s)(hN:X.N.Nodup)(hi:X.N[i]?=some x)(hx:Loc X.env.scope x)(r:l6 v u)
 (h:∀s',i2 X pins (σ.set i (some v)) H s'->Q () s') (hf:X.fn x=true\/X.env.scope.names.lookup x=some .local:=by first|exact .inl rfl|exact .inr rfl|assumption):AG M A (storeName X.env x u) Q E s:=
 b0Z I hN hi hx r (fun s' I' _=>h s' I') hf
theorem i2.call'{s':AC}{ch:List AB}(I:i2 X pins σ H s)(ho:s'.os=s.os)(u:Un (frs X.stack) ch H H' s.heap s'.heap)(hok:HOk X.prog X.w H' s'.heap)(hg:AllBare s'.gens)
 (hch:∀b∈ch,(b∈X.ex\/X.s₀.heap.objs.size<=b)/\b≠X.env.locals/\(∀x c,X.env.cells.lookup x=some c->c≠b)/\∀p∈X.pn++pins,p.1≠b):i2 X pins σ H' s':=by
 obtain⟨h',g',d',t',o'⟩:=s'
 have e:o'=s.os:=ho
 subst e
 exact I.call (g':=g') (t':=t') (d':=d') u hok hg hch
end
abbrev XK:=AA->Option AB->Hp->Prop
abbrev St:=List (Option V)
abbrev VK:=V->Hp->Prop
abbrev TE:=St->Hp->VK->Prop
abbrev TT:=St->Hp->(Bool->Hp->Prop)->Prop
abbrev TA:=St->Hp->(List V->Hp->Prop)->Prop
structure L4 where
 nx:St->Hp->Prop
 rt:VK
 bk:St->Hp->Prop:=fun _ _=>False
 ct:St->Hp->Prop:=fun _ _=>False
abbrev TS:=L4->St->Hp->Prop
def EP(X:Cx)(pins:List (AB×Obj))(σ:St)(Q:VK)(u:AA)(s':AC):Prop:=∃v H',i2 X pins σ H' s'/\l6 v u/\Q v H'
def TP(X:Cx)(pins:List (AB×Obj))(σ:St)(Q:Bool->Hp->Prop)(b:Bool)(s':AC):Prop:=∃H',i2 X pins σ H' s'/\Q b H'
def AP(X:Cx)(pins:List (AB×Obj))(σ:St)(Q:List V->Hp->Prop)(us:List AA)(s':AC):Prop:=∃vs H',i2 X pins σ H' s'/\i4 vs us/\Q vs H'
def SP(X:Cx)(pins:List (AB×Obj))(D:L4)(f:Flow)(s':AC):Prop:=
 match f with
 | .next=>∃σ' H',i2 X pins σ' H' s'/\D.nx σ' H'
 | .brk=>∃σ' H',i2 X pins σ' H' s'/\D.bk σ' H'
 | .cont=>∃σ' H',i2 X pins σ' H' s'/\D.ct σ' H'
 | .ret u=>∃v σ' H',i2 X pins σ' H' s'/\l6 v u/\D.rt v H'
def PE(X:Cx)(e:AE)(t:TE):Prop:=
 ∀(pins:List (AB×Obj)) (s:AC) (σ:St) (H:Hp) (Q:VK),i2 X pins σ H s->t σ H Q->AG (model X.prog X.w) X.A (eval e X.env) (EP X pins σ Q) X.xe s
def PT(X:Cx)(e:AE)(t:TT):Prop:=
 ∀(pins:List (AB×Obj)) (s:AC) (σ:St) (H:Hp) (Q:Bool->Hp->Prop),i2 X pins σ H s->t σ H Q->AG (model X.prog X.w) X.A (isTrue e X.env (eval e X.env)) (TP X pins σ Q) X.xe s
def PW(X:Cx)(e:AE)(t:TT):Prop:=
 ∀(whole:Sem AA) (pins:List (AB×Obj)) (s:AC) (σ:St) (H:Hp) (Q:Bool->Hp->Prop),i2 X pins σ H s->t σ H Q->AG (model X.prog X.w) X.A (isTrue e X.env whole) (TP X pins σ Q) X.xe s
theorem PW.pt{X:Cx}{e:AE}{t:TT}(h:PW X e t):PT X e t:=h _
def PA(X:Cx)(es:List AE)(t:TA):Prop:=
 ∀(pos:Pos) (pins:List (AB×Obj)) (s:AC) (σ:St) (H:Hp) (Q:List V->Hp->Prop),i2 X pins σ H s->t σ H Q->AG (model X.prog X.w) X.A (spliced (backTo pos (AX es X.env))) (AP X pins σ Q) X.xe s
def PS(X:Cx)(st:Stmt)(t:TS):Prop:=
 ∀(pins:List (AB×Obj)) (s:AC) (σ:St) (H:Hp) (D:L4),i2 X pins σ H s->t D σ H->AG (model X.prog X.w) X.A (exec st X.env) (SP X pins D) X.xe s
def PSs(X:Cx)(st:List Stmt)(t:TS):Prop:=
 ∀(pins:List (AB×Obj)) (s:AC) (σ:St) (H:Hp) (D:L4),i2 X pins σ H s->t D σ H->AG (model X.prog X.w) X.A (execs st X.env) (SP X pins D) X.xe s
theorem B8{α:Type}{t:Sem α}{Q Q':α->AC->Prop}{M:Model}{A:AO}{E:AA->AC->Prop}{s:AC}(h:AG M A t Q E s)(hQ:∀a s,Q a s->Q' a s):AG M A t Q' E s:=wpAny_mono h hQ fun _ _ x=>x
section
variable {X:Cx}
def Q6(i:Nat):TE:=fun σ H Q=>∃v,σ[i]?=some (some v)/\Q v H
def tC(v:V):TE:=fun _ H Q=>Q v H
theorem b6K{i:Nat}{x:Str}{pos:Pos}(hN:X.N[i]?=some x)(hv:Vis X.env.scope x)(hd:(x==("__debug__":Str))=false:=by decide)(hcd:(x==("__classdict__":Str))=false:=by decide):PE X (.Name x pos) (Q6 i):=by
 intro pins s σ H Q I h
 obtain⟨v,e,h⟩:=h
 obtain⟨m,hn,hl⟩:=I.loc
 obtain⟨u,r,l⟩:=hl i x v hN e hv
 have fin:EP X pins σ Q u s:=⟨v,H,I,r,h⟩
 rcases l with⟨hk,hm⟩|⟨hk,c,hc,hcell⟩
 ·exact wpAny_Name (wpAny_loadName_local I.ok.kind hk hn hm fin) hd
 ·rcases hk with hk|hk
  ·exact wpAny_Name (wpAny_loadName_cell I.ok.kind hk hc hcell fin) hd
  ·exact wpAny_Name (wpAny_loadName_free I.ok.kind hk hc hcell fin hcd) hd
theorem b6H{i j pos}:PE X (.Constant (.int i) j pos) (tC (.int i)):=fun _ _ _ H _ I h=>wpAny_Constant_int ⟨.int i,H,I.tok _,⟨_,rfl⟩,h⟩
theorem b7H{b j pos}:PE X (.Constant (.bool b) j pos) (tC (.bl b)):=fun _ _ _ H _ I h=>Constant_bool ⟨.bl b,H,I,rfl,h⟩
theorem b6J{j pos}:PE X (.Constant .none j pos) (tC .non):=fun _ _ _ H _ I h=>Constant_none ⟨.non,H,I,rfl,h⟩
theorem b2L{x j pos}:PE X (.Constant (.str x) j pos) (tC (.str x)):=fun _ _ _ H _ I h=>Calls.Constant_str ⟨.str x,H,I.tok _,⟨_,rfl⟩,h⟩
def Gl(X:Cx)(x:Str):Prop:=X.env.kindOf x=some .globalImplicit
theorem a3j{E:AA->AC->Prop}{pins:List (AB×Obj)}{s:AC}{σ:St}{H:Hp}{x:Str}{u:AA}{pos:Pos}{Q:AA->AC->Prop}(I:i2 X pins σ H s)(hg:Gl X x)(hm:X.mg x=some u)(h:Q u s)
 (hd:(x==("__debug__":Str))=false:=by decide):AG (model X.prog X.w) X.A (eval (.Name x pos) X.env) Q E s:=
 Calls.Name_function_global I.ok.kind hg (Calls.loadGlobal_global (by rw [I.ok.glob];exact I.mod.glob.keeps I.bk) hm h) hd
theorem a6w{E:AA->AC->Prop}{pins:List (AB×Obj)}{s:AC}{σ:St}{H:Hp}{x:Str}{u:AA}{pos:Pos}{Q:AA->AC->Prop}(I:i2 X pins σ H s)(hg:Gl X x)(hm:X.mg x=none)(hv:bootBuiltins x=some u)(h:Q u s)
 (hn:x≠"__name__":=by decide) (hd:(x==("__debug__":Str))=false:=by decide):AG (model X.prog X.w) X.A (eval (.Name x pos) X.env) Q E s:=by
 obtain⟨mb,h1,h2⟩:=I.mod.blt
 exact Calls.Name_function_global I.ok.kind hg (Calls.loadGlobal_builtin (by rw [I.ok.glob];exact I.mod.glob.keeps I.bk) hm (by rw [I.ok.blt];exact h1.keeps I.bk) ((h2 x hn).trans hv) h) hd
theorem b4I{x:Str}{v:V}{u:AA}{pos:Pos}(hg:Gl X x)(hm:X.mg x=some u)(r:l6 v u)(hd:(x==("__debug__":Str))=false:=by decide):PE X (.Name x pos) (tC v):=
 fun _ _ _ H _ I h=>a3j I hg hm ⟨v,H,I,r,h⟩ hd
variable {a b:AE}{ta tb:TE}{pos:Pos}
def PC(X:Cx)(op:CmpOp)(a b:AE)(t:TE):Prop:=
 ∀(pins:List (AB×Obj)) (s:AC) (σ:St) (H:Hp) (Q:VK),i2 X pins σ H s->t σ H Q->
  AG (model X.prog X.w) X.A (eval a X.env) (fun v s₁=>AG (model X.prog X.w) X.A (eval b X.env) (fun u s₂=>AG (model X.prog X.w) X.A (compareOp op v u) (EP X pins σ Q) X.xe s₂) X.xe s₁) X.xe s
theorem a7T(b:AE){op:CmpOp}(h:op≠.In)(h2:op≠.NotIn):behindInMarks op b=false:=by
 have e1:(op==CmpOp.In)=false:=by cases op<;>first|rfl|exact absurd rfl h
 have e2:(op==CmpOp.NotIn)=false:=by cases op<;>first|rfl|exact absurd rfl h2
 cases b<;>simp [behindInMarks,e1,e2]
def tB(t:TE):TT:=fun σ H Q=>t σ H fun x H1=>∃c,x= .bl c/\Q c H1
theorem b6G{op:CmpOp}{t:TE}(h:PC X op a b t)(h1:behindInMarks op b=false:=by first|exact a7T _ (by decide) (by decide)|rfl):PE X (.Compare a [op] [b] pos) t:=fun pins s σ H Q I hw=>wpAny_Compare1 (h pins s σ H Q I hw) h1
theorem a9e{op:CmpOp}{t:TE}(h:PC X op a b t)(h1:behindInMarks op b=false:=by first|exact a7T _ (by decide) (by decide)|rfl):PT X (.Compare a [op] [b] pos) (tB t):=by
 intro pins s σ H Q I hw
 refine wpAny_isTrue_Compare1 (B8 (h pins s σ H _ I hw) fun v s1 h1=>B8 h1 fun u s2 h2=>B8 h2 fun c s3 ⟨x,H1,I1,r1,q1⟩=> ?_) h1
 obtain⟨d,rfl,q⟩:=q1
 cases r1
 exact wpAny_truthy_bool ⟨H1,I1,q⟩
variable {tA tB':TT}{B2:List AE}
def tOr(t u:TT):TT:=fun σ H Q=>t σ H fun c H1=>if c=true then Q true H1 else u σ H1 Q
theorem b6S(ha:PT X a tA):PW X (.BoolOp .Or [a] pos) tA:=by
 intro wh pins s σ H Q I h
 refine isTrue_or (B8 (ha pins s σ H Q I h) fun c s1 e=> ?_)
 cases c with
 |false=>exact isTrue_or_nil e
 |true=>exact e
theorem b7M(ha:PT X a tA)(hb:PW X (.BoolOp .Or (b::B2) pos) tB'):PW X (.BoolOp .Or (a::b::B2) pos) (tOr tA tB'):=by
 intro wh pins s σ H Q I h
 refine isTrue_or (B8 (ha pins s σ H _ I h) fun c s1 ⟨H1,I1,q1⟩=> ?_)
 cases c with
 |true=>exact⟨H1,I1,q1⟩
 |false=>exact hb wh pins s1 σ H1 Q I1 q1
end
def M2(K:AD)(H:Hp)(a:AB)(xs:List V):Prop:=
 Rd H a (.lst xs)\/
  ∃(o:Obj) (its:Array AA) (n:Nat),K.lookup a=some o/\o.cls= .type "list"/\o.dict=none/\o.data= .seq its n/\its.size<=AK/\i4 xs its.toList
def V5(K:AD)(H:Hp)(a:AB)(xs:List V):Prop:=
 Rd H a (.tup xs)\/
  ∃(o:Obj) (its:Array AA) (n:Nat),K.lookup a=some o/\o.cls= .type "tuple"/\o.data= .seq its n/\its.size<=AK/\i4 xs its.toList
def b79:AA->Option V
 | .none=>some .non
 | .bool b=>some (.bl b)
 | .int i _=>some (.int i)
 | .str x _=>some (.str x)
 | .bytes b _=>some (.byt b)
 | .float b _=>some (.flt b)
 | .ref a=>some (.ref a)
 | .type n=>some (.ty n)
 |_=>none
theorem l6.abs{x:V}{u:AA}(r:l6 x u):b79 u=some x:=by
 cases x with
 |non=>cases r;rfl
 |bl _=>cases r;rfl
 |int _=>obtain⟨t,rfl⟩:=r;rfl
 |str _=>obtain⟨t,rfl⟩:=r;rfl
 |byt _=>obtain⟨t,rfl⟩:=r;rfl
 |flt _=>obtain⟨t,rfl⟩:=r;rfl
 |ref _=>cases r;rfl
 |ty _=>cases r;rfl
theorem l6.inj{x y:V}{u:AA}(r:l6 x u)(q:l6 y u):x=y:=Option.some.inj (r.abs.symm.trans q.abs)
theorem i4.inj:∀{xs ys:List V} {us:List AA},i4 xs us->i4 ys us->xs=ys
 |_,_,_,.nil,.nil=>rfl
 |_,_,_,.cons r t,.cons r' t'=>by rw [r.inj r',i4.inj t t']
section
variable {X:Cx}{pins:List (AB×Obj)}{σ:St}{H:Hp}{s:AC}{a:AB}{xs ys:List V}
theorem M2.of{K:AD}(h:H a=some (.lst xs)):M2 K H a xs:= .inl (.inl h)
theorem V5.of{K:AD}(h:H a=some (.tup xs)):V5 K H a xs:= .inl (.inl h)
theorem i2.list(I:i2 X pins σ H s)(h:M2 X.K H a xs):∃its:List AA,i4 xs its/\PlainL s.heap a its.toArray/\xs.length<=AK:=by
 rcases h with h|⟨o,its,n,hk,hc,hd,hs,hz,r⟩
 ·obtain⟨z,its,n,r,e⟩:=h.ok I.hok
  exact⟨its,r,⟨_,n,e,rfl,rfl,rfl⟩,z⟩
 ·refine⟨its.toList,r,⟨o,n,I.kIn a o hk,hc,hd,by simpa using hs⟩, ?_⟩
  have e:=r.length
  simp only [Array.length_toList] at e
  lia
theorem i2.tuple(I:i2 X pins σ H s)(h:V5 X.K H a xs):∃its:List AA,i4 xs its/\IsTup s.heap a its.toArray/\xs.length<=AK:=by
 rcases h with h|⟨o,its,n,hk,hc,hs,hz,r⟩
 ·obtain⟨z,its,r,p⟩:=h.ok I.hok
  exact⟨its,r,p,z⟩
 ·refine⟨its.toList,r,⟨o,I.kIn a o hk,hc,n,by simpa using hs⟩, ?_⟩
  have e:=r.length
  simp only [Array.length_toList] at e
  lia
theorem i2.list_inj(I:i2 X pins σ H s)(h:M2 X.K H a xs)(h':M2 X.K H a ys):xs=ys:=by
 obtain⟨its,r,⟨o,n,e,_,_,d⟩,_⟩:=I.list h
 obtain⟨its',r',⟨o',n',e',_,_,d'⟩,_⟩:=I.list h'
 rw [e] at e';cases e'
 rw [d] at d'
 injection d' with d1 _
 have:its=its':=by simpa using congrArg Array.toList d1
 subst this
 exact r.inj r'
theorem i2.tuple_inj(I:i2 X pins σ H s)(h:V5 X.K H a xs)(h':V5 X.K H a ys):xs=ys:=by
 obtain⟨its,r,⟨o,e,_,n,d⟩,_⟩:=I.tuple h
 obtain⟨its',r',⟨o',e',_,n',d'⟩,_⟩:=I.tuple h'
 rw [e] at e';cases e'
 rw [d] at d'
 injection d' with d1 _
 have:its=its':=by simpa using congrArg Array.toList d1
 subst this
 exact r.inj r'
end
abbrev Cx.wish(X:Cx)(E:AA->AC->Prop):Cx:={X with xe:=E}
abbrev Cx.nox(X:Cx):Cx:=X.wish fun _ _=>False
theorem Cx.Ok.wish{X:Cx}(ok:X.Ok)(E:AA->AC->Prop):(X.wish E).Ok:=
 ⟨ok.mod,ok.kind,ok.glob,ok.blt,ok.above,ok.inj,ok.has,ok.cab,ok.hd,ok.frames,ok.stk,ok.exf,ok.bs,ok.bsz,ok.noex,ok.exfs,ok.funs,ok.frf⟩
theorem Cx.Ok.unwish{X:Cx}{E:AA->AC->Prop}(ok:(X.wish E).Ok):X.Ok:=
 ⟨ok.mod,ok.kind,ok.glob,ok.blt,ok.above,ok.inj,ok.has,ok.cab,ok.hd,ok.frames,ok.stk,ok.exf,ok.bs,ok.bsz,ok.noex,ok.exfs,ok.funs,ok.frf⟩
section
variable {X:Cx}{pins:List (AB×Obj)}{σ:St}{H:Hp}{s:AC}{E:AA->AC->Prop}
theorem i2.wish(I:i2 X pins σ H s)(E:AA->AC->Prop):i2 (X.wish E) pins σ H s:=⟨I.ok.wish E,I.os,I.bare,I.base,I.loc,I.cell,I.free,I.freeC,I.pin,I.hok,I.len⟩
theorem i2.unwish(I:i2 (X.wish E) pins σ H s):i2 X pins σ H s:=⟨I.ok.unwish,I.os,I.bare,I.base,I.loc,I.cell,I.free,I.freeC,I.pin,I.hok,I.len⟩
theorem SP.unwish{D:L4}{f:Flow}{s':AC}(h:SP (X.wish E) pins D f s'):SP X pins D f s':=by
 cases f with
 |next=>obtain⟨σ',H',I,q⟩:=h;exact⟨σ',H',I.unwish,q⟩
 |brk=>obtain⟨σ',H',I,q⟩:=h;exact⟨σ',H',I.unwish,q⟩
 |cont=>obtain⟨σ',H',I,q⟩:=h;exact⟨σ',H',I.unwish,q⟩
 |ret u=>obtain⟨v,σ',H',I,r,q⟩:=h;exact⟨v,σ',H',I.unwish,r,q⟩
theorem PE.nox{e:AE}{t:TE}(h:PE X.nox e t):PE X e t:=fun pins s σ H Q I hw=>
 wpAny_mono (h pins s σ H Q (I.wish _) hw) (fun _ _ ⟨v,H',I',r,q⟩=>⟨v,H',I'.unwish,r,q⟩) fun _ _ z=>False.elim z
theorem PT.nox{e:AE}{t:TT}(h:PT X.nox e t):PT X e t:=fun pins s σ H Q I hw=>
 wpAny_mono (h pins s σ H Q (I.wish _) hw) (fun _ _ ⟨H',I',q⟩=>⟨H',I'.unwish,q⟩) fun _ _ z=>False.elim z
theorem PSs.nox{st:List Stmt}{t:TS}(h:PSs X.nox st t):PSs X st t:=fun pins s σ H D I hw=>
 wpAny_mono (h pins s σ H D (I.wish _) hw) (fun _ _ q=>q.unwish) fun _ _ z=>False.elim z
end
section
variable {X:Cx}{st:Stmt}{B2:List Stmt}{t u:TS}{e:AE}{te:TE}{pos:Pos}
def b7V:TS:=fun D σ H=>D.nx σ H
def b8A(t u:TS):TS:=fun D σ H=>t {D with nx:=u D} σ H
theorem a9X:PSs X [] b7V:=fun _ _ σ H _ I h=>wpAny_execs_nil ⟨σ,H,I,h⟩
theorem Z4(h1:PS X st t)(h2:PSs X B2 u):PSs X (st::B2) (b8A t u):=by
 intro pins s σ H D I h
 refine wpAny_execs_cons (B8 (h1 pins s σ H {D with nx:=u D} I h) fun f s1 q=> ?_)
 cases f with
 |next=>
  obtain⟨σ',H',I',q⟩:=q
  exact h2 pins s1 σ' H' D I' q
 |ret v=>exact q
 |brk=>exact q
 |cont=>exact q
theorem a6N(h1:PS X st t):PSs X [st] t:=by
 intro pins s σ H D I h
 refine wpAny_execs_cons (B8 (h1 pins s σ H D I h) fun f s1 q=> ?_)
 cases f with
 |next=>exact wpAny_execs_nil q
 |ret v=>exact q
 |brk=>exact q
 |cont=>exact q
theorem i2.quiet{pins:List (AB×Obj)}{σ:St}{H:Hp}{s:AC}(I:i2 X pins σ H s):interactive X.env=false:=by simp [interactive,I.ok.kind]
def b7U(te:TE):TS:=fun D σ H=>te σ H fun _ H1=>D.nx σ H1
theorem b4O(he:PE X e te)(hs:swapsWith e none pos.line X.env=pure false:=by rfl):PS X (.Expr e pos) (b7U te):=by
 intro pins s σ H D I h
 exact wpAny_Expr_any (B8 (he pins s σ H _ I h) fun v s1 ⟨x,H1,I1,r1,q1⟩=>⟨σ,H1,I1,q1⟩) I.quiet hs
def b8z(te:TE):TS:=fun D σ H=>te σ H D.rt
theorem a9c(he:PE X e te):PS X (.Return (some e) pos) (b8z te):=by
 intro pins s σ H D I h
 exact wpAny_Return_some (B8 (he pins s σ H _ I h) fun v s1 ⟨x,H1,I1,r1,q1⟩=>⟨x,σ,H1,I1,r1,q1⟩)
def b8x(c:TT)(t u:TS):TS:=fun D σ H=>c σ H fun b H1=>if b=true then t D σ H1 else u D σ H1
theorem b5C{c:AE}{a b:List Stmt}{tc:TT}(hc:PT X c tc)(ha:PSs X a t)(hb:PSs X b u):PS X (.If c a b pos) (b8x tc t u):=by
 intro pins s σ H D I h
 refine wpAny_If (B8 (hc pins s σ H _ I h) fun d s1 ⟨H1,I1,q1⟩=> ?_)
 cases d with
 |true=>exact ha pins s1 σ H1 D I1 q1
 |false=>exact hb pins s1 σ H1 D I1 q1
end
abbrev TG:=V->St->Hp->(St->Hp->Prop)->Prop
abbrev TGs:=List V->St->Hp->(St->Hp->Prop)->Prop
def PG(X:Cx)(target:AE)(t:TG):Prop:=
 ∀(pins:List (AB×Obj)) (s:AC) (σ:St) (H:Hp) (v:V) (u:AA) (Q:St->Hp->Prop),i2 X pins σ H s->l6 v u->t v σ H Q->
  AG (model X.prog X.w) X.A (assign target X.env u) (fun _ s'=>∃σ' H',i2 X pins σ' H' s'/\Q σ' H') X.xe s
def PGs(X:Cx)(ts:List AE)(t:TGs):Prop:=
 ∀(pins:List (AB×Obj)) (s:AC) (σ:St) (H:Hp) (vs:List V) (us:List AA) (Q:St->Hp->Prop),i2 X pins σ H s->i4 vs us->t vs σ H Q->
  AG (model X.prog X.w) X.A (assignInOrder ((assignEach ts X.env).map (·.2)) us) (fun _ s'=>∃σ' H',i2 X pins σ' H' s'/\Q σ' H') X.xe s
abbrev TIp:=V->V->Hp->VK->Prop
def PIp(X:Cx)(op:Operator)(t:TIp):Prop:=
 ∀(pins:List (AB×Obj)) (s:AC) (σ:St) (H:Hp) (x y:V) (v u:AA) (Q:VK),i2 X pins σ H s->l6 x v->l6 y u->t x y H Q->
  AG (model X.prog X.w) X.A (inplaceOp op v u) (EP X pins σ Q) X.xe s
section
variable {X:Cx}{pos:Pos}
def a7E(i:Nat):TG:=fun v σ H Q=>Q (σ.set i (some v)) H
theorem i9{i:Nat}{x:Str}(hN:X.N.Nodup)(hi:X.N[i]?=some x)(hx:Loc X.env.scope x)(hf:X.fn x=true\/X.env.scope.names.lookup x=some .local:=by first|exact .inl rfl|exact .inr rfl|assumption):PG X (.Name x pos) (a7E i):=by
 intro pins s σ H v u Q I r h
 exact wpAny_assign_Name (a4X I hN hi hx r (fun s' I'=>⟨_,H,I',h⟩) hf)
def b7x:TGs:=fun vs σ H Q=>vs=[]/\Q σ H
def b5t(t:TG)(u:TGs):TGs:=fun vs σ H Q=>∃v r,vs=v::r/\t v σ H fun σ' H'=>u r σ' H' Q
theorem a1M:PGs X [] b7x:=by
 intro pins s σ H vs us Q I r h
 obtain⟨e,h⟩:=h
 subst e
 cases r
 exact assignInOrder_nil ⟨σ,H,I,h⟩
theorem C3{e:AE}{es:List AE}{t:TG}{u:TGs}(h1:PG X e t)(h2:PGs X es u)
 (hs:(assignEach (e::es) X.env).map (·.2)=assign e X.env::(assignEach es X.env).map (·.2):=by rfl):PGs X (e::es) (b5t t u):=by
 intro pins s σ H vs us Q I r h
 obtain⟨v,vr,e1,h⟩:=h
 subst e1
 cases r with
 |cons r rr=>
  rw [hs]
  refine assignInOrder_cons (B8 (h1 pins s σ H _ _ _ I r h) fun _ s1 ⟨σ1,H1,I1,q1⟩=> ?_)
  exact h2 pins s1 σ1 H1 _ _ Q I1 rr q1
def b7y(K:AD)(n:Nat)(t:TGs):TG:=fun v σ H Q=>∃a xs,v= .ref a/\V5 K H a xs/\xs.length=n/\t xs σ H Q
theorem b2N{es:List AE}{k:Nat}{t:TGs}{n:Nat}(hc:X.calm=true)(h:PGs X es t)
 (hn:(assignEach es X.env).length=n:=by rfl) (hst:(assignEach es X.env).findIdx? (·.1)=none:=by rfl):PG X (.Tuple es k pos) (b7y X.K n t):=by
 intro pins s σ H v u Q I r hw
 obtain⟨a,xs,e1,hq,hl,hw⟩:=hw
 subst e1
 cases r
 obtain⟨its,rv,ht,hz⟩:=I.tuple hq
 refine assign_Tuple_tuple (I.ok.hd hc) ht (by simp [hn,<-hl,rv.length]) hst fun h' hx=> ?_
 have I1:i2 X pins σ H {s with heap:=h'}:=I.kept (t':=s.toks) fun b o e=>hx b o (An (AY e)) e
 exact h pins _ σ H xs _ Q I1 (by simpa using rv) hw
def b7Q(te:TE)(g:TG):TS:=fun D σ H=>te σ H fun x H1=>g x σ H1 D.nx
theorem b6P{tg e:AE}{te:TE}{g:TG}(he:PE X e te)(hg:PG X tg g)(hs:swapsWithSole [tg] e pos.line X.env=pure false:=by rfl)(hw:swappedStores [tg] e X.env=pure none:=by rfl)
 (h1:(assignEach [tg] X.env).map (·.2)=[assign tg X.env]:=by rfl):PS X (.Assign [tg] e pos) (b7Q te g):=by
 intro pins s σ H D I h
 refine wpAny_Assign_stores (B8 (he pins s σ H _ I h) fun v s1 ⟨x,H1,I1,r1,q1⟩=> ?_) hs hw
 rw [h1]
 exact B8 (hg pins s1 σ H1 x v _ I1 r1 q1) fun _ s2 q=>q
theorem a9d{i:Nat}{x:Str}{e:AE}{te:TE}{pos':Pos}(hN:X.N.Nodup)(hi:X.N[i]?=some x)(hx:Loc X.env.scope x)(he:PE X e te)(hs:swapsWith e (some (.Name x pos')) pos.line X.env=pure false:=by rfl)(hf:X.fn x=true\/X.env.scope.names.lookup x=some .local:=by first|exact .inl rfl|exact .inr rfl|assumption):
 PS X (.Assign [.Name x pos'] e pos) (b7Q te (a7E i)):=by
 intro pins s σ H D I h
 refine wpAny_Assign_Name (B8 (he pins s σ H _ I h) fun v s1 ⟨y,H1,I1,r1,q1⟩=> ?_) hs
 exact a4X I1 hN hi hx r1 (fun s2 I2=>⟨_,H1,I2,q1⟩) hf
def b8t(i:Nat)(te:TE)(ti:TIp):TS:=fun D σ H=>∃x,σ[i]?=some (some x)/\te σ H fun y H1=>ti x y H1 fun z H2=>D.nx (σ.set i (some z)) H2
theorem b6Q{i:Nat}{x:Str}{e:AE}{te:TE}{op:Operator}{ti:TIp}{pos':Pos}(hN:X.N.Nodup)(hi:X.N[i]?=some x)(hx:Loc X.env.scope x)(he:PE X e te)(ho:PIp X op ti)(hf:X.fn x=true\/X.env.scope.names.lookup x=some .local:=by first|exact .inl rfl|exact .inr rfl|assumption):
 PS X (.AugAssign (.Name x pos') op e pos) (b8t i te ti):=by
 intro pins s σ H D I h
 obtain⟨v,e1,h⟩:=h
 obtain⟨m,hn,hl⟩:=I.loc
 have vis:Vis X.env.scope x:=by rcases hx with k|k;exact .inl k;exact .inr (.inl k)
 obtain⟨u,r,l⟩:=hl i x v hi e1 vis
 refine wpAny_AugAssign_Name ?_
 have go:AG (model X.prog X.w) X.A (eval e X.env) (fun w s₂=>AG (model X.prog X.w) X.A (inplaceOp op u w) (fun r s₃=>AG (model X.prog X.w) X.A (storeName X.env x r) (fun _=>SP X pins D .next) X.xe s₃) X.xe s₂) X.xe s:=by
  refine B8 (he pins s σ H _ I h) fun w s1 ⟨y,H1,I1,r1,q1⟩=> ?_
  refine B8 (ho pins s1 σ H1 v y u w _ I1 r r1 q1) fun z s2 ⟨zv,H2,I2,r2,q2⟩=> ?_
  exact a4X I2 hN hi hx r2 (fun s3 I3=>⟨_,H2,I3,q2⟩) hf
 rcases l with⟨hk,hm⟩|⟨hk,c,hc,hcell⟩
 ·exact wpAny_loadName_local I.ok.kind hk hn hm go
 ·rcases hk with hk|hk
  ·exact wpAny_loadName_cell I.ok.kind hk hc hcell go
  ·rcases hx with k|k
   ·have:X.env.scope.names.lookup x=some .free:=hk
    rw [k] at this;cases this
   ·have:X.env.scope.names.lookup x=some .free:=hk
    rw [k] at this;cases this
end
section
variable {X:Cx}{pos:Pos}
def b62(c:TT)(tb:TS):TS:=fun D σ H=>∃W:Nat->St->Hp->Prop,(∃m,W m σ H)/\∀m σ H,W m σ H->
 c σ H fun b H1=>if b=true then ∃N:St->Hp->Prop,(∀σ' H',N σ' H'->∃m',m'<m/\W m' σ' H')/\tb {D with nx:=N,ct:=N,bk:=D.nx} σ H1 else D.nx σ H1
theorem b2Q{c:AE}{body:List Stmt}{tc:TT}{tb:TS}(hp:PassesOwn (model X.prog X.w) X.A X.env X.xe)(hc:PT X c tc)(hb:PSs X body tb):PS X (.While c body [] pos) (b62 tc tb):=by
 intro pins s σ H D I h
 obtain⟨W,⟨m0,w0⟩,turn⟩:=h
 refine wpAny_While (codeAny_whileLoop (fun n s'=>∃σ' H',i2 X pins σ' H' s'/\W n σ' H') ?_ m0 ⟨σ,H,I,w0⟩)
 rintro n s1 ⟨σ1,H1,I1,w1⟩
 refine wpAny_passesOwn hp (B8 (hc pins s1 σ1 H1 _ I1 (turn n σ1 H1 w1)) fun b s2 ⟨H2,I2,q2⟩=> ?_)
 cases b with
 |true=>
  obtain⟨N,hN,q2⟩:=q2
  rw [if_pos rfl]
  refine wpAny_passesOwn hp (B8 (hb pins s2 σ1 H2 _ I2 q2) fun f s3 q3=> ?_)
  cases f with
  |next=>
   obtain⟨σ3,H3,I3,n3⟩:=q3
   obtain⟨m',hm,w3⟩:=hN σ3 H3 n3
   exact⟨m',hm,σ3,H3,I3,w3⟩
  |cont=>
   obtain⟨σ3,H3,I3,n3⟩:=q3
   obtain⟨m',hm,w3⟩:=hN σ3 H3 n3
   exact⟨m',hm,σ3,H3,I3,w3⟩
  |brk=>exact q3
  |ret v=>exact q3
 |false=>
  rw [if_neg As]
  exact wpAny_execs_nil ⟨σ1,H2,I2,q2⟩
end
structure It where
 go:Nat->Hp->Prop
 yld:Nat->Hp->V->Hp->Prop
 stop:Nat->Hp->Prop
def a10(X:Cx)(pins:List (AB×Obj))(H:Hp)(b:AB):Prop:=
 H b=none/\b≠X.env.locals/\b∉X.fs/\(b∈X.ex\/X.s₀.heap.objs.size<=b)/\(∀x c,X.env.cells.lookup x=some c->c≠b)/\∀p∈X.pn++pins,p.1≠b
theorem i2.fpOk{X:Cx}{pins:List (AB×Obj)}{σ:St}{H H':Hp}{s:AC}{b:AB}(I:i2 X pins σ H s)(hb:s.heap.objs.size<=b)(hn:H' b=none):a10 X pins H' b:=by
 refine⟨hn,Nat.ne_of_gt (BC I.lt hb),I.nofs hb,.inr (Nat.le_trans I.sz hb),fun x c e z=> ?_,fun p hp z=> ?_⟩
 ·obtain⟨v,q⟩:=I.cell x c e
  exact absurd (BC q.lt (by rw [z];exact hb)) (Nat.lt_irrefl _)
 ·exact absurd (BC (AY (I.pin p hp).1) (by rw [z];exact hb)) (Nat.lt_irrefl _)
structure b0f(P:AL)(w:AJ)(K:AD)(tg:AE)(J:It)(fp:List AB)(it:AB)(tn:Nat->Heap->Prop):Prop where
 mem:it∈fp
 obj:∀i h,tn i h->∀b∈fp,∃o,h.get? b=some o/\∀v,o.data≠.cell v
 keep:∀i h h',tn i h->(∀b∈fp,∀o,h.get? b=some o->h'.get? b=some o)->tn i h'
 item:∀(X:Cx),X.prog=P->X.w=w->X.K=K->X.calm=true->∀(i:Nat) (pins:List (AB×Obj)) (s:AC) (σ:St) (H:Hp) (E:AA->AC->Prop),i2 X pins σ H s->(∀b∈fp,a10 X pins H b)->tn i s.heap->J.go i H->
  AG (model P w) X.A (pyNext (.ref it)) (fun r s1=>∃u,r=some u/\
   AG (model P w) X.A (letOwnedTupleGo tg (.ref it) u) (fun _ s2=>∃x H',i2 X pins σ H' s2/\l6 x u/\J.yld i H x H'/\tn (i+1) s2.heap/\∀b∈fp,H' b=none) E s1) E s
 done:∀(X:Cx),X.prog=P->X.w=w->X.K=K->X.calm=true->∀(i:Nat) (pins:List (AB×Obj)) (s:AC) (σ:St) (H:Hp) (E:AA->AC->Prop),i2 X pins σ H s->(∀b∈fp,a10 X pins H b)->tn i s.heap->J.stop i H->
   AG (model P w) X.A (pyNext (.ref it)) (fun r s1=>r=none/\i2 X pins σ H s1) E s
 self:∀(A:AO) (i:Nat) (s:AC) (Q:AA->AC->Prop) (E:AA->AC->Prop),tn i s.heap->Q (.ref it) s->AG (model P w) A (pyIter (.ref it)) Q E s
abbrev TI:=St->Hp->(It->Hp->Prop)->Prop
def PIE(X:Cx)(pins:List (AB×Obj))(σ:St)(tg:AE)(R:It->Hp->Prop)(itv:AA)(s2:AC):Prop:=
 ∃(it:AB) (fp:List AB) (tn:Nat->Heap->Prop) (J:It) (H':Hp),itv= .ref it/\i2 X pins σ H' s2/\b0f X.prog X.w X.K tg J fp it tn/\tn 0 s2.heap/\(∀b∈fp,a10 X pins H' b)/\R J H'
def PI(X:Cx)(tg iter:AE)(wi:TI):Prop:=
 ∀(pins:List (AB×Obj)) (s:AC) (σ:St) (H:Hp) (R:It->Hp->Prop),i2 X pins σ H s->wi σ H R->
  AG (model X.prog X.w) X.A (eval iter X.env) (fun v s1=>AG (model X.prog X.w) X.A (pyIter v) (PIE X pins σ tg R) X.xe s1) X.xe s
theorem b12{M:Model}{A:AO}{E:AA->AC->Prop}{s:AC}{tg:AE}{it:AB}{u:AA}{o:Obj}{n:String}{vs:Array AA}{Q:Unit->AC->Prop}(ho:s.heap.get? it=some o)(hc:o.cls= .type n)(hd:o.data= .fields vs)
 (hn:["enumerate","zip","dict_itemiterator","dict_reverseitemiterator","odict_iterator","itertools.zip_longest","itertools.pairwise"].contains n=false) (hQ:Q () s):AG M A (letOwnedTupleGo tg (.ref it) u) Q E s:=by
 unfold letOwnedTupleGo
 cases tg<;>first
  |exact AQ hQ
  |(cases u<;>first
   |exact AQ hQ
   |(refine AF (wpAny_load ho ?_)
     rw [hc,hd]
     show AG M A (if(["enumerate","zip","dict_itemiterator","dict_reverseitemiterator","odict_iterator","itertools.zip_longest","itertools.pairwise"].contains n && vs[0]?==some (rawInt _))=true then _ else _) Q E s
     rw [if_neg (by intro h;rw [hn,Bool.false_and] at h;cases h)]
     exact AQ hQ))
def Itl(K:AD)(a:AB):It:=
 ⟨fun i H=>∃xs x,M2 K H a xs/\xs[i]?=some x,fun i H x H'=>H'=H/\∀xs,M2 K H a xs->xs[i]?=some x,fun i H=>∃xs,M2 K H a xs/\xs.length<=i⟩
def Itt(K:AD)(a:AB):It:=
 ⟨fun i H=>∃xs x,V5 K H a xs/\xs[i]?=some x,fun i H x H'=>H'=H/\∀xs,V5 K H a xs->xs[i]?=some x,fun i H=>∃xs,V5 K H a xs/\xs.length<=i⟩
def Itr(lo:Int)(n:Nat):It:=⟨fun i _=>i<n,fun i H x H'=>H'=H/\x= .int (lo+i),fun i _=>n<=i⟩
theorem b01{P:AL}{w:AJ}{K:AD}{tg:AE}(a it:AB):b0f P w K tg (Itl K a) [it] it (fun i h=>h.IsListIter it a i) where
 mem:=by simp
 obj:=fun i h st b hb=>by
  have e:b=it:=by simpa using hb
  subst e
  obtain⟨o,e,c,d⟩:=st
  exact⟨o,e,fun v z=>by rw [d] at z;cases z⟩
 keep:=fun i h h' st k=>st.at fun o e=>k it (by simp) o e
 item:=by
  intro X hP hw hK hc i pins s σ H E I hf st hg
  subst hP hw hK
  obtain⟨xs,x,hq,hx⟩:=hg
  obtain⟨its,rv,p,hz⟩:=I.list hq
  obtain⟨u,hu,ru⟩:=rv.get hx
  obtain⟨f0,f1,f2,f3,f4,f5⟩:=hf it (by simp)
  refine wpAny_pyNext_list_item st p.isList (x:=u) (by simpa using hu) fun h' st' sb=> ?_
  have I1:i2 X pins σ H {s with heap:=h'}:=I.turned (t':=s.toks) (fun b o hb e=>(sb.2 b hb).trans e) f0 f1 f3 f4 f5
  obtain⟨o,e,c,d⟩:=id st'
  exact⟨u,rfl,b12 (s:={s with heap:=h'}) e c d (by decide) ⟨x,H,I1,ru,⟨rfl,fun ys hy=>by rw [I.list_inj hy hq];exact hx⟩,st',fun b hb=>(hf b hb).1⟩⟩
 done:=by
   intro X hP hw hK hc i pins s σ H E I hf st hg
   subst hP hw hK
   obtain⟨xs,hq,hx⟩:=hg
   obtain⟨its,rv,p,hz⟩:=I.list hq
   obtain⟨f0,f1,f2,f3,f4,f5⟩:=hf it (by simp)
   have hl:=rv.length
   exact wpAny_pyNext_list_end (I.ok.hd hc) st p.isList (by simp;lia) fun h' eb=>⟨rfl,I.turned (t':=s.toks) (fun b o hb e=>eb b o hb e) f0 f1 f3 f4 f5⟩
 self:=fun _ _ _ _ _ st h=>wpAny_pyIter_listiter st h
theorem a9q{P:AL}{w:AJ}{K:AD}{tg:AE}(a it:AB):b0f P w K tg (Itt K a) [it] it (fun i h=>h.IsTupleIter it a i) where
 mem:=by simp
 obj:=fun i h st b hb=>by
  have e:b=it:=by simpa using hb
  subst e
  obtain⟨o,e,c,d⟩:=st
  exact⟨o,e,fun v z=>by rw [d] at z;cases z⟩
 keep:=fun i h h' st k=>st.at fun o e=>k it (by simp) o e
 item:=by
  intro X hP hw hK hc i pins s σ H E I hf st hg
  subst hP hw hK
  obtain⟨xs,x,hq,hx⟩:=hg
  obtain⟨its,rv,p,hz⟩:=I.tuple hq
  obtain⟨u,hu,ru⟩:=rv.get hx
  obtain⟨f0,f1,f2,f3,f4,f5⟩:=hf it (by simp)
  refine wpAny_pyNext_tuple_item st (show s.heap.IsTuple a its.toArray from p) (x:=u) (by simpa using hu) fun h' st' sb=> ?_
  have I1:i2 X pins σ H {s with heap:=h'}:=I.turned (t':=s.toks) (fun b o hb e=>(sb.2 b hb).trans e) f0 f1 f3 f4 f5
  obtain⟨o,e,c,d⟩:=id st'
  exact⟨u,rfl,b12 (s:={s with heap:=h'}) e c d (by decide) ⟨x,H,I1,ru,⟨rfl,fun ys hy=>by rw [I.tuple_inj hy hq];exact hx⟩,st',fun b hb=>(hf b hb).1⟩⟩
 done:=by
   intro X hP hw hK hc i pins s σ H E I hf st hg
   subst hP hw hK
   obtain⟨xs,hq,hx⟩:=hg
   obtain⟨its,rv,p,hz⟩:=I.tuple hq
   obtain⟨f0,f1,f2,f3,f4,f5⟩:=hf it (by simp)
   have hl:=rv.length
   exact wpAny_pyNext_tuple_end (I.ok.hd hc) st (show s.heap.IsTuple a its.toArray from p) (by simp;lia) fun h' eb=>⟨rfl,I.turned (t':=s.toks) (fun b o hb e=>eb b o hb e) f0 f1 f3 f4 f5⟩
 self:=fun _ _ _ _ _ st h=>wpAny_pyIter_tupleiter st h
theorem a9p{P:AL}{w:AJ}{K:AD}{tg:AE}(it:AB)(lo:Int)(n:Nat):b0f P w K tg (Itr lo n) [it] it (fun i h=>IsRangeIter h it (lo+(i:Nat)*1) ((n:Int) - (i:Nat)) 1) where
 mem:=by simp
 obj:=fun i h st b hb=>by
  have e:b=it:=by simpa using hb
  subst e
  exact⟨_,st,fun v z=>by
   have z':Data.fields _=Data.cell v:=z
   cases z'⟩
 keep:=fun i h h' st k=>k it (by simp) _ st
 item:=by
  intro X hP hw hK hc i pins s σ H E I hf st hg
  subst hP hw hK
  obtain⟨f0,f1,f2,f3,f4,f5⟩:=hf it (by simp)
  have W:=Walks.range (prog:=X.prog) (w:=X.w) (I.ok.hd hc) it lo 1 n
  refine W.item i s _ _ hg st fun v h' tk hv st' kk=> ?_
  obtain⟨t,rfl⟩:=hv
  have I1:i2 X pins σ H {s with heap:=h',toks:=tk}:=I.turned (fun b o hb e=>kk b o (by simpa using hb) e) f0 f1 f3 f4 f5
  refine⟨_,rfl,b12 (s:={s with heap:=h',toks:=tk}) (n:="range_iterator") st' rfl rfl (by decide) ⟨.int (lo+i),H,I1,⟨t, ?_⟩,⟨rfl,rfl⟩,st',fun b hb=>(hf b hb).1⟩⟩
  rw [Int.mul_one]
 done:=by
   intro X hP hw hK hc i pins s σ H E I hf st hg
   subst hP hw hK
   obtain⟨f0,f1,f2,f3,f4,f5⟩:=hf it (by simp)
   exact wpAny_pyNext_range_end (I.ok.hd hc) st (by have:n<=i:=hg;lia) fun h' eb=>⟨rfl,I.turned (t':=s.toks) (fun b o hb e=>eb b o hb e) f0 f1 f3 f4 f5⟩
 self:=fun _ _ _ _ _ st h=>wpAny_pyIter_rangeiter st h
section
variable {X:Cx}{tg:AE}
theorem b2U{pins:List (AB×Obj)}{σ:St}{H:Hp}{s:AC}{R:It->Hp->Prop}{E:AA->AC->Prop}{lo hi:Int}{t u v:Tok}{tk:Nat}(I:i2 X pins σ H s)(h1: -(2 ^ 62)<=lo)(h2:lo<2 ^ 62)(h3: -(2 ^ 62)<=hi)(h4:hi<2 ^ 62)
 (q:R (Itr lo (hi - lo).toNat) H):AG (model X.prog X.w) X.A (pyIter (.ref s.heap.objs.size)) (PIE X pins σ tg R) E {s with heap:=s.heap.push {cls:= .type "range",data:= .fields #[.int lo t,.int hi u,.int 1 v]},toks:=tk}:=by
 refine wpAny_pyIter_range (IsRange.new ..) (small_one h1 h2 h3 h4) ?_
 have I1:i2 X pins σ H {s with heap:=s.heap.push {cls:= .type "range",data:= .fields #[.int lo t,.int hi u,.int 1 v]},toks:=tk}:=I.kept fun b o e=>Ae _ e
 refine⟨(s.heap.push {cls:= .type "range",data:= .fields #[.int lo t,.int hi u,.int 1 v]}).objs.size,[(s.heap.push {cls:= .type "range",data:= .fields #[.int lo t,.int hi u,.int 1 v]}).objs.size],_,_,H,rfl,
  I1.kept (t':=tk) fun b o e=>Ae _ e,a9p _ lo (hi - lo).toNat, ?_,fun b hb=> ?_,q⟩
 ·have e1:lo+((0:Nat):Int)*1=lo:=by simp
  have e2:(((hi - lo).toNat:Nat):Int) - ((0:Nat):Int)=Builtin.Range.rangeSize lo hi 1:=by rw [rangeSize_one];split<;>lia
  show IsRangeIter _ _ (lo+((0:Nat):Int)*1) ((((hi - lo).toNat:Nat):Int) - ((0:Nat):Int)) 1
  rw [e1,e2]
  exact Aw _ rfl
 ·have e:b=(s.heap.push {cls:= .type "range",data:= .fields #[.int lo t,.int hi u,.int 1 v]}).objs.size:=by simpa using hb
  subst e
  exact I1.fpOk (AN _) (I1.hok.fresh (AN _))
def b7A(ta:TA):TI:=fun σ H R=>ta σ H fun vs H1=>∃j:Int,vs=[.int j]/\ -(2 ^ 62)<=j/\j<2 ^ 62/\R (Itr 0 j.toNat) H1
theorem b0R{a:AE}{ta:TA}{p pos:Pos}(hg:Gl X "range")(hm:X.mg "range"=none)(ha:PA X [a] ta)(hs:AX [a] X.env=[(false,eval a X.env)]:=by rfl):PI X tg (.Call (.Name "range" p) [a] [] pos) (b7A ta):=by
 intro pins s σ H R I h
 refine Call_ (a6w I hg hm boot_range (PyProof.Rows.callWith_type1 (B8 (ha pos pins s σ H _ I h) fun us s1 ⟨vs,H1,I1,r1,q1⟩=> ?_) hs rfl))
 obtain⟨j,e,q1,q2,q⟩:=q1
 subst e
 cases r1 with
 |cons r rr=>
  cases rr
  obtain⟨t,rfl⟩:=r
  exact call_range_1 (b2U I1 (by lia) (by lia) q1 q2 (by simpa using q))
def b8w(wi:TI)(g:TG)(tb:TS):TS:=fun D σ H=>wi σ H fun J H1=>∃W:Nat->Nat->St->Hp->Prop,(∃m,W 0 m σ H1)/\∀i m σ H,W i m σ H->
 (J.stop i H/\D.nx σ H)\/(J.go i H/\∃N:St->Hp->Prop,(∀σ' H',N σ' H'->∃m',m'<m/\W (i+1) m' σ' H')/\∀x H',J.yld i H x H'->g x σ H' fun σ2 H2=>tb {D with nx:=N,ct:=N,bk:=D.nx} σ2 H2)
def a4E(fp:List AB)(h:Heap):List (AB×Obj):=fp.filterMap fun b=>(h.get? b).map fun o=>(b,o)
theorem U7{fp:List AB}{h:Heap}{b:AB}{o:Obj}(hb:b∈fp)(e:h.get? b=some o):(b,o)∈a4E fp h:=List.mem_filterMap.mpr ⟨b,hb,by rw [e];rfl⟩
theorem b0J{fp:List AB}{h:Heap}{p:AB×Obj}(hp:p∈a4E fp h):p.1∈fp/\h.get? p.1=some p.2:=by
 obtain⟨b,hb,e⟩:=List.mem_filterMap.mp hp
 cases q:h.get? b with
 |none=>rw [q] at e;cases e
 |some o=>
  rw [q] at e
  have e':(b,o)=p:=Option.some.inj e
  subst e'
  exact⟨hb,q⟩
theorem i2.pinned{pins:List (AB×Obj)}{σ:St}{H:Hp}{s:AC}{fp:List AB}(I:i2 X pins σ H s)(hf:∀b∈fp,a10 X pins H b)(ho:∀b∈fp,∃o,s.heap.get? b=some o/\∀v,o.data≠.cell v):i2 X (pins++a4E fp s.heap) σ H s:=
 I.pins_of fun p hp=>(Ap.mp hp).elim (fun z=>I.pin p (Av _ z)) fun z=>by
  obtain⟨hb,e⟩:=b0J z
  obtain⟨f0,f1,f2,_⟩:=hf p.1 hb
  obtain⟨o,e',d⟩:=ho p.1 hb
  rw [e] at e';cases e'
  exact⟨e,f0,f1,f2,d⟩
theorem i2.unpinned{pins pl:List (AB×Obj)}{σ:St}{H:Hp}{s:AC}(I:i2 X (pins++pl) σ H s):i2 X pins σ H s:=I.pins_of fun p hp=>I.pin p (Av _ (Ay _ hp))
theorem a9b{iter:AE}{body:List Stmt}{wi:TI}{g:TG}{tb:TS}{pos:Pos}(hp:PassesOwn (model X.prog X.w) X.A X.env X.xe)(hc:X.calm=true)(hi:PI X tg iter wi)(hg:PG X tg g)(hb:PSs X body tb)
 (hs:∀x,foldedSetIterable iter X.env x=pure x:=by intro _;rfl):PS X (.For tg iter body [] pos) (b8w wi g tb):=by
 intro pins s σ H D I h
 refine wpAny_For (B8 (hi pins s σ H _ I h) fun v s1 h1=>B8 h1 fun itv s2 h2=> ?_) hs
 obtain⟨it,fp,tn,J,H2,e,I2,T,st2,f2,W,⟨m0,w0⟩,turn⟩:=h2
 subst e
 have stat:∀{H':Hp},(∀b∈fp,H' b=none)->∀b∈fp,a10 X pins H' b:=fun hn b hb=>⟨hn b hb,(f2 b hb).2⟩
 refine codeAny_forLoop_any (fun n s'=>∃i σ' H',i2 X pins σ' H' s'/\tn i s'.heap/\(∀b∈fp,H' b=none)/\W i n σ' H') ?_ m0 ⟨0,σ,H2,I2,st2,fun b hb=>(f2 b hb).1,w0⟩
 rintro n s3 ⟨i,σ3,H3,I3,st3,fr3,w3⟩
 rcases turn i n σ3 H3 w3 with⟨stop,qn⟩|⟨go,N,hN,step⟩
 ·refine wpAny_passesOwn hp (B8 (T.done X rfl rfl rfl hc i pins s3 σ3 H3 X.xe I3 (stat fr3) st3 stop) fun r s4 ⟨hr,I4⟩=> ?_)
  subst hr
  exact wpAny_execs_nil ⟨σ3,H3,I4,qn⟩
 ·refine wpAny_passesOwn hp (B8 (T.item X rfl rfl rfl hc i pins s3 σ3 H3 X.xe I3 (stat fr3) st3 go) fun r s4 ⟨u,hr,h4⟩=> ?_)
  subst hr
  refine wpAny_passesOwn hp (B8 h4 fun _ s5 ⟨x,H5,I5,r5,y5,st5,fr5⟩=> ?_)
  have I5':=I5.pinned (stat fr5) (T.obj _ _ st5)
  refine wpAny_passesOwn hp (B8 (hg _ s5 σ3 H5 x u _ I5' r5 (step x H5 y5)) fun _ s6 ⟨σ6,H6,I6,q6⟩=> ?_)
  refine wpAny_passesOwn hp (B8 (hb _ s6 σ6 H6 _ I6 q6) fun f s7 q7=> ?_)
  have again:∀{σ7:St} {H7:Hp},i2 X (pins++a4E fp s5.heap) σ7 H7 s7->N σ7 H7->∃m,m<n/\∃i σ' H',i2 X pins σ' H' s7/\tn i s7.heap/\(∀b∈fp,H' b=none)/\W i m σ' H':=fun {σ7 H7} I7 n7=>by
   obtain⟨m',hm,w7⟩:=hN σ7 H7 n7
   refine⟨m',hm,i+1,σ7,H7,I7.unpinned,T.keep _ _ _ st5 fun b hb o e=>(I7.pin (b,o) (Av _ (Av _ (U7 hb e)))).1,fun b hb=> ?_,w7⟩
   obtain⟨o,e,d⟩:=T.obj _ _ st5 b hb
   exact(I7.pin (b,o) (Av _ (Av _ (U7 hb e)))).2.1
  cases f with
  |next=>obtain⟨σ7,H7,I7,n7⟩:=q7;exact again I7 n7
  |cont=>obtain⟨σ7,H7,I7,n7⟩:=q7;exact again I7 n7
  |brk=>obtain⟨σ7,H7,I7,q7⟩:=q7;exact⟨σ7,H7,I7.unpinned,q7⟩
  |ret v=>obtain⟨x7,σ7,H7,I7,r7,q7⟩:=q7;exact⟨x7,σ7,H7,I7.unpinned,r7,q7⟩
end
theorem b1M{K:AD}{a:AB}{xs:List V}{g:TG}{tb:TS}{D:L4}{σ:St}{H:Hp}(Pv:Nat->St->Hp->Prop)(h0:Pv 0 σ H)(hl:∀i σ H,i<=xs.length->Pv i σ H->M2 K H a xs)
 (hs:∀i x σ H,xs[i]?=some x->Pv i σ H->g x σ H fun σ2 H2=>tb {D with nx:=Pv (i+1),ct:=Pv (i+1),bk:=D.nx} σ2 H2) (hd:∀σ H,Pv xs.length σ H->D.nx σ H):
 ∃W:Nat->Nat->St->Hp->Prop,(∃m,W 0 m σ H)/\∀i m σ H,W i m σ H->
  ((Itl K a).stop i H/\D.nx σ H)\/((Itl K a).go i H/\∃N:St->Hp->Prop,(∀σ' H',N σ' H'->∃m',m'<m/\W (i+1) m' σ' H')/\∀x H',(Itl K a).yld i H x H'->g x σ H' fun σ2 H2=>tb {D with nx:=N,ct:=N,bk:=D.nx} σ2 H2):=by
 refine⟨fun i m σ H=>m=xs.length - i/\i<=xs.length/\Pv i σ H,⟨xs.length,by simp,Nat.zero_le _,h0⟩, ?_⟩
 rintro i m σ H ⟨rfl,hi,p⟩
 have q:=hl i σ H hi p
 by_cases hlt:i<xs.length
 ·refine .inr ⟨⟨xs,xs[i],q,by simp [hlt]⟩,Pv (i+1),fun σ' H' p'=>⟨xs.length - (i+1),by lia,rfl,hlt,p'⟩,fun x H' y=> ?_⟩
  obtain⟨e,y⟩:=y
  subst e
  exact hs i x σ _ (y xs q) p
 ·have e:i=xs.length:=by lia
  subst e
  exact .inl ⟨⟨xs,q,AN _⟩,hd σ H p⟩
theorem b3X{K:AD}{a:AB}{xs:List V}{g:TG}{tb:TS}{D:L4}{σ:St}{H:Hp}(Pv:Nat->St->Hp->Prop)(h0:Pv 0 σ H)(hl:∀i σ H,i<=xs.length->Pv i σ H->V5 K H a xs)
 (hs:∀i x σ H,xs[i]?=some x->Pv i σ H->g x σ H fun σ2 H2=>tb {D with nx:=Pv (i+1),ct:=Pv (i+1),bk:=D.nx} σ2 H2) (hd:∀σ H,Pv xs.length σ H->D.nx σ H):
 ∃W:Nat->Nat->St->Hp->Prop,(∃m,W 0 m σ H)/\∀i m σ H,W i m σ H->
  ((Itt K a).stop i H/\D.nx σ H)\/((Itt K a).go i H/\∃N:St->Hp->Prop,(∀σ' H',N σ' H'->∃m',m'<m/\W (i+1) m' σ' H')/\∀x H',(Itt K a).yld i H x H'->g x σ H' fun σ2 H2=>tb {D with nx:=N,ct:=N,bk:=D.nx} σ2 H2):=by
 refine⟨fun i m σ H=>m=xs.length - i/\i<=xs.length/\Pv i σ H,⟨xs.length,by simp,Nat.zero_le _,h0⟩, ?_⟩
 rintro i m σ H ⟨rfl,hi,p⟩
 have q:=hl i σ H hi p
 by_cases hlt:i<xs.length
 ·refine .inr ⟨⟨xs,xs[i],q,by simp [hlt]⟩,Pv (i+1),fun σ' H' p'=>⟨xs.length - (i+1),by lia,rfl,hlt,p'⟩,fun x H' y=> ?_⟩
  obtain⟨e,y⟩:=y
  subst e
  exact hs i x σ _ (y xs q) p
 ·have e:i=xs.length:=by lia
  subst e
  exact .inl ⟨⟨xs,q,AN _⟩,hd σ H p⟩
theorem b0p{lo:Int}{n:Nat}{g:TG}{tb:TS}{D:L4}{σ:St}{H:Hp}(Pv:Nat->St->Hp->Prop)(h0:Pv 0 σ H)
 (hs:∀i σ H,i<n->Pv i σ H->g (.int (lo+i)) σ H fun σ2 H2=>tb {D with nx:=Pv (i+1),ct:=Pv (i+1),bk:=D.nx} σ2 H2) (hd:∀σ H,Pv n σ H->D.nx σ H):
 ∃W:Nat->Nat->St->Hp->Prop,(∃m,W 0 m σ H)/\∀i m σ H,W i m σ H->
  ((Itr lo n).stop i H/\D.nx σ H)\/((Itr lo n).go i H/\∃N:St->Hp->Prop,(∀σ' H',N σ' H'->∃m',m'<m/\W (i+1) m' σ' H')/\∀x H',(Itr lo n).yld i H x H'->g x σ H' fun σ2 H2=>tb {D with nx:=N,ct:=N,bk:=D.nx} σ2 H2):=by
 refine⟨fun i m σ H=>m=n - i/\i<=n/\Pv i σ H,⟨n,by simp,Nat.zero_le _,h0⟩, ?_⟩
 rintro i m σ H ⟨rfl,hi,p⟩
 by_cases hlt:i<n
 ·refine .inr ⟨hlt,Pv (i+1),fun σ' H' p'=>⟨n - (i+1),by lia,rfl,hlt,p'⟩,fun x H' y=> ?_⟩
  obtain⟨e,y⟩:=y
  subst e y
  exact hs i σ _ hlt p
 ·have e:i=n:=by lia
  subst e
  exact .inl ⟨AN _,hd σ H p⟩
abbrev R2:=V->V->Hp->VK->Prop
def OpR(X:Cx)(f:AA->AA->Sem AA)(r:R2):Prop:=
 ∀(pins:List (AB×Obj)) (s:AC) (σ:St) (H:Hp) (x y:V) (v u:AA) (Q:VK),i2 X pins σ H s->l6 x v->l6 y u->r x y H Q->
  AG (model X.prog X.w) X.A (f v u) (EP X pins σ Q) X.xe s
def UnR(X:Cx)(f:AA->Sem AA)(r:V->Hp->VK->Prop):Prop:=
 ∀(pins:List (AB×Obj)) (s:AC) (σ:St) (H:Hp) (x:V) (v:AA) (Q:VK),i2 X pins σ H s->l6 x v->r x H Q->
  AG (model X.prog X.w) X.A (f v) (EP X pins σ Q) X.xe s
def E3(X:Cx)(f:AA)(r:List V->Hp->VK->Prop):Prop:=
 ∀(pins:List (AB×Obj)) (s:AC) (σ:St) (H:Hp) (xs:List V) (us:List AA) (Q:VK),i2 X pins σ H s->i4 xs us->r xs H Q->
  AG (model X.prog X.w) X.A (call f us) (EP X pins σ Q) X.xe s
def b78(X:Cx)(r:V->Hp->(Bool->Hp->Prop)->Prop):Prop:=
 ∀(pins:List (AB×Obj)) (s:AC) (σ:St) (H:Hp) (x:V) (v:AA) (Q:Bool->Hp->Prop),i2 X pins σ H s->l6 x v->r x H Q->
  AG (model X.prog X.w) X.A (truthy v) (TP X pins σ Q) X.xe s
def tOp(r:R2)(ta tb:TE):TE:=fun σ H Q=>ta σ H fun x H1=>tb σ H1 fun y H2=>r x y H2 Q
def tUn(r:V->Hp->VK->Prop)(ta:TE):TE:=fun σ H Q=>ta σ H fun x H1=>r x H1 Q
def rI(C:Int->Int->Prop)(g:Int->Int->V):R2:=fun x y H Q=>∃i j,x= .int i/\y= .int j/\C i j/\Q (g i j) H
def rI0(g:Int->Int->V):R2:=fun x y H Q=>∃i j,x= .int i/\y= .int j/\Q (g i j) H
def rU(g:Int->V):V->Hp->VK->Prop:=fun x H Q=>∃i,x= .int i/\Q (g i) H
section
variable {X:Cx}{a b c:AE}{ta tb tc:TE}{pos:Pos}
theorem b5U(ha:PE X a ta)(hb:PE X b tb){pins:List (AB×Obj)}{s:AC}{σ:St}{H:Hp}{R:V->V->Hp->Prop}(I:i2 X pins σ H s)
 (h:ta σ H fun x H1=>tb σ H1 fun y H2=>R x y H2) {Q:AA->AC->Prop} {f:AA->AA->Sem AA}
 (hf:∀v u s2 x y H2,i2 X pins σ H2 s2->l6 x v->l6 y u->R x y H2->AG (model X.prog X.w) X.A (f v u) Q X.xe s2):
 AG (model X.prog X.w) X.A (eval a X.env) (fun v s₁=>AG (model X.prog X.w) X.A (eval b X.env) (fun u s₂=>AG (model X.prog X.w) X.A (f v u) Q X.xe s₂) X.xe s₁) X.xe s:=by
 refine B8 (ha pins s σ H _ I h) fun v s1 ⟨x,H1,I1,r1,q1⟩=> ?_
 refine B8 (hb pins s1 σ H1 _ I1 q1) fun u s2 ⟨y,H2,I2,r2,q2⟩=> ?_
 exact hf v u s2 x y H2 I2 r1 r2 q2
theorem b7K{op:Operator}{r:R2}(ho:OpR X (binaryOp op) r)(ha:PE X a ta)(hb:PE X b tb):PE X (.BinOp a op b pos) (tOp r ta tb):=by
 intro pins s σ H Q I h
 exact wpAny_BinOp (b5U ha hb I h fun v u s2 x y H2 I2 rx ry q=>ho pins s2 σ H2 x y v u Q I2 rx ry q)
theorem b7L{op:UnaryOp}{r:V->Hp->VK->Prop}(ho:UnR X (unaryOp op) r)(ha:PE X a ta):PE X (.UnaryOp op a pos) (tUn r ta):=by
 intro pins s σ H Q I h
 exact UnaryOp_ (B8 (ha pins s σ H _ I h) fun v s1 ⟨x,H1,I1,r1,q1⟩=>ho pins s1 σ H1 x v Q I1 r1 q1)
theorem opI{f:AA->AA->Sem AA}{C:Int->Int->Prop}{g:Int->Int->Int}
 (rule:∀(i j:Int) (t u:Tok) (s:AC) (Q:AA->AC->Prop) (E:AA->AC->Prop),C i j->Q (.int (g i j) s.toks) {s with toks:=s.toks+1}->AG (model X.prog X.w) X.A (f (.int i t) (.int j u)) Q E s):
 OpR X f (rI C fun i j=> .int (g i j)):=by
 intro pins s σ H x y v u Q I rx ry h
 obtain⟨i,j,rfl,rfl,hc,q⟩:=h
 obtain⟨t,rfl⟩:=rx
 obtain⟨t',rfl⟩:=ry
 exact rule i j t t' s _ _ hc ⟨.int (g i j),H,I.tok _,⟨_,rfl⟩,q⟩
theorem b7E{f:AA->AA->Sem AA}{g:Int->Int->Int}
 (rule:∀(i j:Int) (t u:Tok) (s:AC) (Q:AA->AC->Prop) (E:AA->AC->Prop),Q (.int (g i j) s.toks) {s with toks:=s.toks+1}->AG (model X.prog X.w) X.A (f (.int i t) (.int j u)) Q E s):
 OpR X f (rI0 fun i j=> .int (g i j)):=by
 intro pins s σ H x y v u Q I rx ry h
 obtain⟨i,j,rfl,rfl,q⟩:=h
 obtain⟨t,rfl⟩:=rx
 obtain⟨t',rfl⟩:=ry
 exact rule i j t t' s _ _ ⟨.int (g i j),H,I.tok _,⟨_,rfl⟩,q⟩
theorem b7D{f:AA->AA->Sem AA}{g:Int->Int->Bool}
 (rule:∀(i j:Int) (t u:Tok) (s:AC) (Q:AA->AC->Prop) (E:AA->AC->Prop),Q (.bool (g i j)) s->AG (model X.prog X.w) X.A (f (.int i t) (.int j u)) Q E s):
 OpR X f (rI0 fun i j=> .bl (g i j)):=by
 intro pins s σ H x y v u Q I rx ry h
 obtain⟨i,j,rfl,rfl,q⟩:=h
 obtain⟨t,rfl⟩:=rx
 obtain⟨t',rfl⟩:=ry
 exact rule i j t t' s _ _ ⟨.bl (g i j),H,I,rfl,q⟩
def a62(i j:Int):Prop:=0<j/\j<1073741824
def b7l(i j:Int):Prop:=0<=j/\j<=1000000/\i.natAbs<2 ^ 64
def a53(i j:Int):Prop:=(-(2 ^ 64)<i/\i<2 ^ 64)\/(-(2 ^ 64)<j/\j<2 ^ 64)
theorem a53.ok{i j:Int}(h:a53 i j):IntMulOk i j:=by
 rcases h with⟨h1,h2⟩|⟨h1,h2⟩
 ·exact .of_left (intBits_le_64 h1 h2)
 ·exact .of_right (intBits_le_64 h1 h2)
theorem b6w:OpR X (binaryOp .Add) (rI0 fun i j=> .int (i+j)):=b7E fun _ _ _ _ _ _ _ q=>add_int q
theorem b6A:OpR X (binaryOp .Mult) (rI a53 fun i j=> .int (i*j)):=opI fun _ _ _ _ _ _ _ hc q=>mul_int q hc.ok
theorem b4x:OpR X (binaryOp .FloorDiv) (rI a62 fun i j=> .int (i / j)):=opI fun i j _ _ _ _ _ hc q=>by
 have h1:(0:Int)<j:=hc.1
 have h2:j<1073741824:=hc.2
 exact floordiv_int (by lia) (by rw [Int.fdiv_eq_ediv_of_nonneg i (by lia)];exact q) (.inl (PyProof.noPylong_small (by lia)))
theorem b6z:OpR X (binaryOp .Mod) (rI (fun _ j=>0<j) fun i j=> .int (i % j)):=opI fun i j _ _ _ _ _ hc q=>by
 have h1:(0:Int)<j:=hc
 exact mod_int' (by lia) (by rw [Int.fmod_eq_emod_of_nonneg i (by lia)];exact q)
theorem b35:OpR X (inplaceOp .Add) (rI0 fun i j=> .int (i+j)):=b7E fun _ _ _ _ _ _ _ q=>iadd_int q
theorem unI{f:AA->Sem AA}{g:Int->Int}
 (rule:∀(i:Int) (t:Tok) (s:AC) (Q:AA->AC->Prop) (E:AA->AC->Prop),Q (.int (g i) s.toks) {s with toks:=s.toks+1}->AG (model X.prog X.w) X.A (f (.int i t)) Q E s):
 UnR X f (rU fun i=> .int (g i)):=by
 intro pins s σ H x v Q I rx h
 obtain⟨i,rfl,q⟩:=h
 obtain⟨t,rfl⟩:=rx
 exact rule i t s _ _ ⟨.int (g i),H,I.tok _,⟨_,rfl⟩,q⟩
theorem b68:UnR X (unaryOp .USub) (rU fun i=> .int (-i)):=unI fun _ _ _ _ _ q=>neg_int q
end
section
variable {X:Cx}{a b c:AE}{ta tb tc:TE}{pos:Pos}
theorem a3W{pins:List (AB×Obj)}{σ:St}{H:Hp}{s:AC}{Q:VK}{k k':Bool}(I:i2 X pins σ H s)(q:Q (.bl k) H)(e:k=k'):EP X pins σ Q (.bool k') s:=by
 subst e
 exact⟨.bl k,H,I,rfl,q⟩
theorem b7G:OpR X (compareOp .Lt) (rI0 fun i j=> .bl (decide (i<j))):=b7D fun _ _ _ _ _ _ _ q=>lt_int q
theorem b7F:OpR X (compareOp .Gt) (rI0 fun i j=> .bl (decide (j<i))):=b7D fun _ _ _ _ _ _ _ q=>gt_int q
theorem b0O:OpR X (compareOp .Lt) (fun x y H Q=>∃i j,x= .str i/\y= .str j/\Q (.bl (decide (i.cps.toList<j.cps.toList))) H):=by
 intro pins s σ H x y v u Q I rx ry h
 obtain⟨i,j,rfl,rfl,q⟩:=h
 obtain⟨t,rfl⟩:=rx
 obtain⟨t',rfl⟩:=ry
 exact lt_str (a3W I q rfl)
theorem b0N:OpR X (compareOp .In) (fun x y H Q=>∃i j,x= .str i/\y= .str j/\Q (.bl (!(Builtin.Str.occurrences j i 0 j.length 1).isEmpty)) H):=by
 intro pins s σ H x y v u Q I rx ry h
 obtain⟨i,j,rfl,rfl,q⟩:=h
 obtain⟨t,rfl⟩:=rx
 obtain⟨t',rfl⟩:=ry
 exact in_str (a3W I q rfl)
theorem b6y:OpR X (compareOp .Is) (fun x y H Q=>y= .non/\Q (.bl (decide (x= .non))) H):=by
 intro pins s σ H x y v u Q I rx ry h
 obtain⟨rfl,q⟩:=h
 cases ry
 refine is_none_gen (a3W I q ?_)
 cases x<;>first
  |(cases rx;rfl)
  |(obtain⟨t,rfl⟩:=rx;rfl)
theorem b4y:OpR X (compareOp .IsNot) (fun x y H Q=>y= .non/\Q (.bl (!decide (x= .non))) H):=by
 intro pins s σ H x y v u Q I rx ry h
 obtain⟨rfl,q⟩:=h
 cases ry
 refine isnot_none_gen (a3W I q ?_)
 cases x<;>first
  |(cases rx;rfl)
  |(obtain⟨t,rfl⟩:=rx;rfl)
theorem a6J:OpR X (compareOp .NotIn) (fun x y H Q=>∃i j,x= .str i/\y= .str j/\Q (.bl (!(!(Builtin.Str.occurrences j i 0 j.length 1).isEmpty))) H):=by
 intro pins s σ H x y v u Q I rx ry h
 obtain⟨i,j,rfl,rfl,q⟩:=h
 obtain⟨t,rfl⟩:=rx
 obtain⟨t',rfl⟩:=ry
 exact notIn_str (a3W I q rfl)
theorem OpR.or{f:AA->AA->Sem AA}{r r':R2}(h:OpR X f r)(h':OpR X f r'):OpR X f (fun x y H Q=>r x y H Q\/r' x y H Q):=by
 intro pins s σ H x y v u Q I rx ry q
 rcases q with q|q
 ·exact h pins s σ H x y v u Q I rx ry q
 ·exact h' pins s σ H x y v u Q I rx ry q
theorem p0(b:AE){op:CmpOp}(h:op≠.In:=by decide)(h2:op≠.NotIn:=by decide):behindInMarks op b=false:=by
 have e1:(op==CmpOp.In)=false:=by cases op<;>first|rfl|exact absurd rfl h
 have e2:(op==CmpOp.NotIn)=false:=by cases op<;>first|rfl|exact absurd rfl h2
 cases b<;>simp [behindInMarks,e1,e2]
theorem b4F{op:CmpOp}{r:R2}(ho:OpR X (compareOp op) r)(ha:PE X a ta)(hb:PE X b tb)(hm:behindInMarks op b=false):PE X (.Compare a [op] [b] pos) (tOp r ta tb):=by
 intro pins s σ H Q I h
 exact wpAny_Compare1 (b5U ha hb I h fun v u s2 x y H2 I2 rx ry q=>ho pins s2 σ H2 x y v u Q I2 rx ry q) hm
def b7Y(t:TE):TT:=fun σ H Q=>t σ H fun x H'=>∃k,x= .bl k/\Q k H'
theorem b4P{op:CmpOp}{r:R2}(ho:OpR X (compareOp op) r)(ha:PE X a ta)(hb:PE X b tb)(hm:behindInMarks op b=false):PT X (.Compare a [op] [b] pos) (b7Y (tOp r ta tb)):=by
 intro pins s σ H Q I h
 refine wpAny_isTrue_Compare1 (B8 (ha pins s σ H _ I h) fun v s1 ⟨x,H1,I1,r1,q1⟩=>B8 (hb pins s1 σ H1 _ I1 q1) fun u s2 ⟨y,H2,I2,r2,q2⟩=>
  B8 (ho pins s2 σ H2 x y v u _ I2 r1 r2 q2) fun c s3 ⟨z,H3,I3,r3,k,e,q3⟩=> ?_) hm
 subst e
 cases r3
 exact wpAny_truthy_bool ⟨H3,I3,q3⟩
def b5Q(K:AD)(x:V)(H:Hp)(k:Bool):Prop:=
 match x with
 | .non=>k=false
 | .bl b=>k=b
 | .int i=>k=(i !=0)
 | .str y=>y.length<=AK/\k=((y.length:Int) !=0)
 | .byt y=>y.size<=AK/\k=((y.size:Int) !=0)
 | .ref p=>(∃xs,M2 K H p xs/\k= !xs.isEmpty)\/(∃xs,V5 K H p xs/\k= !xs.isEmpty)\/∃kvs,H p=some (.dK kvs)/\k= !kvs.isEmpty
 |_=>False
theorem a8M{κ:Type}{kvs:List (κ×V)}{vs:List (κ×AA)}(r:KV kvs vs):(!vs.isEmpty)= !kvs.isEmpty:=by
 cases r<;>rfl
theorem a37{xs:List V}{its:List AA}(r:i4 xs its):(!its.toArray.isEmpty)= !xs.isEmpty:=by
 cases r<;>simp
theorem a2n:(AK:Nat)<2 ^ 63:=by rw [sizeLine_eq];decide
theorem b67:b78 X (fun x H Q=>∃k,b5Q X.K x H k/\Q k H):=by
 intro pins s σ H x v Q I rx h
 obtain⟨k,e,q⟩:=h
 have hl:=a2n
 have hs:AK=16777216:=sizeLine_eq
 cases x with
 |non=>
  cases rx
  have e':k=false:=e
  subst e'
  exact truthy_none ⟨H,I,q⟩
 |bl b=>
  cases rx
  have e':k=b:=e
  subst e'
  exact wpAny_truthy_bool ⟨H,I,q⟩
 |int i=>
  obtain⟨t,rfl⟩:=rx
  have e':k=(i !=0):=e
  subst e'
  exact PySem.P.truthy_int ⟨H,I,q⟩
 |str y=>
  obtain⟨t,rfl⟩:=rx
  obtain⟨hy,e'⟩:y.length<=AK/\k=((y.length:Int) !=0):=e
  subst e'
  exact PySem.P.truthy_str (by lia) ⟨H,I.tok _,q⟩
 |byt y=>
  obtain⟨t,rfl⟩:=rx
  obtain⟨hy,e'⟩:y.size<=AK/\k=((y.size:Int) !=0):=e
  subst e'
  exact PySem.W.truthy_bytes (by lia) ⟨H,I.tok _,q⟩
 |ref p=>
  cases rx
  have e':(∃xs,M2 X.K H p xs/\k= !xs.isEmpty)\/(∃xs,V5 X.K H p xs/\k= !xs.isEmpty)\/∃kvs,H p=some (.dK kvs)/\k= !kvs.isEmpty:=e
  rcases e' with⟨xs,hx,e'⟩|⟨xs,hx,e'⟩|⟨kvs,hx,e'⟩
  ·subst e'
   obtain⟨its,r,pl,hz⟩:=I.list hx
   have hlen:=r.length
   exact wpAny_truthy_list pl.isList (by simp only [Ab];lia) ⟨H,I.tok _,by rw [a37 r];exact q⟩
  ·subst e'
   obtain⟨its,r,pl,hz⟩:=I.tuple hx
   have hlen:=r.length
   exact truthy_tuple pl (by simp only [Ab];lia) ⟨H,I.tok _,by rw [a37 r];exact q⟩
  ·subst e'
   obtain⟨hz,hS,vs,r,m⟩:kvs.length<=AK/\(p==sysModules)=false/\∃vs,KV kvs vs/\s.heap.DictOf (k4 X.prog X.w) p vs:=I.hok p _ hx
   have hlen:kvs.length=vs.length:=Paired.length r
   exact wpAny_truthy_dict hS m (by lia) ⟨H,I.tok _,by rw [a8M r];exact q⟩
 |_=>exact(show False from e).elim
theorem b2R(ha:PE X a ta)(he:∀whole,isTrue a X.env whole=(do let v<-whole;standAt a.pos;holding [v] (truthy v))):
 PT X a (fun σ H Q=>ta σ H fun x H'=>∃k,b5Q X.K x H' k/\Q k H'):=by
 intro pins s σ H Q I h
 exact isTrue_plain (B8 (ha pins s σ H _ I h) fun v s1 ⟨x,H1,I1,r1,q1⟩=>b67 pins s1 σ H1 x v Q I1 r1 q1) (he _)
theorem a87:OpR X (binaryOp .Add) (fun x y H Q=>∃i j,x= .str i/\y= .str j/\i.length+j.length<=AK/\Q (.str (i++j)) H):=by
 intro pins s σ H x y v u Q I rx ry h
 obtain⟨i,j,rfl,rfl,hz,q⟩:=h
 obtain⟨t,rfl⟩:=rx
 obtain⟨t',rfl⟩:=ry
 exact add_str (fun t' tk=>⟨.str (i++j),H,I.tok _,⟨_,rfl⟩,q⟩) hz
theorem a25{x:V}{us:List AA}(r:i4 [x] us):∃u,us=[u]/\l6 x u:=by
 cases r with
 |cons r1 r2=>cases r2;exact⟨_,rfl,r1⟩
end
structure b7m(h:Heap)(x dx C:AB)(mA:Str->Option AA):Prop where
 obj:h.get? x=some (PySem.W.instObj C dx)
 ns:h.Ns1 dx mA
 ne:dx≠x
theorem b0C{h:Heap}{dx:AB}{mA:Str->Option AA}(n:h.Ns1 dx mA):∃od,h.get? dx=some od/\∀name,PySem.W.lookIn name od=some (mA name):=by
 obtain⟨o,es,ep,ho,hd,hk,_,hm⟩:=n
 refine⟨o,ho,fun name=> ?_⟩
 have e:=hm name
 unfold nsFind findBy at e
 rw [<-Array.find?_toList] at e
 unfold PySem.W.lookIn
 rw [hd]
 dsimp only
 split
 ·rename_i y q
  rw [q] at e
  exact congrArg some e
 ·rename_i q
  rw [q] at e
  have a:es.toList.any (·.refKey)=false:=by
   rw [List.any_eq_false]
   intro y hy
   obtain⟨z,t,hkey⟩:=hk y (Array.mem_toList_iff.mp hy)
   simp [DictEntry.refKey,hkey]
  have a':¬es.toList.any (·.refKey)=true:=by rw [a];exact As
  rw [if_neg a']
  exact congrArg some e
theorem b7m.look{h:Heap}{x dx C:AB}{mA:Str->Option AA}(I:b7m h x dx C mA):∃od,PySem.W.InstAt h x (PySem.W.instObj C dx) C (some od)/\∀name,PySem.W.lookIn name od=some (mA name):=
 let ⟨od,ho,hl⟩:=b0C I.ns
 ⟨od,⟨I.obj,rfl,rfl,ho⟩,hl⟩
section
variable {prog:AL}{w:AJ}{A:AO}{E:AA->AC->Prop}{s:AC}{K:AD}{x dx C f:AB}{mA:Str->Option AA}{name:Str}{v:AA}
end
theorem a1e.some_of{v:V}{o:Option AA}(r:a1e (some v) o):∃u,o=some u/\l6 v u:=by
 cases o with
 |none=>exact(show False from r).elim
 |some u=>exact⟨u,rfl,r⟩
theorem a1e.none_of{o:Option AA}(r:a1e none o):o=none:=by
 cases o with
 |none=>rfl
 |some u=>exact(show False from r).elim
section
variable {P:AL}{w:AJ}{H H':Hp}{h h':Heap}{a C dx:AB}{fs fs':List (Str×V)}
end
structure Cls(K:AD)(C:AB):Prop where
 pg:PySem.W.plainGet K C Str.empty=true
 hd:PySem.W.hasDictIn K C=true
 po:PySem.W.plainOver K C=true
 sa:PySem.W.findIn K (.ref C) "__setattr__"=some (some (.builtin "object.__setattr__"))
theorem Cls.get{K:AD}{C:AB}(c:Cls K C)(f:Str):PySem.W.plainGet K C f=true:=c.pg
section
variable {X:Cx}{pins:List (AB×Obj)}{σ:St}{H:Hp}{s:AC}{a C dx:AB}{fs:List (Str×V)}{f:Str}{v:V}{A:AO}{E:AA->AC->Prop}
end
section
variable {X:Cx}{o e value:AE}{f:Str}{pos pos' tpos:Pos}{ta tv:TE}
end
section
variable {X:Cx}{pins:List (AB×Obj)}{σ:St}{H:Hp}{s:AC}{A:AO}{E:AA->AC->Prop}{Q:AA->AC->Prop}{c:AA}{b:Bool}
inductive a3A (K:AD) (H:Hp):V->AA->Prop where
 |non:a3A K H .non (.type "NoneType")
 |bl (x:Bool):a3A K H (.bl x) (.type "bool")
 |int (i:Int):a3A K H (.int i) (.type "int")
 |str (x:Str):a3A K H (.str x) (.type "str")
 |flt (x:UInt64):a3A K H (.flt x) (.type "float")
 |lst {a:AB} {xs:List V} (e:H a=some (.lst xs)):a3A K H (.ref a) (.type "list")
 |frz {a:AB} {o:Obj} {xs:List V} (e:H a=some (.frz o (.lst xs))):a3A K H (.ref a) (.type "list")
 |tup {a:AB} {xs:List V} (e:H a=some (.tup xs)):a3A K H (.ref a) (.type "tuple")
 |dK {a:AB} {kvs:List (f8×V)} (e:H a=some (.dK kvs)):a3A K H (.ref a) (.type "dict")
 |dT {a:AB} {kvs:List (List f8×V)} (e:H a=some (.dT kvs)):a3A K H (.ref a) (.type "dict")
 |ins {a C dx:AB} {fs:List (Str×V)} (e:H a=some (.ins C dx fs)) (cl:Cls K C) (ha:PySem.W.findIn K (.ref C) "__class__"=some (some (.builtin "object.__class__")))
  (hn:PySem.W.specialIn K (.builtin "object.__class__") "__get__"=some (some (.builtin "getset_descriptor.__get__"))) (htk:PySem.W.takesIn K (.builtin "object.__class__")=some true)
  (hm:PySem.W.mroIn K C (.type "object")=some true):a3A K H (.ref a) (.ref C)
end
structure E4(k:Nat)(A:AO):Prop where
 hd:A.handled=none
 dp:A.depth+3*k+5<recursionLimit
 un:A.units+16*k+200<cLine
theorem E4.mono{j k:Nat}{A:AO}(r:E4 k A)(h:j<=k):E4 j A:=⟨r.hd,by have:=r.dp;lia,by have:=r.un;lia⟩
theorem E4.deeper{k:Nat}{A:AO}(r:E4 (k+1) A)(env:Env):E4 k (A.deeper env):=
 ⟨r.hd,by have:=r.dp;show A.depth+1+3*k+5<_;lia,by have:=r.un;show A.units+3+16*k+200<_;lia⟩
theorem E4.in1{k:Nat}{A:AO}(r:E4 (k+1) A):E4 k A.in1:=
 ⟨r.hd,by have:=r.dp;show A.depth+3*k+5<_;lia,by have:=r.un;show A.units+1+16*k+200<_;lia⟩
theorem E4.depth{k:Nat}{A:AO}(r:E4 k A):A.depth<recursionLimit:=by have:=r.dp;lia
theorem E4.units{k:Nat}{A:AO}(r:E4 k A):A.units+64<cLine:=by have:=r.un;lia
def b7W:TA:=fun _ H Q=>Q [] H
def b5I(ta:TE)(tr:TA):TA:=fun σ H Q=>ta σ H fun x H1=>tr σ H1 fun xs H2=>Q (x::xs) H2
section
variable {X:Cx}{e:AE}{es:List AE}{te:TE}{t:TA}{pos:Pos}
theorem a4A:PA X [] b7W:=fun _ _ _ _ H Q I h=>Calls.spliced_nil ⟨[],H,I,.nil,h⟩
theorem a0p(ha:PE X e te)(hr:PA X es t)(hs:AX (e::es) X.env=(false,eval e X.env)::AX es X.env:=by rfl):PA X (e::es) (b5I te t):=by
 intro pos pins s σ H Q I h
 rw [hs]
 show AG _ _ (spliced ((false,eval e X.env)::backTo pos (AX es X.env))) _ _ s
 refine Calls.spliced_cons (B8 (ha pins s σ H _ I h) fun u s1 ⟨x,H1,I1,r1,q1⟩=> ?_)
 exact B8 (hr pos pins s1 σ H1 _ I1 q1) fun us s2 ⟨xs,H2,I2,r2,q2⟩=>⟨x::xs,H2,I2,.cons r1 r2,q2⟩
def b8B(t:TA):TE:=fun σ H Q=>t σ H fun xs H1=>xs.length<=AK/\∀p,H1 p=none->Q (.ref p) (upd H1 p (.tup xs))
def b8y(t:TA):TE:=fun σ H Q=>t σ H fun xs H1=>xs.length<=AK/\∀p,H1 p=none->Q (.ref p) (upd H1 p (.lst xs))
theorem a4D{x1}(h:PA X es t):PE X (.Tuple es x1 pos) (b8B t):=by
 intro pins s σ H Q I hq
 refine wpAny_Tuple_spliced (B8 (h pos pins s σ H _ I hq) fun us s1 ⟨xs,H1,I1,r,z,q⟩=>⟨by rw [<-r.length];exact z, ?_⟩)
 have hf:H1 s1.heap.objs.size=none:=I1.hok.fresh (AN _)
 refine⟨.ref s1.heap.objs.size,upd H1 s1.heap.objs.size (.tup xs),I1.laid (t':=s1.toks) (fun b u e=>Ae _ e) (AN _) ?_,rfl,q _ hf⟩
 exact⟨z,us,r,⟨_,Aw _ rfl,rfl,_,rfl⟩⟩
theorem b6I(h:PA X es t):PE X (.List es pos) (b8y t):=by
 intro pins s σ H Q I hq
 refine wpAny_List_spliced (B8 (h pos pins s σ H _ I hq) fun us s1 ⟨xs,H1,I1,r,z,q⟩=>⟨by rw [<-r.length];exact z, ?_⟩)
 have hf:H1 s1.heap.objs.size=none:=I1.hok.fresh (AN _)
 refine⟨.ref s1.heap.objs.size,upd H1 s1.heap.objs.size (.lst xs),I1.laid (t':=s1.toks) (fun b u e=>Ae _ e) (AN _) ?_,rfl,q _ hf⟩
 exact⟨z,us,0,r,Aw _ rfl⟩
end
abbrev Sp:=List V->Hp->VK->XK->Prop
abbrev CXT:=List Env->Hp->AC->XK->AA->AC->Prop
structure a8u(P:AL)(w:AJ)(K:AD)(mg:Str->Option AA)(base:Heap)(A:AO)(outer:List Env)(s:AC)(H:Hp):Prop where
 frames:A.frames=some outer
 mod:Mod K mg base
 bs:∀b o,base.get? b=some o->s.heap.get? b=some o/\H b=none
 bsz:base.objs.size<=s.heap.objs.size
 funs:s.heap.FunFrames base outer
 frf:∀b∈frs outer,H b=none
 hok:HOk P w H s.heap
 bare:AllBare s.gens
def CE(outer:List Env)(P:AL)(w:AJ)(H:Hp)(s:AC)(Q:VK)(u:AA)(s':AC):Prop:=
 ∃v H',s'.os=s.os/\AllBare s'.gens/\Un (frs outer) [] H H' s.heap s'.heap/\HOk P w H' s'.heap/\l6 v u/\Q v H'
def CR(CX:CXT)(outer:List Env)(P:AL)(w:AJ)(H:Hp)(s:AC)(Q:VK)(E:XK)(r:Result)(s':AC):Prop:=
 match r with
 | .ok (.ret u)=>CE outer P w H s Q u s'
 | .ok _=>False
 | .error e=>CX outer H s E e s'
structure O6(P:AL)(w:AJ)(K:AD)(mg:Str->Option AA)(base:Heap)(CX:CXT)(k:Nat)(f:AB)(fd:FuncData)(ps:List Str)(sp:Sp):Prop where
 len:∀vs H Q E,sp vs H Q E->vs.length=ps.length
 run:∀(A:AO) (outer:List Env) (s:AC) (H:Hp) (args:Args) (us:List AA) (vs:List V) (Q:VK) (E:XK),E4 k A->a8u P w K mg base A outer s H->BindsTo s fd args (ps.zip us)->i4 vs us->sp vs H Q E->
  codeAny (model P w) A (.call (.ref f) args) (CR CX outer P w H s Q E) s
theorem O6.mono{P:AL}{w:AJ}{K:AD}{mg:Str->Option AA}{base:Heap}{CX:CXT}{j k:Nat}{f:AB}{fd:FuncData}{ps:List Str}{sp:Sp}(F:O6 P w K mg base CX j f fd ps sp)(h:j<=k):
 O6 P w K mg base CX k f fd ps sp:=⟨F.len,fun A outer s H args us vs Q E hr=>F.run A outer s H args us vs Q E (hr.mono h)⟩
theorem O6.imp{P:AL}{w:AJ}{K:AD}{mg:Str->Option AA}{base:Heap}{CX:CXT}{k:Nat}{f:AB}{fd:FuncData}{ps:List Str}{sp sp':Sp}(F:O6 P w K mg base CX k f fd ps sp)
 (h:∀vs H Q E,sp' vs H Q E->sp vs H Q E):O6 P w K mg base CX k f fd ps sp':=
 ⟨fun vs H Q E q=>F.len vs H Q E (h _ _ _ _ q),fun A outer s H args us vs Q E hr he hb hv hs=>F.run A outer s H args us vs Q E hr he hb hv (h _ _ _ _ hs)⟩
theorem a8u.in1{P:AL}{w:AJ}{K:AD}{mg:Str->Option AA}{base:Heap}{A:AO}{outer:List Env}{s:AC}{H:Hp}(e:a8u P w K mg base A outer s H):
 a8u P w K mg base A.in1 outer s H:=⟨e.frames,e.mod,e.bs,e.bsz,e.funs,e.frf,e.hok,e.bare⟩
section
variable {X:Cx}{pins:List (AB×Obj)}{σ:St}{H:Hp}{s s':AC}
theorem i2.env0(I:i2 X pins σ H s):a8u X.prog X.w X.K X.mg X.base X.A X.stack s H:=
 ⟨I.ok.frames,I.ok.mod,I.bs,Nat.le_trans I.ok.bsz I.sz,I.stack,I.stkFree,I.hok,I.bare⟩
theorem i2.after{Q:VK}{u:AA}(I:i2 X pins σ H s)(h:CE X.stack X.prog X.w H s Q u s'):EP X pins σ Q u s':=by
 obtain⟨v,H',os,bare,un,hok,r,q⟩:=h
 obtain⟨hh,g,d,t,os'⟩:=s'
 obtain rfl:os'=s.os:=os
 exact⟨v,H',I.call (h':=hh) (g':=g) (d':=d) (t':=t) (ch:=[]) un hok bare (fun b z=>absurd z (by simp)),r,q⟩
end
def b7R(sp:Sp)(dvs:List V)(E:XK)(t:TA):TE:=fun σ H Q=>t σ H fun vs H1=>sp (vs++dvs) H1 Q E
def a2B(K:AD)(fd:FuncData)(ps:List Str)(ds:List AA):Prop:=
 ∀(s:AC) (us:List AA),K.In s.heap->(us++ds).length=ps.length->BindsTo s fd ⟨us,[]⟩ (ps.zip (us++ds))
theorem a2B.all{K:AD}{fd:FuncData}{ps:List Str}(h:∀us:List AA,us.length=ps.length->bindArgs fd ⟨us,[]⟩=pure (ps.zip us)):a2B K fd ps []:=fun s us _ hl=>by
 rw [Am] at hl ⊢
 exact .of_eq (h us hl)
def a8w(CX:CXT)(X:Cx)(E:XK):Prop:=∀(pins:List (AB×Obj)) (σ:St) (H:Hp) (s:AC) (e:AA) (s':AC),i2 X pins σ H s->CX X.stack H s E e s'->X.xe e s'
section
variable {X:Cx}{CX:CXT}{k:Nat}{f C:AB}{fd:FuncData}{ps:List Str}{sp:Sp}{dvs:List V}{ds:List AA}{E:XK}{x m:Str}{p pos apos:Pos}{e o:AE}{es:List AE}{ta:TE}{t:TA}
theorem b6U{pins:List (AB×Obj)}{σ:St}{H:Hp}{s:AC}{Q:VK}{us:List AA}{vs:List V}(F:O6 X.prog X.w X.K X.mg X.base CX k f fd ps sp)(hr:E4 k X.A)(hb:a2B X.K fd ps ds)(hd:i4 dvs ds)(hx:a8w CX X E)
 (I:i2 X pins σ H s) (r:i4 vs us) (h:sp (vs++dvs) H Q E):AG (model X.prog X.w) X.A (call (.ref f) us) (EP X pins σ Q) X.xe s:=by
 have r2:i4 (vs++dvs) (us++ds):=r.append hd
 have hl:(us++ds).length=ps.length:=by rw [<-r2.length];exact F.len _ _ _ _ h
 refine wpAny_call (codeAny_mono (F.run X.A X.stack s H ⟨us,[]⟩ (us++ds) (vs++dvs) Q E hr I.env0 (hb s us I.kIn hl) r2 h) fun r s' hq=> ?_)
 cases r with
 |error e=>exact hx pins σ H s e s' I hq
 |ok fl=>
  cases fl with
  |ret u=>exact I.after hq
  |next=>exact False.elim hq
  |brk=>exact False.elim hq
  |cont=>exact False.elim hq
theorem a6M(F:O6 X.prog X.w X.K X.mg X.base CX k f fd ps sp)(hr:E4 k X.A)(hg:Gl X x)(hm:X.mg x=some (.ref f))(hk:PySem.W.keepIn X.K (.ref f)=true)(hb:a2B X.K fd ps ds)(hd:i4 dvs ds)(hx:a8w CX X E)
 (ha:PA X (e::es) t) (hdb:(x==("__debug__":Str))=false:=by decide) (he:AX (e::es) X.env=(false,eval e X.env)::AX es X.env:=by rfl) (hpl:(backTo pos (AX es X.env)).any (·.1)=false:=by rfl):
 PE X (.Call (.Name x p) (e::es) [] pos) (b7R sp dvs E t):=by
 intro pins s σ H Q I h
 refine wpAny_Call_Name_kw (a3j I hg hm ?_ hdb)
 refine PySem.W.callWith_K (h₀:=X.base) I.ok.mod.kin hk (B8 (ha pos pins s σ H _ I h) fun us s1 ⟨vs,H1,I1,r,q⟩=>⟨I1.kIn, ?_⟩) he hpl
 exact b6U F hr hb hd hx I1 r q
end
section
variable {X:Cx}{CX:CXT}{k:Nat}{f C:AB}{fd:FuncData}{ps ks:List Str}{sp:Sp}{E:XK}{x m:Str}{p pos apos kpos:Pos}{e o:AE}{es:List AE}{kws:List Keyword}{te ta:TE}{t tk:TA}{nm:Option Str}
variable {g:List AA->List AA->List AA}{gV:List V->List V->List V}
end
structure j4(N P:List Str)(sc:Scope):Prop where
 kind:sc.kind= .function
 co:sc.isCoroutine=false
 gen:sc.isGenerator=false
 nd:N.Nodup
 pre:N.take P.length=P
 par:∀x∈P,sc.names.lookup x=some .local\/sc.names.lookup x=some .cell
 nofree:∀y∈sc.names,y.2≠.free
theorem a5p{kindOf:Str->Option NameKind}{x:Str}:∀{binds:List (Str×AA)} {m:Str->Option AA},(∀v,(x,v)∉binds)->bindL kindOf binds m x=m x
 |[],_,_=>rfl
 |(n,v)::r,m,h=>by
  unfold bindL
  rw [a5p fun w hw=>h w (Ai _ hw)]
  split
  ·have:x≠n:=by rintro rfl;exact h v Al
   simp [this]
  ·rfl
theorem a5n{kindOf:Str->Option NameKind}{x:Str}:∀{binds:List (Str×AA)} {m:Str->Option AA},(∀v,(x,v)∉binds)->bindC kindOf binds m x=m x
 |[],_,_=>rfl
 |(n,v)::r,m,h=>by
  unfold bindC
  rw [a5n fun w hw=>h w (Ai _ hw)]
  split
  ·rfl
  ·have:x≠n:=by rintro rfl;exact h v Al
   simp [this]
theorem a5o{kindOf:Str->Option NameKind}{x:Str}{v:AA}:∀{P:List Str} {vs:List AA} {i:Nat} {m:Str->Option AA},P.Nodup->P[i]?=some x->vs[i]?=some v->kindOf x=some .local->
 bindL kindOf (P.zip vs) m x=some v
 |[],_,_,_,_,h,_,_=>by simp at h
 |_::_,[],_,_,_,_,h,_=>by simp at h
 |p::P,w::vs,0,m,nd,h1,h2,hk=>by
  simp at h1 h2;subst h1;subst h2
  show bindL kindOf ((p,w)::P.zip vs) m p=_
  unfold bindL
  rw [a5p fun v hv=>(List.nodup_cons.mp nd).1 (List.of_mem_zip hv).1,if_pos hk]
  simp
 |p::P,w::vs,i+1,m,nd,h1,h2,hk=>by
  show bindL kindOf ((p,w)::P.zip vs) m x=_
  unfold bindL
  exact a5o (i:=i) (List.nodup_cons.mp nd).2 (by simpa using h1) (by simpa using h2) hk
theorem a5m{kindOf:Str->Option NameKind}{x:Str}{v:AA}:∀{P:List Str} {vs:List AA} {i:Nat} {m:Str->Option AA},P.Nodup->P[i]?=some x->vs[i]?=some v->kindOf x≠some .local->
 bindC kindOf (P.zip vs) m x=some v
 |[],_,_,_,_,h,_,_=>by simp at h
 |_::_,[],_,_,_,_,h,_=>by simp at h
 |p::P,w::vs,0,m,nd,h1,h2,hk=>by
  simp at h1 h2;subst h1;subst h2
  show bindC kindOf ((p,w)::P.zip vs) m p=_
  unfold bindC
  rw [a5n fun v hv=>(List.nodup_cons.mp nd).1 (List.of_mem_zip hv).1,if_neg hk]
  simp
 |p::P,w::vs,i+1,m,nd,h1,h2,hk=>by
  show bindC kindOf ((p,w)::P.zip vs) m x=_
  unfold bindC
  exact a5m (i:=i) (List.nodup_cons.mp nd).2 (by simpa using h1) (by simpa using h2) hk
def a0P(N:List Str)(vs:List V):St:=vs.map some++AV (N.length - vs.length) none
def a49(CX:CXT)(P:AL)(w:AJ)(K:AD)(mg:Str->Option AA)(base:Heap)(N:List Str)(qual:Str)(scope:Scope)(f:AB)(cd:AA)(A:AO)(outer:List Env)(s:AC)(H:Hp)(E:XK):Cx where
 prog:=P
 w:=w
 K:=K
 mg:=mg
 base:=base
 A:=A.deeper (envOfC qual scope s.heap.objs.size f cd)
 N:=N
 s₀:=s
 H₀:=H
 env:=envOfC qual scope s.heap.objs.size f cd
 outer:=outer
 stack:=envOfC qual scope s.heap.objs.size f cd::outer
 ex:=[]
 calm:=true
 fn:=fun _=>true
 pn:=[]
 xe:=fun e s'=>AG (model P w) (A.deeper (envOfC qual scope s.heap.objs.size f cd)) (leaving (envOfC qual scope s.heap.objs.size f cd) e) (fun _ s''=>CX outer H s E e s'') (fun e' s''=>CX outer H s E e' s'') s'
theorem a7i{sc:Scope}{n:Nat}{x:Str}(h:sc.names.lookup x=some .cell):∃c,(cellsFrom n sc.names []).lookup x=some c:=by
 have q:=PySem.W.cellsFrom_some sc.names n [] (.inl h)
 exact Option.isSome_iff_exists.mp q
theorem b0u{CX:CXT}{P:AL}{w:AJ}{K:AD}{mg:Str->Option AA}{base:Heap}{N ps:List Str}{qual:Str}{scope:Scope}{f:AB}{cd:AA}{A:AO}{outer:List Env}{s s1:AC}{H:Hp}{E:XK}{us:List AA}{vs:List V}
 (S:j4 N ps scope) (hd:A.handled=none) (e0:a8u P w K mg base A outer s H) (hl:vs.length=ps.length) (r:i4 vs us)
 (x:InCallC s s.heap.objs.size (bindL (envOfC qual scope s.heap.objs.size f cd).kindOf (ps.zip us) fun _=>none) (cellsFrom (s.heap.objs.size+1) scope.names []) (bindC (envOfC qual scope s.heap.objs.size f cd).kindOf (ps.zip us) fun _=>none) s1):
 i2 (a49 CX P w K mg base N qual scope f cd A outer s H E) [] (a0P N vs) H s1:=by
 have hpl:ps.length<=N.length:=by have:=congrArg List.length S.pre;rw [List.length_take] at this;lia
 obtain⟨h1,tk,rfl,hk⟩:=x.done
 have noA:∀b:AB,b∉(a49 CX P w K mg base N qual scope f cd A outer s H E).ex:=fun b z=>absurd (show b∈([]:List AB) from z) (by simp)
 refine⟨⟨e0.mod,S.kind,rfl,rfl,AN _,fun y z c h1 h2=> ?_,fun y hy=> ?_,fun y c _ h=> ?_,fun _=>hd,Around.frames_deeper e0.frames,.inr ⟨rfl,rfl⟩,fun b z=>absurd z (noA b),e0.bs,e0.bsz,fun b _ _=>noA b,fun b z=>absurd z (noA b),e0.funs,e0.frf⟩,
  rfl,e0.bare,Un.kept hk,⟨_,x.toInCall.ns,fun i y v h1 h2 h3=> ?_⟩,fun y c h=>⟨_,x.cell y c h⟩,e0.hok.fresh (AN _),fun y c h=> ?_,fun p hp=>absurd (show p∈([]:List (AB×Obj)) from hp) (by simp),e0.hok.kept hk, ?_⟩
 ·exact name_of_addr x.apart (PySem.mem_of_lookup h1) (PySem.mem_of_lookup h2)
 ·have hy:scope.names.lookup y=some .cell\/scope.names.lookup y=some .free:=hy
  rcases hy with hy|hy
  ·exact a7i hy
  ·exact absurd rfl (S.nofree _ (PySem.mem_of_lookup hy))
 ·exact BE (x.above y c (PySem.mem_of_lookup h))
 ·have hi:i<vs.length:=by
   unfold a0P at h2
   by_cases hi:i<vs.length
   ·exact hi
   ·rw [List.getElem?_append_right (by simpa using hi)] at h2
    rw [List.getElem?_replicate] at h2
    split at h2<;>cases h2
  have ha:vs[i]?=some v:=by
   unfold a0P at h2
   rw [BB (by simpa using hi),Aq] at h2
   cases e:vs[i]? with
   |none=>rw [e] at h2;cases h2
   |some a=>rw [e] at h2;cases h2;rfl
  obtain⟨u,hu,rv⟩:=r.get ha
  have hp:ps[i]?=some y:=by
   rw [<-S.pre,List.getElem?_take_of_lt (by lia)];exact h1
  have ndP:ps.Nodup:=by rw [<-S.pre];exact S.nd.sublist (List.take_sublist _ _)
  refine⟨u,rv, ?_⟩
  rcases S.par y (Au hp) with k|k
  ·exact .inl ⟨k,a5o ndP hp hu k⟩
  ·obtain⟨c,e⟩:=a7i (n:=s.heap.objs.size+1) k
   refine .inr ⟨.inl k,c,e, ?_⟩
   have q:=x.cell y c e
   rw [a5m ndP hp hu (by show scope.names.lookup y≠_;rw [k];decide)] at q
   exact q
 ·exact e0.hok.fresh (BE (x.above y c (PySem.mem_of_lookup h)))
 ·unfold a0P
  show _=N.length
  rw [AZ,AU,List.length_replicate]
  lia
theorem b7w{CX:CXT}{P:AL}{w:AJ}{K:AD}{mg:Str->Option AA}{base:Heap}{k:Nat}{f:AB}{name qual:Str}{params:Arguments}{body:List Stmt}{scope:Scope}{dV kV doc pm cdv ct oc:AA}{an od:Option AB}
 {osl:Array (Option AA)} {N ps:List Str} {sp:Sp} (lk:K.lookup f=some ⟨oc,od,.func (PySem.W.fnOf name qual params body scope dV kV doc pm an cdv ct),osl⟩) (hcd:PySem.W.codeIn K cdv qual=true) (S:j4 N ps scope)
 (len:∀vs H Q E,sp vs H Q E->vs.length=ps.length)
 (hbody:∀(A:AO) (outer:List Env) (s:AC) (H:Hp) (vs:List V) (Q:VK) (E:XK),E4 k (A.deeper (envOfC qual scope s.heap.objs.size f cdv))->sp vs H Q E->
  ∃t,PSs (a49 CX P w K mg base N qual scope f cdv A outer s H E) body t/\t {nx:=fun _ H'=>Q .non H',rt:=Q} (a0P N vs) H):
 O6 P w K mg base CX (k+1) f (PySem.W.fnOf name qual params body scope dV kV doc pm an cdv ct) ps sp:=by
 refine⟨len,fun A outer s H args us vs Q E hr e0 hb r hsp=> ?_⟩
 have hl:=len _ _ _ _ hsp
 have KX:K.In s.heap:=e0.mod.kin.keeps fun b o e=>(e0.bs b o e).1
 have lim:s.heap.NoLimit:=e0.mod.nolimit.keeps fun b o e=>(e0.bs b o e).1
 have hkind:∀y∈ps.zip us,scope.names.lookup y.1=some .local\/(scope.names.lookup y.1=some .cell/\((cellsFrom (s.heap.objs.size+1) scope.names []).lookup y.1).isSome=true):=fun⟨n,v⟩ hy=>by
  rcases S.par n (List.of_mem_zip hy).1 with q|q
  ·exact .inl q
  ·exact .inr ⟨q,PySem.W.cellsFrom_some _ _ _ (.inl q)⟩
 refine codeAny_call_function hr.depth (KX _ _ lk) rfl S.co S.gen rfl (PySem.W.codeRec_of KX hcd) (hb _ _ _ _ ?_)
 refine wpAny_newFunctionEnv_cells S.kind hkind fun env he s1 x=> ?_
 subst he
 refine⟨lim.keeps x.toInCall.keep,codeAny_func ?_⟩
 obtain⟨t,ht,hq⟩:=hbody A outer s H vs Q E (hr.deeper _) hsp
 have I:i2 (a49 CX P w K mg base N qual scope f cdv A outer s H E) [] (a0P N vs) H s1:=b0u S hr.hd e0 hl r x
 refine wpAny_mono (ht [] s1 (a0P N vs) H _ I hq) (fun fl s' hs=> ?_) fun e s' hs=>hs
 have fin:∀{σ':St} {H':Hp} {v:V} {u:AA},i2 (a49 CX P w K mg base N qual scope f cdv A outer s H E) [] σ' H' s'->l6 v u->Q v H'->CE outer P w H s Q u s':=
  fun {σ' H' v u} J rv q=>⟨v,H',J.os,J.bare,J.base,J.hok,rv,q⟩
 cases fl with
 |ret u=>
  obtain⟨v,σ',H',J,rv,q⟩:=hs
  exact fin J rv q
 |next=>
  obtain⟨σ',H',J,q⟩:=hs
  exact fin (v:=V.non) (u:=Value.none) J rfl q
 |brk=>
  obtain⟨_,_,_,q⟩:=hs
  exact False.elim q
 |cont=>
  obtain⟨_,_,_,q⟩:=hs
  exact False.elim q
section
variable {X:Cx}{x:Str}{p pos:Pos}{e:AE}{es:List AE}{t:TA}{id T:String}{r:List V->Hp->VK->Prop}
def tCB(r:List V->Hp->VK->Prop)(t:TA):TE:=fun σ H Q=>t σ H fun vs H1=>r vs H1 Q
theorem b2I(hc:E3 X (.builtin id) r)(hg:Gl X x)(hm:X.mg x=none)(hv:bootBuiltins x=some (.builtin id))(ha:PA X (e::es) t)(hn:x≠"__name__":=by decide)(hdb:(x==("__debug__":Str))=false:=by decide)
 (he:AX (e::es) X.env=(false,eval e X.env)::AX es X.env:=by rfl) (hpl:(backTo pos (AX es X.env)).any (·.1)=false:=by rfl):PE X (.Call (.Name x p) (e::es) [] pos) (tCB r t):=by
 intro pins s σ H Q I h
 refine wpAny_Call_Name_kw (a6w I hg hm hv ?_ hn hdb)
 exact PyProof.Rows.callWith_builtin1 (B8 (ha pos pins s σ H _ I h) fun us s1 ⟨vs,H1,I1,r1,q1⟩=>hc pins s1 σ H1 vs us Q I1 r1 q1) he hpl
theorem b0Q(hc:E3 X (.type T) r)(hg:Gl X x)(hm:X.mg x=none)(hv:bootBuiltins x=some (.type T))(ha:PA X (e::es) t)(hn:x≠"__name__":=by decide)(hdb:(x==("__debug__":Str))=false:=by decide)
 (he:AX (e::es) X.env=(false,eval e X.env)::AX es X.env:=by rfl) (hpl:(backTo pos (AX es X.env)).any (·.1)=false:=by rfl):PE X (.Call (.Name x p) (e::es) [] pos) (tCB r t):=by
 intro pins s σ H Q I h
 refine wpAny_Call_Name_kw (a6w I hg hm hv ?_ hn hdb)
 exact PyProof.Rows.callWith_type1 (B8 (ha pos pins s σ H _ I h) fun us s1 ⟨vs,H1,I1,r1,q1⟩=>hc pins s1 σ H1 vs us Q I1 r1 q1) he hpl
end
end L2
namespace HT
open PySem PyProof.Rows
section
open PySem.SeqAt
open PySem.AutoSeq1 (wpAny_loadPart')
open PySem.MeetsSeq PySem.MeetsSeq2 PySem.MeetsSeq3
end
section
variable {prog:AL}{w:AJ}{A:AO}{E:AA->AC->Prop}{s:AC}
theorem cat_tup{t b:AB}{vs ws:List AA}{Q:AA->AC->Prop}(ht:IsTup s.heap t vs.toArray)(hb:IsTup s.heap b ws.toArray)(hv:vs≠[])
 (h1:ws=[]->Q (.ref t) s) (h2:ws≠[]->Q (.ref s.heap.objs.size) {s with heap:=s.heap.push {cls:= .type "tuple",data:= .seq (vs++ws).toArray}})
 (hsz:vs.length+ws.length<=AK):AG (model prog w) A (binaryOp .Add (.ref t) (.ref b)) Q E s:=by
 obtain⟨⟨cls,dd,data,sl⟩,ho,hc,n,hd⟩:=id ht
 obtain⟨⟨cls2,dd2,data2,sl2⟩,ho2,hc2,n2,hd2⟩:=id hb
 simp only at hc hd hc2 hd2
 subst hc hd hc2 hd2
 have e:vs.toArray++ws.toArray=(vs++ws).toArray:=by simp
 by_cases hw:ws=[]
 ·exact concat_meets ⟨_,ho,rfl⟩ ⟨_,ho2,rfl⟩ noFill_tuple_add seq_tuple_add PySem.F.slot_tuple_add PySem.F.entry_tuple_add (PySem.F.args_tuple_add_2 _ _)
   (tuple_addW1 t b vs.toArray ws.toArray n n2 dd dd2 sl sl2 (by simpa using hv) (by simp [hw])) ⟨ho,ho2,h1 hw⟩
 ·refine concat_meets ⟨_,ho,rfl⟩ ⟨_,ho2,rfl⟩ noFill_tuple_add seq_tuple_add PySem.F.slot_tuple_add PySem.F.entry_tuple_add (PySem.F.args_tuple_add_2 _ _)
   (tuple_addW2 t b vs.toArray ws.toArray n n2 dd dd2 sl sl2 (by simpa using hv) (by simpa using hw) (by rw [Ab,Ab];exact hsz)) ⟨ho,ho2, ?_⟩
  rw [e]
  exact h2 hw
def sIx(n d:Nat):Option Int->Nat
 |none=>d
 |some v=>if v<0 then(v+(n:Int)).toNat else min v.toNat n
theorem sIx_none(n d:Nat):sIx n d none=d:=rfl
theorem sIx_nat(n d k:Nat):sIx n d (some (k:Int))=min k n:=by
 show(if(k:Int)<0 then((k:Int)+(n:Int)).toNat else min (k:Int).toNat n)=min k n
 rw [if_neg (by lia),BG]
theorem sIx_le(n d:Nat)(hd:d<=n)(o:Option Int):sIx n d o<=n:=by
 cases o with
 |none=>exact hd
 |some v=>
  show(if v<0 then(v+(n:Int)).toNat else min v.toNat n)<=n
  by_cases hv:v<0
  ·rw [if_pos hv];lia
  ·rw [if_neg hv];exact Nat.min_le_right _ _
theorem a9u(v:Int)(n d:Nat):(if v<0 then max (v+(n:Int)) 0 else min v (n:Int))=((sIx n d (some v):Nat):Int):=by
 show(if v<0 then max (v+(n:Int)) 0 else min v (n:Int))=(((if v<0 then(v+(n:Int)).toNat else min v.toNat n):Nat):Int)
 by_cases hv:v<0
 ·simp only [if_pos hv];lia
 ·simp only [if_neg hv];lia
theorem a8y(lo hi:Option Int)(n:Nat):Builtin.Slice.sliceAdjust lo hi 1 (n:Int)=(((sIx n 0 lo:Nat):Int),((sIx n n hi:Nat):Int)):=by
 have h1:¬((1:Int)<0):=by lia
 unfold Builtin.Slice.sliceAdjust
 simp only [h1,if_false]
 refine Prod.ext ?_ ?_
 ·cases lo with
  |none=>rfl
  |some v=>exact a9u v n 0
 ·cases hi with
  |none=>rfl
  |some v=>exact a9u v n n
theorem a9a(i j:Nat):Builtin.Slice.slicePlaces (i:Int) (j:Int) 1=j - i:=by
 unfold Builtin.Slice.slicePlaces
 have h1:(1:Int)>0:=by lia
 simp only [h1,if_true,Int.ediv_one]
 split<;>lia
theorem a4S{v:AA}{o:Option Int}{Q:Option Int->AC->Prop}(p:IsPart v o)(h:Q o s):AG (model prog w) A (Builtin.Slice.slicePartIndex v) Q E s:=by
 cases p with
 |none=>exact slicePart_none h
 |int i t=>exact slicePart_int h
theorem sliceApplied_gen{sl:AB}{vl vu:AA}{lo hi:Option Int}{n:Nat}{Q:Int×Int×Nat->AC->Prop}(hs:s.heap.IsSliceOf sl vl vu .none)(pl:IsPart vl lo)(pu:IsPart vu hi)
 (h:Q (((sIx n 0 lo:Nat):Int),1,sIx n n hi - sIx n 0 lo) s):AG (model prog w) A (Builtin.Slice.sliceApplied (.ref sl) (pure (n:Int))) Q E s:=by
 obtain⟨os,hos,hcs,hds⟩:=id hs
 unfold Builtin.Slice.sliceApplied Builtin.Slice.sliceFields
 refine AF (AF (wpAny_field hos hds (x:=vl) rfl (AF (wpAny_field hos hds (x:=vu) rfl (AF (wpAny_field hos hds (x:= .none) rfl (AQ ?_)))))))
 refine AF (slicePart_none ?_)
 show AG _ _ (if((1:Int)==0)=true then _ else _) _ _ s
 rw [if_neg (by decide)]
 refine AF (a4S pl (AF (a4S pu (AF (AQ ?_)))))
 show AG _ _ (match Builtin.Slice.sliceAdjust lo hi 1 (n:Int) with|(lo,hi)=>pure (lo,(1:Int),Builtin.Slice.slicePlaces lo hi 1)) _ _ s
 rw [a8y lo hi n]
 show AG _ _ (pure (((sIx n 0 lo:Nat):Int),(1:Int),Builtin.Slice.slicePlaces ((sIx n 0 lo:Nat):Int) ((sIx n n hi:Nat):Int) 1)) _ _ s
 rw [a9a]
 exact AQ h
theorem b2P(xs:Array AA)(i k:Nat):((AW k).filterMap fun(m:Nat)=>xs[((i:Int)+(m:Int)*1).toNat]?).toArray=((xs.toList.drop i).take k).toArray:=by
 have e:(fun(m:Nat)=>xs[((i:Int)+(m:Int)*1).toNat]?)=fun m=>xs[i+m]?:=by
  funext m
  have:((i:Int)+(m:Int)*1).toNat=i+m:=by lia
  rw [this]
 rw [e]
 have:=pick_run xs i k
 rw [List.filterMap_map] at this
 have e2:((fun x=>xs[x]?)∘fun x=>i+x)=fun m=>xs[i+m]?:=rfl
 rw [e2] at this
 rw [this]
theorem getItem_tuple_cut{t sl:AB}{items:Array AA}{vl vu:AA}{lo hi:Option Int}{Q:AA->AC->Prop}(ht:IsTup s.heap t items)(hs:s.heap.IsSliceOf sl vl vu .none)(pl:IsPart vl lo)(pu:IsPart vu hi)
 (hw:¬(sIx items.size 0 lo=0/\sIx items.size items.size hi=items.size))
 (h:Q (.ref s.heap.objs.size) {s with heap:=s.heap.push {cls:= .type "tuple",data:= .seq ((items.toList.drop (sIx items.size 0 lo)).take (sIx items.size items.size hi - sIx items.size 0 lo)).toArray}})
 (hsz:items.size<=AK):AG (model prog w) A (getItem (.ref t) (.ref sl)) Q E s:=by
 have htake:sizeOk (.seq ((items.toList.drop (sIx items.size 0 lo)).take (sIx items.size items.size hi - sIx items.size 0 lo)).toArray):=by
  show((items.toList.drop (sIx items.size 0 lo)).take (sIx items.size items.size hi - sIx items.size 0 lo)).toArray.size<=AK
  rw [Ab,List.length_take,List.length_drop,Array.length_toList]
  lia
 have hj:sIx items.size items.size hi<=items.size:=sIx_le _ _ (AN _) hi
 obtain⟨os,hos,hcs,hds⟩:=id hs
 have hTs:s.TypeIs (.ref sl) "slice":=⟨os,hos,hcs⟩
 unfold getItem
 try with_reducible refine wpAny_holding ?_
 first|refine AF (AQ ?_)|skip
 refine AF (wpAny_sequenceKey ht.typeIs (by decide) ?_)
 refine AF (wpAny_callSpecial?_slot (name:=AI "__getitem__") ht.typeIs PyProof.Rows.slot_tuple_getitem
  (wpAny_call_entry PyProof.Rows.slot_tuple_getitem ht.typeIs entry_tuple_getitem ?_ (args_tuple_getitem _ _)))
 show AG _ _ (Builtin.Tuple.tupleItemsOf (.ref t)>>=_) _ _ s
 refine AF (tupleItemsOf_ ht ?_)
 refine AF (wpAny_typeOf hTs ?_)
 rw [if_pos (by decide)]
 refine AF (sliceApplied_gen hs pl pu ?_)
 have hno:¬((((sIx items.size 0 lo:Nat):Int)==0 &&(1:Int)==1 &&(sIx items.size items.size hi - sIx items.size 0 lo)==items.size)=true):=by
  intro q
  rw [Bool.and_eq_true,Bool.and_eq_true] at q
  have q1:((sIx items.size 0 lo:Nat):Int)=0:=eq_of_beq q.1.1
  have q2:sIx items.size items.size hi - sIx items.size 0 lo=items.size:=eq_of_beq q.2
  exact hw ⟨by lia,by lia⟩
 show AG _ _ (if(((sIx items.size 0 lo:Nat):Int)==0 &&(1:Int)==1 &&(sIx items.size items.size hi - sIx items.size 0 lo)==items.size)=true then _ else _) _ _ s
 rw [if_neg hno,b2P]
 first
  |exact AF (m:=Builtin.Tuple.tupleExact _) (wpAny_newObj_type (AQ ⟨_,rfl,AQ h⟩) htake)
  |exact AF (m:=Builtin.Tuple.tupleExact _) (wpAny_newObj_type (AF (AQ (AQ ⟨_,rfl,AQ h⟩))) htake)
  |exact AF (AF (m:=Builtin.Tuple.tupleExact _) (wpAny_newObj_type (AQ (AQ ⟨_,rfl,AQ h⟩)) htake))
  |exact AF (AF (m:=Builtin.Tuple.tupleExact _) (wpAny_newObj_type (AQ ⟨_,rfl,AQ h⟩) htake))
end
end HT
namespace L2
open PySem PySem.Spec PyProof.Rows
abbrev TO:=St->Hp->(Option Int->Hp->Prop)->Prop
def PO(X:Cx)(e:Option AE)(t:TO):Prop:=
 ∀(pins:List (AB×Obj)) (s:AC) (σ:St) (H:Hp) (Q:Option Int->Hp->Prop),i2 X pins σ H s->t σ H Q->
  AG (model X.prog X.w) X.A (evalPart e X.env) (fun u s'=>∃o H',i2 X pins σ H' s'/\IsPart u o/\Q o H') X.xe s
def b48:TO:=fun _ H Q=>Q none H
def b7X(t:TE):TO:=fun σ H Q=>t σ H fun x H1=>∃i,x= .int i/\Q (some i) H1
section
variable {X:Cx}{e:AE}{te:TE}{lo hi:Option AE}{tl th:TO}{pos p2:Pos}
theorem b4M:PO X none b48:=by
 intro pins s σ H Q I h
 rw [evalPart_none]
 exact AQ ⟨none,H,I,.none,h⟩
theorem b4N(h:PE X e te):PO X (some e) (b7X te):=by
 intro pins s σ H Q I hw
 rw [evalPart_some]
 refine B8 (h pins s σ H _ I hw) fun u s1 ⟨x,H1,I1,r1,q1⟩=> ?_
 obtain⟨i,rfl,q⟩:=q1
 obtain⟨t,rfl⟩:=r1
 exact⟨some i,H1,I1,.int i t,q⟩
def SlR(X:Cx)(r:V->Option Int->Option Int->Hp->VK->Prop):Prop:=
 ∀(pins:List (AB×Obj)) (s:AC) (σ:St) (H:Hp) (x:V) (v vl vu:AA) (lo hi:Option Int) (sl:AB) (Q:VK),i2 X pins σ H s->l6 x v->s.heap.IsSliceOf sl vl vu .none->IsPart vl lo->IsPart vu hi->r x lo hi H Q->
  ∃T id,typeLookup (.type T) "__getitem__"=pure (some (.builtin id))/\s.TypeIs v T/\AG (model X.prog X.w) X.A (getItem v (.ref sl)) (EP X pins σ Q) X.xe s
theorem SlR.or{r r':V->Option Int->Option Int->Hp->VK->Prop}(h:SlR X r)(h':SlR X r'):SlR X (fun x lo hi H Q=>r x lo hi H Q\/r' x lo hi H Q):=by
 intro pins s σ H x v vl vu lo hi sl Q I rx hs pl pu q
 rcases q with q|q
 ·exact h pins s σ H x v vl vu lo hi sl Q I rx hs pl pu q
 ·exact h' pins s σ H x v vl vu lo hi sl Q I rx hs pl pu q
def tSl(r:V->Option Int->Option Int->Hp->VK->Prop)(te:TE)(tl th:TO):TE:=fun σ H Q=>te σ H fun x H1=>tl σ H1 fun l H2=>th σ H2 fun u H3=>r x l u H3 Q
theorem b2K{r:V->Option Int->Option Int->Hp->VK->Prop}(hr:SlR X r)(he:PE X e te)(hl:PO X lo tl)(hu:PO X hi th):PE X (.Subscript e (.Slice lo hi none p2) pos) (tSl r te tl th):=by
 intro pins s σ H Q I h
 refine Subscript_ (B8 (he pins s σ H _ I h) fun v s1 ⟨x,H1,I1,r1,q1⟩=> ?_)
 refine wpAny_Slice (B8 (hl pins s1 σ H1 _ I1 q1) fun vl s2 ⟨l,H2,I2,pl,q2⟩=>B8 (hu pins s2 σ H2 _ I2 q2) fun vu s3 ⟨u,H3,I3,pu,q3⟩=> ?_)
 rw [evalPart_none]
 refine AQ ?_
 have I4:i2 X pins σ H3 {s3 with heap:=s3.heap.push {cls:= .type "slice",data:= .fields #[vl,vu,.none]}}:=I3.kept (t':=s3.toks) fun b ob q=>Ae _ q
 obtain⟨T,id,hT,ht,hg⟩:=hr pins {s3 with heap:=s3.heap.push {cls:= .type "slice",data:= .fields #[vl,vu,.none]}} σ H3 x v vl vu l u s3.heap.objs.size Q I4 r1 (Heap.IsSliceOf.new ..) pl pu q3
 show AG (model X.prog X.w) X.A (subscriptTail e (.Slice lo hi none p2) v (.ref s3.heap.objs.size)) (EP X pins σ Q) X.xe {s3 with heap:=s3.heap.push {cls:= .type "slice",data:= .fields #[vl,vu,.none]}}
 exact tail_any (ops:=[.ref s3.heap.objs.size,v]) ht hT hg (by with_unfolding_all rfl)
def b3E(xs:List V)(lo hi:Option Int):List V:=(xs.drop (HT.sIx xs.length 0 lo)).take (HT.sIx xs.length xs.length hi - HT.sIx xs.length 0 lo)
theorem a7n(xs:List V)(lo hi:Option Int):(b3E xs lo hi).length<=xs.length:=by
 unfold b3E
 rw [List.length_take,List.length_drop]
 lia
def b8s(K:AD):V->Option Int->Option Int->Hp->VK->Prop:=fun x lo hi H Q=>∃a xs,x= .ref a/\V5 K H a xs/\
 ¬(HT.sIx xs.length 0 lo=0/\HT.sIx xs.length xs.length hi=xs.length)/\∀p,H p=none->Q (.ref p) (upd H p (.tup (b3E xs lo hi)))
theorem b6Y:SlR X (b8s X.K):=by
 intro pins s σ H x v vl vu lo hi sl Q I rx hs pl pu h
 obtain⟨a,xs,rfl,hx,hw,q⟩:=h
 cases rx
 obtain⟨its,r,ht,hz⟩:=I.tuple hx
 have hlen:its.toArray.size=xs.length:=by rw [Ab];exact r.length.symm
 refine⟨"tuple",_,PyProof.Rows.slot_tuple_getitem.lookup,ht.typeIs, ?_⟩
 refine HT.getItem_tuple_cut ht hs pl pu (by rw [hlen];exact hw) ?_ (by rw [hlen];exact hz)
 rw [hlen]
 refine⟨.ref s.heap.objs.size,_,I.laid (t':=s.toks) (o:= .tup (b3E xs lo hi)) (fun b ob q=>Ae _ q) (AN _) ?_,rfl,q _ (I.hok.fresh (AN _))⟩
 exact⟨Nat.le_trans (a7n xs lo hi) hz,_,(r.drop (HT.sIx xs.length 0 lo)).take (HT.sIx xs.length xs.length hi - HT.sIx xs.length 0 lo),IsTup.new _ _⟩
def b7N(K:AD):R2:=fun x y H Q=>∃a b xs ys,x= .ref a/\y= .ref b/\V5 K H a xs/\V5 K H b ys/\xs≠[]/\xs.length+ys.length<=AK/\
 (ys=[]->Q (.ref a) H)/\(ys≠[]->∀p,H p=none->Q (.ref p) (upd H p (.tup (xs++ys))))
theorem i4.nil_iff{xs:List V}{us:List AA}(r:i4 xs us):us=[]↔xs=[]:=by
 cases r with
 |nil=>simp
 |cons _ _=>simp
theorem b4w:OpR X (binaryOp .Add) (b7N X.K):=by
 intro pins s σ H x y v u Q I rx ry h
 obtain⟨a,b,xs,ys,rfl,rfl,ha,hb,hx,hz,q1,q2⟩:=h
 cases rx
 cases ry
 obtain⟨its,r1,p1,_⟩:=I.tuple ha
 obtain⟨its2,r2,p2,_⟩:=I.tuple hb
 refine HT.cat_tup p1 p2 (fun z=>hx (r1.nil_iff.mp z)) (fun z=>⟨.ref a,H,I,rfl,q1 (r2.nil_iff.mp z)⟩) (fun z=> ?_) (by rw [<-r1.length,<-r2.length];exact hz)
 refine⟨.ref s.heap.objs.size,_,I.laid (t':=s.toks) (o:= .tup (xs++ys)) (fun b ob q=>Ae _ q) (AN _) ?_,rfl,q2 (fun w=>z (r2.nil_iff.mpr w)) _ (I.hok.fresh (AN _))⟩
 exact⟨by rw [AZ];exact hz,_,r1.append r2,IsTup.new _ _⟩
end
def ixN(n:Nat)(i:Int):Option Nat:=if 0<=i then(if i<n then some i.toNat else none) else if -(n:Int)<=i then some (i+n).toNat else none
def atI{α:Type}(xs:List α)(i:Int):Option α:=(ixN xs.length i).bind fun j=>xs[j]?
theorem b37{n:Nat}{i:Int}{j:Nat}(h:ixN n i=some j):seqIndex? i n=some j/\j<n/\ -(n:Int)<=i/\i<n:=by
 unfold ixN at h
 by_cases h0:0<=i
 ·rw [if_pos h0] at h
  by_cases h1:i<n
  ·rw [if_pos h1] at h
   have e:i.toNat=j:=Option.some.inj h
   exact⟨by rw [seqIndex_of h0 h1,e],by lia,by lia,h1⟩
  ·rw [if_neg h1] at h;cases h
 ·rw [if_neg h0] at h
  by_cases h1: -(n:Int)<=i
  ·rw [if_pos h1] at h
   have e:(i+n).toNat=j:=Option.some.inj h
   exact⟨by rw [seqIndex_neg (by lia) h1,e],by lia,h1,by lia⟩
  ·rw [if_neg h1] at h;cases h
theorem a59{α:Type}{xs:List α}{i:Int}{v:α}(h:atI xs i=some v):∃j,seqIndex? i xs.length=some j/\xs[j]?=some v/\j<xs.length/\ -(xs.length:Int)<=i/\i<xs.length:=by
 unfold atI at h
 cases e:ixN xs.length i with
 |none=>rw [e] at h;cases h
 |some j=>
  rw [e] at h
  obtain⟨h1,h2,h3,h4⟩:=b37 e
  exact⟨j,h1,h,h2,h3,h4⟩
def a9s(b:AE):Prop:=∀o i,subscripted b false o i=operate [o,i] (getItem o i)
def IxR(X:Cx)(r:R2):Prop:=
 ∀(value slice:AE) (pins:List (AB×Obj)) (s:AC) (σ:St) (H:Hp) (x y:V) (v u:AA) (Q:VK),i2 X pins σ H s->l6 x v->l6 y u->r x y H Q->
  subscripted slice false v u=operate [v,u] (getItem v u)->AG (model X.prog X.w) X.A (subscriptTail value slice v u) (EP X pins σ Q) X.xe s
def MtR(X:Cx)(id:String)(r:V->List V->Hp->VK->Prop):Prop:=
 ∀(pins:List (AB×Obj)) (s:AC) (σ:St) (H:Hp) (x:V) (xs:List V) (v:AA) (us:List AA) (Q:VK),i2 X pins σ H s->l6 x v->i4 xs us->r x xs H Q->
  AG (model X.prog X.w) X.A (call (.builtin id) (v::us)) (EP X pins σ Q) X.xe s
section
variable {X:Cx}{a b:AE}{ta tb:TE}{pos:Pos}
theorem IxR.or{r r':R2}(h:IxR X r)(h':IxR X r'):IxR X (fun x y H Q=>r x y H Q\/r' x y H Q):=by
 intro value slice pins s σ H x y v u Q I rx ry q hs
 rcases q with q|q
 ·exact h value slice pins s σ H x y v u Q I rx ry q hs
 ·exact h' value slice pins s σ H x y v u Q I rx ry q hs
theorem MtR.or{id:String}{r r':V->List V->Hp->VK->Prop}(h:MtR X id r)(h':MtR X id r'):MtR X id (fun x xs H Q=>r x xs H Q\/r' x xs H Q):=by
 intro pins s σ H x xs v us Q I rx rs q
 rcases q with q|q
 ·exact h pins s σ H x xs v us Q I rx rs q
 ·exact h' pins s σ H x xs v us Q I rx rs q
theorem b7J{r:R2}(hr:IxR X r)(ha:PE X a ta)(hb:PE X b tb)(hs:a9s b):PE X (.Subscript a b pos) (tOp r ta tb):=by
 intro pins s σ H Q I h
 exact Subscript_ (b5U ha hb I h fun v u s2 x y H2 I2 rx ry q=>hr a b pins s2 σ H2 x y v u Q I2 rx ry q (hs _ _))
def b8n(K:AD):R2:=fun x y H Q=>∃p xs i v,x= .ref p/\y= .int i/\M2 K H p xs/\atI xs i=some v/\Q v H
def b8p(K:AD):R2:=fun x y H Q=>∃p xs i v,x= .ref p/\y= .int i/\V5 K H p xs/\atI xs i=some v/\Q v H
def b8o:R2:=fun x y H Q=>∃z i c,x= .str z/\y= .int i/\z.length<=AK/\atI z.cps.toList i=some c/\Q (.str ⟨#[c]⟩) H
theorem b38:IxR X (b8n X.K):=by
 intro value slice pins s σ H x y v u Q I rx ry h hs
 obtain⟨p,xs,i,z,rfl,rfl,hq,he,q⟩:=h
 cases rx
 obtain⟨t,rfl⟩:=ry
 obtain⟨its,r,pl,hz⟩:=I.list hq
 obtain⟨j,h1,h2,h3,h4,h5⟩:=a59 he
 obtain⟨w,ew,rw'⟩:=r.get h2
 have hl:=r.length
 have hn:=a2n
 have fin:EP X pins σ Q w s:=⟨z,H,I,rw',q⟩
 by_cases h0:0<=i
 ·have hj:i.toNat=j:=by
   rw [seqIndex_of h0 h5] at h1
   exact Option.some.inj h1
  exact item_listR pl.isList h0 (by lia) (by rw [hj];simpa using ew) fin hs
 ·have hj:(i+(its.toArray.size:Int)).toNat=j:=by
   rw [seqIndex_neg (by lia) h4] at h1
   rw [Ab,<-hl]
   exact Option.some.inj h1
  exact subscriptTail_builtinR (x:=w) pl.isList.typeIs slot_list_getitem.lookup
   (wpAny_getItem_list_neg (Q:=fun r s'=>r=w/\EP X pins σ Q r s') pl.isList (by lia) (by rw [Ab]<;>lia) (by lia) (by rw [hj];simpa using ew) ⟨rfl,fin⟩) hs
theorem b6i:IxR X (b8p X.K):=by
 intro value slice pins s σ H x y v u Q I rx ry h hs
 obtain⟨p,xs,i,z,rfl,rfl,hq,he,q⟩:=h
 cases rx
 obtain⟨t,rfl⟩:=ry
 obtain⟨its,r,pl,hz⟩:=I.tuple hq
 obtain⟨j,h1,h2,h3,h4,h5⟩:=a59 he
 obtain⟨w,ew,rw'⟩:=r.get h2
 have hl:=r.length
 have hn:=a2n
 have fin:EP X pins σ Q w s:=⟨z,H,I,rw',q⟩
 exact subscriptTail_builtinR (x:=w) pl.typeIs slot_tuple_getitem.lookup
  (getItem_tuple (j:=j) (Q:=fun r s'=>r=w/\EP X pins σ Q r s') pl (by lia) (by lia) (by rw [Ab,<-hl];exact h1) (by simpa using ew) ⟨rfl,fin⟩) hs
theorem b6h:IxR X b8o:=by
 intro value slice pins s σ H x y v u Q I rx ry h hs
 obtain⟨z,i,c,rfl,rfl,hz,he,q⟩:=h
 obtain⟨t,rfl⟩:=rx
 obtain⟨t',rfl⟩:=ry
 obtain⟨j,h1,h2,h3,h4,h5⟩:=a59 he
 have hl:z.cps.toList.length=z.length:=by simp [Str.length]
 rw [hl] at h1 h4 h5
 have hn:=a2n
 exact tail_any (typeIs_str s z t) slot_str_getitem.lookup (getItem_str (c:=c) (by
  have e1:decide (i< -(2 ^ 63:Int))=false:=decide_eq_false (by lia)
  have e2:decide (i>=2 ^ 63)=false:=decide_eq_false (by lia)
  rw [e1,e2,Bool.or_false]) (by rw [h1];simpa using h2) ⟨.str ⟨#[c]⟩,H,I.tok _,⟨_,rfl⟩,q⟩) hs
theorem i2.lst{pins:List (AB×Obj)}{σ:St}{H:Hp}{s:AC}{p:AB}{xs:List V}(I:i2 X pins σ H s)(h:H p=some (.lst xs)):
 ∃(its:List AA) (n:Nat),i4 xs its/\s.heap.get? p=some {cls:= .type "list",data:= .seq its.toArray n}/\xs.length<=AK:=by
 obtain⟨z,its,n,r,e⟩:=I.hok p _ h
 exact⟨its,n,r,e,z⟩
theorem a6R(lo hi:Option Int)(n:Nat):(sliceBounds lo hi none n).1=((HT.sIx n 0 lo:Nat):Int)/\(sliceBounds lo hi none n).2.1=((HT.sIx n n hi:Nat):Int)/\(sliceBounds lo hi none n).2.2=1:=by
 refine⟨?_, ?_,rfl⟩
 ·cases lo with
  |none=>simp [sliceBounds,HT.sIx]
  |some i=>
   simp only [sliceBounds,HT.sIx,Option.getD_none,show(1:Int)>0 by decide,if_true]
   by_cases h:i<0
   ·simp only [h,if_true]<;>lia
   ·simp only [h,if_false]<;>lia
 ·cases hi with
  |none=>simp [sliceBounds,HT.sIx]
  |some i=>
   simp only [sliceBounds,HT.sIx,Option.getD_none,show(1:Int)>0 by decide,if_true]
   by_cases h:i<0
   ·simp only [h,if_true]<;>lia
   ·simp only [h,if_false]<;>lia
theorem a0O(its:List AA)(lo hi:Option Int):slicePick its.toArray lo hi none=((its.drop (HT.sIx its.length 0 lo)).take (HT.sIx its.length its.length hi - HT.sIx its.length 0 lo)).toArray:=by
 obtain⟨h1,h2,h3⟩:=a6R lo hi its.toArray.size
 unfold slicePick
 rw [h1,h2,h3]
 simp only [sliceRange_one,pick_run,Ab]<;>rfl
theorem a6a:E3 X (.builtin "len") (fun xs H Q=>∃p ys,xs=[.ref p]/\(M2 X.K H p ys\/V5 X.K H p ys)/\Q (.int ys.length) H):=by
 intro pins s σ H xs us Q I r h
 obtain⟨p,ys,rfl,hq,q⟩:=h
 obtain⟨u,rfl,rx⟩:=a25 r
 cases rx
 have hn:=a2n
 rcases hq with hq|hq
 ·obtain⟨its,r',pl,hz⟩:=I.list hq
  have hlen:=r'.length
  exact Calls.call_len_list pl.isList (by simp only [Ab]<;>lia) ⟨.int ys.length,H,I.tok _,⟨s.toks+1,by rw [Ab,hlen]⟩,q⟩
 ·obtain⟨its,r',pl,hz⟩:=I.tuple hq
  have hlen:=r'.length
  exact len_tuple pl (by simp only [Ab]<;>lia) ⟨.int ys.length,H,I.tok _,⟨s.toks+1,by rw [Ab,hlen]⟩,q⟩
theorem a6b:E3 X (.builtin "len") (fun xs H Q=>∃z,xs=[.str z]/\z.length<=AK/\Q (.int z.length) H):=by
 intro pins s σ H xs us Q I r h
 obtain⟨z,rfl,hz,q⟩:=h
 obtain⟨u,rfl,t,rfl⟩:=a25 r
 have hn:=a2n
 exact len_str (by lia) ⟨.int z.length,H,I.tok _,⟨_,rfl⟩,q⟩
theorem E3.or{f:AA}{r r':List V->Hp->VK->Prop}(h:E3 X f r)(h':E3 X f r'):E3 X f (fun xs H Q=>r xs H Q\/r' xs H Q):=by
 intro pins s σ H xs us Q I rs q
 rcases q with q|q
 ·exact h pins s σ H xs us Q I rs q
 ·exact h' pins s σ H xs us Q I rs q
theorem a6c:E3 X (.type "list") (fun xs H Q=>∃p ys,xs=[.ref p]/\(M2 X.K H p ys\/V5 X.K H p ys)/\∀l,H l=none->Q (.ref l) (upd H l (.lst ys))):=by
 intro pins s σ H xs us Q I r h
 obtain⟨p,ys,rfl,hq,q⟩:=h
 obtain⟨u,rfl,rx⟩:=a25 r
 cases rx
 have fin:∀(its:List AA),i4 ys its->ys.length<=AK->∀(h':Heap) (c':Nat),(∀b o',s.heap.get? b=some o'->h'.get? b=some o')->
  h'.get? s.heap.objs.size=some {cls:= .type "list",dict:=none,data:= .seq its.toArray c',slots:= #[]}->EP X pins σ Q (.ref s.heap.objs.size) {s with heap:=h'}:=fun its r' hz h' c' kp e=>
  ⟨.ref s.heap.objs.size,_,I.laid (t':=s.toks) kp (AN _) (show v7 X.prog X.w _ h' _ (.lst ys) from⟨hz,its,c',r',e⟩),rfl,q _ (I.hok.fresh (AN _))⟩
 rcases hq with hq|hq
 ·obtain⟨its,r',pl,hz⟩:=I.list hq
  have hlen:=r'.length
  obtain⟨o,ho,hc,n,hd⟩:=pl.isList
  exact call_list_seq p (.inl rfl) ho hc hd (fun h' c' kp e=>fin its r' hz h' c' kp e) (by simp only [Ab]<;>lia)
 ·obtain⟨its,r',pl,hz⟩:=I.tuple hq
  have hlen:=r'.length
  obtain⟨o,ho,hc,n,hd⟩:=pl
  exact call_list_seq p (.inr rfl) ho hc hd (fun h' c' kp e=>fin its r' hz h' c' kp e) (by simp only [Ab]<;>lia)
theorem a47:E3 X (.type "tuple") (fun xs H Q=>∃p ys,xs=[.ref p]/\((M2 X.K H p ys/\∀l,H l=none->Q (.ref l) (upd H l (.tup ys)))\/(V5 X.K H p ys/\Q (.ref p) H))):=by
 intro pins s σ H xs us Q I r h
 obtain⟨p,ys,rfl,h⟩:=h
 obtain⟨u,rfl,rx⟩:=a25 r
 cases rx
 rcases h with⟨hq,q⟩|⟨hq,q⟩
 ·obtain⟨its,r',pl,hz⟩:=I.list hq
  have hlen:=r'.length
  refine call_tuple_list pl.isList (fun h' kp=> ?_) (by simp only [Ab]<;>lia)
  have I1:i2 X pins σ H {s with heap:=h'}:=I.kept (t':=s.toks) kp
  have I2:i2 X pins σ (upd H h'.objs.size (.tup ys)) {s with heap:=h'.push {cls:= .type "tuple",data:= .seq its.toArray}}:=
   I1.laid (t':=s.toks) (fun b o e=>Ae _ e) (AN _) (show v7 X.prog X.w _ _ _ (.tup ys) from⟨hz,its,r',IsTup.new _ _⟩)
  exact⟨.ref h'.objs.size,_,I2,rfl,q _ (I1.hok.fresh (AN _))⟩
 ·obtain⟨its,r',pl,hz⟩:=I.tuple hq
  exact call_tuple_same pl ⟨.ref p,H,I,rfl,q⟩
def tyV(K:AD)(T:String)(x:V)(H:Hp):Prop:=match x with
 | .str _=>T="str"
 | .int _=>T="int"
 | .ref p=>(T="list"/\∃xs,M2 K H p xs)\/(T="tuple"/\∃o,K.lookup p=some o/\o.cls= .type "tuple"/\o.dict=none)\/
  (T="dict"/\((∃kvs,H p=some (.dK kvs))\/∃kvs,H p=some (.dT kvs)))\/(T="set"/\∃S n,H p=some (.set S n))
 |_=>False
theorem b3l{pins:List (AB×Obj)}{σ:St}{H:Hp}{s:AC}{T:String}{x:V}{v:AA}(I:i2 X pins σ H s)(r:l6 x v)(ty:tyV X.K T x H):
 s.TypeIs v T/\∀a,v= .ref a->∃ob,s.heap.get? a=some ob/\ob.dict=none:=by
 cases x with
 |str z=>
  obtain⟨t,rfl⟩:=r
  cases(show T="str" from ty)
  exact⟨typeIs_str s z t,fun _ e=>nomatch e⟩
 |int i=>
  obtain⟨t,rfl⟩:=r
  cases(show T="int" from ty)
  exact⟨typeIs_int s i t,fun _ e=>nomatch e⟩
 |ref p=>
  cases r
  rcases ty with⟨rfl,xs,hq⟩|⟨rfl,o,hk,hc,hd⟩|⟨rfl,hk⟩|⟨rfl,S,n,hk⟩
  ·obtain⟨its,_,pl,_⟩:=I.list hq
   refine⟨pl.isList.typeIs,fun a e=> ?_⟩
   cases e
   obtain⟨o,n,e,c,hd,_⟩:=pl
   exact⟨o,e,hd⟩
  ·refine⟨⟨o,I.kIn p o hk,hc⟩,fun a e=> ?_⟩
   cases e
   exact⟨o,I.kIn _ o hk,hd⟩
  ·have z:∃o,s.heap.get? p=some o/\o.ExactDict:=by
    rcases hk with⟨kvs,hk⟩|⟨kvs,hk⟩
    ·obtain⟨_,_,_,_,o,_,_,e,ex,_⟩:=I.hok p _ hk
     exact⟨o,e,ex⟩
    ·obtain⟨_,_,_,_,o,_,_,e,ex,_⟩:=I.hok p _ hk
     exact⟨o,e,ex⟩
   obtain⟨o,e,ex⟩:=z
   refine⟨⟨o,e,ex.1⟩,fun a e2=> ?_⟩
   cases e2
   exact⟨o,e,ex.2.1⟩
  ·obtain⟨o,_,_,_,e,ex,_⟩:=I.hok p _ hk
   refine⟨⟨o,e,ex.1⟩,fun a e2=> ?_⟩
   cases e2
   exact⟨o,e,ex.2.1⟩
 |_=>exact False.elim ty
def b8u(K:AD)(T:String)(r:V->List V->Hp->VK->Prop)(to:TE):TE:=fun σ H Q=>to σ H fun x H1=>tyV K T x H1/\r x [] H1 Q
def tBM(K:AD)(T:String)(r:V->List V->Hp->VK->Prop)(to:TE)(t:TA):TE:=fun σ H Q=>to σ H fun x H1=>tyV K T x H1/\t σ H1 fun xs H2=>r x xs H2 Q
variable {o e:AE}{es:List AE}{to:TE}{t:TA}{name:Str}{apos cpos:Pos}{T id:String}{r:V->List V->Hp->VK->Prop}
theorem b6F(pa:PlainAttrs T)(slot:Slot T name id)(hty:typeOf (.builtin id)=pure (.type "method_descriptor"))(hm:MtR X id r)(ho:PE X o to)
 (hbase:attributeBase o name X.env (eval o X.env)=eval o X.env:=by rfl) (hline:(apos.endLine==cpos.line)=true:=by rfl):PE X (.Call (.Attribute o name apos) [] [] cpos) (b8u X.K T r to):=by
 intro pins s σ H Q I h
 refine wpAny_Call_method0_late hbase hline (B8 (ho pins s σ H _ I h) fun v s1 ⟨x,H1,I1,r1,ty,q1⟩=> ?_)
 obtain⟨h1,h2⟩:=b3l I1 r1 ty
 exact⟨T,id,pa,slot,hty,h1,h2,Calls.callWith_builtin rfl (PySem.evalArgs_none (hm pins s1 σ H1 x [] v [] Q I1 r1 .nil q1))⟩
theorem b7I(pa:PlainAttrs T)(slot:Slot T name id)(hty:typeOf (.builtin id)=pure (.type "method_descriptor"))(hm:MtR X id r)(ho:PE X o to)(ha:PA X (e::es) t)
 (hbase:attributeBase o name X.env (eval o X.env)=eval o X.env:=by rfl)
 (hfew:((backTo cpos (AX (e::es) X.env)).all (fun x=> !x.1)&&(backToKw cpos (keywordEach [] X.env)).all (fun x=>x.1.isSome)
  && decide ((e::es).length+([]:List Keyword).length+(if([]:List Keyword).isEmpty then 0 else 1)<30))=true:=by rfl)
 (hline:(apos.endLine==cpos.line)=true:=by rfl) (hs:AX (e::es) X.env=(false,eval e X.env)::AX es X.env:=by rfl) (hplain:(backTo cpos (AX es X.env)).any (·.1)=false:=by rfl):
 PE X (.Call (.Attribute o name apos) (e::es) [] cpos) (tBM X.K T r to t):=by
 intro pins s σ H Q I h
 refine wpAny_Call_method_late hbase hfew hline rfl (B8 (ho pins s σ H _ I h) fun v s1 ⟨x,H1,I1,r1,ty,q1⟩=> ?_)
 obtain⟨h1,h2⟩:=b3l I1 r1 ty
 refine⟨T,id,pa,slot,hty,h1,h2, ?_⟩
 have hA:=ha cpos pins s1 σ H1 _ I1 q1
 rw [hs] at hA ⊢
 refine Calls.callWith_builtin (by show(false||(backTo cpos (AX es X.env)).any (·.1))=false;rw [hplain]<;>rfl) (Calls.evalArgs_plain ?_)
 exact B8 hA fun us s2 ⟨vs,H2,I2,r2,q2⟩=>hm pins s2 σ H2 x vs v us Q I2 r1 r2 q2
end
def MtM(X:Cx)(id:String)(r:V->List V->Hp->VK->Prop):Prop:=
 ∀(pins:List (AB×Obj)) (s:AC) (σ:St) (H:Hp) (x:V) (xs:List V) (v:AA) (us:List AA) (Q:VK),i2 X pins σ H s->l6 x v->i4 xs us->r x xs H Q->
  AG (model X.prog X.w) X.A (call (.builtin id) (v::us)) (EP X pins σ Q) X.xe s
theorem i4.one:∀{x:V} {us:List AA},i4 [x] us->∃u,us=[u]/\l6 x u
 |_,_,.cons r .nil=>⟨_,rfl,r⟩
theorem i4.zero:∀{us:List AA},i4 [] us->us=[]
 |_,.nil=>rfl
theorem i4.dropLast{xs:List V}{us:List AA}(h:i4 xs us):i4 xs.dropLast us.dropLast:=by
 induction h with
 |nil=>exact .nil
 |cons r t ih=>
  cases t with
  |nil=>exact .nil
  |cons q t'=>exact .cons r ih
theorem i4.eraseIdx:∀{xs:List V} {us:List AA} (i:Nat),i4 xs us->i4 (xs.eraseIdx i) (us.eraseIdx i)
 |_,_,_,.nil=> .nil
 |_,_,0,.cons _ t=>t
 |_,_,i+1,.cons r t=> .cons r (i4.eraseIdx i t)
theorem i4.reverse{xs:List V}{us:List AA}(h:i4 xs us):i4 xs.reverse us.reverse:=by
 induction h with
 |nil=>exact .nil
 |cons r t ih=>rw [List.reverse_cons,List.reverse_cons];exact i4.append ih (.cons r .nil)
theorem i4.rep{xs:List V}{us:List AA}(h:i4 xs us):∀k:Nat,i4 (AV k xs).flatten (AV k us).flatten
 |0=> .nil
 |k+1=>by
  rw [Ac,Ac,List.flatten_cons,List.flatten_cons]
  exact i4.append h (i4.rep h k)
theorem a8H{α:Type}(l:List α):l.eraseIdx (l.length - 1)=l.dropLast:=by
 induction l with
 |nil=>rfl
 |cons a r ih=>
  cases r with
  |nil=>rfl
  |cons b r=>
   have e:(a::b::r).length - 1=((b::r).length - 1)+1:=by
    have h1:(a::b::r).length=r.length+2:=rfl
    have h2:(b::r).length=r.length+1:=rfl
    lia
   rw [e,List.eraseIdx_cons_succ,ih]
   all_goals rfl
theorem a2a(its:List AA):∀(k:Nat) (acc:List AA),
 List.foldl (fun x1 x2=>x1++x2) acc.toArray (AV k its.toArray)=(acc++(AV k its).flatten).toArray
 |0,acc=>by simp
 |k+1,acc=>by
  have e:acc.toArray++its.toArray=(acc++its).toArray:=by simp
  have e2:(acc++its)++(AV k its).flatten=acc++(AV (k+1) its).flatten:=by
   rw [Ac,List.flatten_cons,List.append_assoc]
  rw [<-e2,<-a2a its k (acc++its),<-e,Ac,List.foldl_cons]
section
variable {X:Cx}{pins:List (AB×Obj)}{σ:St}{H:Hp}{s:AC}{l b:AB}{xs ys zs:List V}
theorem i2.lset{its its':List AA}{n:Nat}{f:Array AA->Array AA}{t':Nat}(I:i2 X pins σ H s)(hH:H l=some (.lst xs))
 (e:s.heap.get? l=some {cls:= .type "list",data:= .seq its.toArray n}) (hf:f its.toArray=its'.toArray) (hv:i4 ys its') (hz:ys.length<=AK):
 i2 X pins σ (upd H l (.lst ys)) {s with heap:=s.heap.update l (Obj.mapSeq f),toks:=t'}:=by
 have q:=PySem.IsL.update e f
 rw [hf] at q
 refine I.write (x:=l) (e:=l) (by rw [hH];exact trivial) (.inl rfl) (fun b' u hb hu=>(Heap.get?_update_other s.heap (Obj.mapSeq f) (Ne.symm hb)).trans hu) ⟨_,q⟩ ?_
 exact⟨hz,its',_,hv,q⟩
theorem i2.lnew{its:List AA}{t':Nat}(I:i2 X pins σ H s)(hv:i4 ys its)(hz:ys.length<=AK):
 i2 X pins σ (upd H s.heap.objs.size (.lst ys)) {s with heap:=s.heap.push {cls:= .type "list",data:= .seq its.toArray},toks:=t'}:=
 I.laid (fun _ _ q=>Ae _ q) (AN _) ⟨hz,its,0,hv,Aw _ rfl⟩
theorem i2.fresh(I:i2 X pins σ H s):H s.heap.objs.size=none:=I.hok.fresh (AN _)
theorem i2.lstM(I:i2 X pins σ H s)(hH:H l=some (.lst xs)):xs.length<=AK/\∃(its:List AA) (n:Nat),i4 xs its/\xs.length=its.length/\s.heap.get? l=some {cls:= .type "list",data:= .seq its.toArray n}:=by
 obtain⟨z,its,n,r,e⟩:=I.hok l _ hH
 exact⟨z,its,n,r,r.length,e⟩
theorem b2x{n:Nat}(h:n<=AK):Builtin.List.listTooLong n=false:=by
 unfold Builtin.List.listTooLong
 exact decide_eq_false (by lia)
end
section
variable {X:Cx}
def b4R:V->List V->Hp->VK->Prop:=fun x vs H Q=>∃l xs y,x= .ref l/\vs=[y]/\H l=some (.lst xs)/\xs.length<AK/\Q .non (upd H l (.lst (xs++[y])))
theorem a5K:MtM X "list.append" b4R:=by
 intro pins s σ H x vs v us Q I rx rv h
 obtain⟨l,xs,y,rfl,rfl,hH,hz,q⟩:=h
 cases rx
 obtain⟨u,rfl,ru⟩:=rv.one
 obtain⟨z,its,n,r,hl,e⟩:=I.lstM hH
 refine call_meets F.slot_list_append ⟨_,e,rfl⟩ F.entry_list_append (F.args_list_append_2 _ _) (PySem.list_append l its.toArray n u (by rw [Ab];lia)) ⟨e, ?_⟩
 refine⟨.non,_,I.lset (its':=its++[u]) hH e (by simp) (r.append (.cons ru .nil)) ?_,rfl,q⟩
 rw [AZ,List.length_singleton]
 lia
def b8q:V->List V->Hp->VK->Prop:=fun x vs H Q=>∃l xs y,x= .ref l/\vs=[]/\H l=some (.lst xs)/\xs[xs.length - 1]?=some y/\Q y (upd H l (.lst xs.dropLast))
theorem b6q:MtM X "list.pop" b8q:=by
 intro pins s σ H x vs v us Q I rx rv h
 obtain⟨l,xs,y,rfl,rfl,hH,hy,q⟩:=h
 cases rx
 have hus:=rv.zero
 subst hus
 obtain⟨z,its,n,r,hl,e⟩:=I.lstM hH
 obtain⟨u,hu,ru⟩:=r.get hy
 have hy':its.toArray[its.toArray.size - 1]?=some u:=by
  show its.toArray[its.length - 1]?=some u
  rw [<-Array.getElem?_toList,<-hl]
  exact hu
 refine call_meets F.slot_list_pop ⟨_,e,rfl⟩ F.entry_list_pop (F.args_list_pop_1 _) (MeetsSeq.list_pop_last l its.toArray n u hy' (by rw [Ab];lia)) ⟨e, ?_⟩
 refine⟨y,_,I.lset (its':=its.dropLast) hH e ?_ r.dropLast ?_,ru,q⟩
 ·show its.toArray.eraseIdxIfInBounds (its.toArray.size - 1)=its.dropLast.toArray
  rw [Ab,List.eraseIdxIfInBounds_toArray,a8H]
 ·rw [List.length_dropLast]
  lia
def b8m:R2:=fun x y H Q=>∃l b xs zs,x= .ref l/\y= .ref b/\H l=some (.lst xs)/\H b=some (.lst zs)/\xs.length+zs.length<=AK/\∀p,H p=none->Q (.ref p) (upd H p (.lst (xs++zs)))
theorem b6x:OpR X (binaryOp .Add) b8m:=by
 intro pins s σ H x y v u Q I rx ry h
 obtain⟨l,b,xs,zs,rfl,rfl,hH,hB,hz,q⟩:=h
 cases rx
 cases ry
 obtain⟨z,its,n,r,hl,e⟩:=I.lstM hH
 obtain⟨z2,its2,n2,r2,hl2,e2⟩:=I.lstM hB
 refine PySem.P.add_list e e2 ?_ (by rw [Ab,Ab];lia)
 have ea:its.toArray++its2.toArray=(its++its2).toArray:=by simp
 rw [ea]
 exact⟨.ref _,_,I.lnew (t':=s.toks) (r.append r2) (by rw [AZ];lia),rfl,q _ I.fresh⟩
def b8r:R2:=fun x y H Q=>∃l k xs,x= .ref l/\y= .int k/\H l=some (.lst xs)/\ -(2 ^ 63)<=k/\k<2 ^ 63/\xs.length*k.toNat<=AK/\
 ∀p,H p=none->Q (.ref p) (upd H p (.lst (AV k.toNat xs).flatten))
theorem a6x{α:Type}(xs:List α)(k:Nat):(AV k xs).flatten.length=k*xs.length:=by
 induction k with
 |zero=>simp
 |succ k ih=>rw [Ac,List.flatten_cons,AZ,ih,Nat.succ_mul,Nat.add_comm]
theorem b6B:OpR X (binaryOp .Mult) b8r:=by
 intro pins s σ H x y v u Q I rx ry h
 obtain⟨l,k,xs,rfl,rfl,hH,h1,h2,hz,q⟩:=h
 cases rx
 obtain⟨t,rfl⟩:=ry
 obtain⟨z,its,n,r,hl,e⟩:=I.lstM hH
 have hlen:its.toArray.size*k.toNat<=AK:=by rw [Ab,<-hl];exact hz
 have hcap:¬its.toArray.size*k.toNat>(2 ^ 63 - 1)/ 8:=by
  have:(AK:Nat)<=(2 ^ 63 - 1)/ 8:=by decide
  lia
 have hfit:¬(!Builtin.List.listFitsIndex k)=true:=by
  rw [fitsIndex_both h1 h2]
  exact As
 have hlong:¬Builtin.List.listTooLong (its.toArray.size*k.toNat)=true:=by
  rw [b2x hlen]
  exact As
 have hnew:List.foldl (fun x1 x2=>x1++x2) #[] (AV (if its.toArray.isEmpty=true then 0 else k.toNat) its.toArray)=(AV k.toNat its).flatten.toArray:=by
  have f0:∀m:Nat,List.foldl (fun x1 x2=>x1++x2) #[] (AV m its.toArray)=(AV m its).flatten.toArray:=fun m=>by
   have:=a2a its m []
   rw [Ak] at this
   exact this
  rw [f0]
  cases its with
  |nil=>simp
  |cons a r'=>rw [if_neg (by simp)]
 refine wpAny_binaryOp_repeat_ref (T:="list") (U:="int") (by decide) ⟨_,e,rfl⟩ (fun s'=>typeIs_int s' k t) noFill_list_mul F.fills_int_mul F.slot_int_rmul repeat_list F.slot_int_index.lookup
  (call_meets F.slot_int_rmul (typeIs_int s k t) F.entry_int_rmul (F.args_int_rmul_2 _ _) (int___rmul___int_list k t l its.toArray n)
   ⟨e,rfl,⟨_,e,rfl⟩,call_meets F.slot_list_mul ⟨_,e,rfl⟩ F.entry_list_mul (F.args_list_mul_2 _ _) (AutoListH.list___mul___list_int_3 l its.toArray n k t hfit hcap hlong) ⟨e, ?_⟩⟩)
 rw [hnew]
 exact⟨.ref _,_,I.lnew (t':=s.toks) (r.rep k.toNat) (by rw [a6x,Nat.mul_comm];exact hz),rfl,q _ I.fresh⟩
end
section
variable {prog:AL}{w:AJ}{A:AO}{E:AA->AC->Prop}{s:AC}
end
section
variable {X:Cx}
end
end L2
namespace Att
open PySem PySem.W PySem.Calls PyProof.Rows
theorem a29{P:Params}{h:Heap}:∀(ns:List Int) (vs:List AA),WellAll P h vs (ns.map WData.int)->IntsAre vs ns:=by
 intro ns
 induction ns with
 |nil=>
  intro vs w
  rw [Ad] at w
  cases w
  exact .nil
 |cons n ns ih=>
  intro vs w
  rw [AM] at w
  cases w with
  |cons a b=>
   cases a
   exact .cons _ _ (ih _ b)
theorem b0V{l:OpenLaw}{n:Nat}(hn:l.most=some n){P:Params}{h:Heap}{args:List WData}{vals:List AA}
 (hpre:l.row.toRowW.claim.pre args=true) (hwl:WellAll P h vals args):
 ∃a vs ns,vals=[Value.ref a]/\args=[WData.list (ns.map WData.int)]/\h.get? a=some {cls:= .type "list",data:= .seq vs.toArray}/\IntsAre vs ns/\ns.length<=n:=by
 have hsh:WShape.hasAll [] args [.list .int]=true:=(pre_splitW hpre).1
 have hc:l.pre.holds [] {args:=args}=true:=(pre_splitW hpre).2
 obtain⟨d,r,rfl,h1,h2⟩:=hasAllW_cons hsh
 obtain rfl:=hasAllW_nil h2
 obtain⟨xs,rfl,h3⟩:=hasW_list h1
 obtain⟨ns,rfl⟩:=items_int h3
 have hlen:ns.length<=n:=by
  unfold OpenLaw.pre at hc
  have h4:(WTm.not (.lt (.lit (.int (n:Int))) (.len (.arg 0)))).holds [] {args:=[.list (ns.map .int)]}=true:=by
   have h4:=(holds_andW hc).1
   rw [hn] at h4
   exact h4
  have h5:=condW_of h4 (w_not (w_lt w_lit (w_len_list (w_arg rfl))))
  rw [AU] at h5
  refine Nat.le_of_not_lt fun q=> ?_
  have q':(n:Int)<((ns.length:Nat):Int):=by lia
  first
   |(rw [decide_eq_true q'] at h5;exact absurd h5 (by decide))
   |(simp at h5;lia)
 cases hwl with
 |cons w1 w2=>
  cases w2
  cases w1 with
  |list ho hall=>exact⟨_,_,ns,rfl,rfl,ho,a29 ns _ hall,hlen⟩
theorem b0S(l:OpenLaw)(args:List WData):l.row.toRowW.claim.post args (.bool true) args=true:=
 postW_of (r:=l.row.toRowW) (X:=(true==true))
  (show WShape.has [] (.bool true) .bool=true by first|rfl|decide|simp [WShape.has,WShape.arms,WShape.armsAll])
  (show(WTm.eq .res (.lit (.bool true))).value [] {args:=args,res:=some (.bool true),after:=args}=some (.bool (true==true)) from w_eq_bool (w_res rfl) w_lit) rfl
theorem attach_call{l:OpenLaw}{n:Nat}{q:AL}{loose:List Str}{XP:(Str->Option AA)->Heap->Prop}{YP:AJ->Heap->Prop}{d:DefRec}
 (hn:l.most=some n) (hdf:d.params.defaults=[])
 (call:∀(w:AJ) (s₀ s₁:AC) (mg mb:Str->Option AA) (fa:AB) (o:Obj) (pm cd doc:AA) (a:AB) (vs:List AA) (ns:List Int),
  Ground q loose [] XP w s₀ mg mb s₁.heap->YP w s₁.heap->
  s₁.heap.get? fa=some o->o.data= .func (docDef d.name d.params d.body d.scope pm cd doc)->s₁.heap.CodeRec cd d.name->mg d.name=some (.ref fa)->
  s₁.heap.get? a=some {cls:= .type "list",data:= .seq vs.toArray}->IntsAre vs ns->ns.length<=n->s₁.gens= #[]->
  codeAny (model l.prog w) callerA (.call (.ref fa) ⟨[.ref a],[]⟩) (fun r s'=>r= .ok (.ret (.bool true))/\OldK s₁.heap s'.heap/\s'.os=s₁.os/\AllBare s'.gens) s₁):
 WalkO q loose XP YP l.row.toRowW d [] (fun f vs=>PySem.call f vs):=by
 intro w s₀ s₁ mg mb G Y fa o pm cd doc dV kV ho hd hcd hD hmg hg args vals as hpre hlay hrd hwl hlo
 obtain rfl:dV= .none:=Dflts.none hD hdf
 obtain rfl:kV= .none:=Dflts.noKw hD
 obtain⟨a,vs,ns,rfl,rfl,hobj,hints,hlen⟩:=b0V hn hpre hwl
 refine enter_call (codeAny_mono (call w s₀ s₁ mg mb fa o pm cd doc a vs ns G Y ho (fd_plain hd) hcd hmg hobj hints hlen hg) fun r s' hq=> ?_)
 obtain⟨rfl,h2,h3,h4⟩:=hq
 exact⟨.inl ⟨.bool true,.bool true,[],rfl,fun _=>rfl,.bool true,b0S l _,fun _=>⟨List.Pairwise.nil,fun _ hm=>(nomatch hm)⟩⟩,h2,h3,h4⟩
section
variable {prog:AL}{w:AJ}{A:AO}{E:AA->AC->Prop}{s:AC}{K:Frag}
end
end Att
namespace L2
open PySem PySem.Spec PyProof.Rows
theorem a52:∀{vs:List AA} {ns:List Int},IntsAre vs ns->i4 (ns.map V.int) vs
 |_,_,.nil=> .nil
 |_,_,.cons n t h=> .cons ⟨t,rfl⟩ (a52 h)
def b5O(H:Hp):Prop:=∀b,H b=none\/∃o xs,H b=some (.frz o (.lst xs))
theorem b2f{P:AL}{w:AJ}{K:AD}{mg mb:Str->Option AA}{CX:CXT}{k:Nat}{fa a:AB}{fd:FuncData}{x:Str}{sp:Sp}{s₁:AC}{vs:List AA}{ns:List Int}
 (KX:K.In s₁.heap) (hns:s₁.heap.Ns mainGlobals mg) (hb:s₁.heap.Ns builtinsNs mb) (hbb:∀x:Str,x≠"__name__"->mb x=bootBuiltins x) (hlim:s₁.heap.NoLimit) (hg:s₁.gens= #[])
 (ha:s₁.heap.get? a=some {cls:= .type "list",data:= .seq vs.toArray}) (hi:IntsAre vs ns) (hl:ns.length<=AK) (hr:E4 k callerA)
 (F:∀base:Heap,K.In base->base.Ns mainGlobals mg->O6 P w K mg base CX k fa fd [x] sp) (hbind:∀(s:AC) (u:AA),BindsTo s fd ⟨[u],[]⟩ [(x,u)])
 (hsp:∀H:Hp,b5O H->M2 K H a (ns.map V.int)->sp [.ref a] H (fun v _=>v= .bl true) fun _ _ _=>False)
 (hCX:∀H e s',CX [] H s₁ (fun _ _ _=>False) e s'->False):
 codeAny (model P w) callerA (.call (.ref fa) ⟨[.ref a],[]⟩) (fun r s'=>r= .ok (.ret (.bool true))/\OldK s₁.heap s'.heap/\s'.os=s₁.os/\AllBare s'.gens) s₁:=by
 have rv:=a52 hi
 have lenV:=hi.length
 have core:∀H:Hp,b5O H->M2 K H a (ns.map V.int)->HOk P w H s₁.heap->(∀b,H b≠none->b=a)->(H a≠none->K.lookup a=none)->
  codeAny (model P w) callerA (.call (.ref fa) ⟨[.ref a],[]⟩) (fun r s'=>r= .ok (.ret (.bool true))/\OldK s₁.heap s'.heap/\s'.os=s₁.os/\AllBare s'.gens) s₁:=by
  intro H hO hS hok hA hK
  have base_of:∀{b:AB} {o:Obj},s₁.heap.get? b=some o->H b=none->(a6p s₁.heap H).get? b=some o:=fun e n=>b13 e n
  have noA:∀{b:AB} {o:Obj} {es:Array DictEntry} {ep:Nat},s₁.heap.get? b=some o->o.data= .dict es ep->H b=none:=fun {b o es ep} e d=>by
   cases q:H b with
   |none=>rfl
   |some u=>
    have e':b=a:=hA b (by rw [q];simp)
    subst e'
    rw [ha] at e;cases e
    have d':Data.seq vs.toArray _=Data.dict es ep:=d
    cases d'
  have nsK:∀{b:AB} {m:Str->Option AA},s₁.heap.Ns b m->(a6p s₁.heap H).Ns b m:=fun {b m} ⟨o,es,ep,e,d,r⟩=>⟨o,es,ep,base_of e (noA e d),d,r⟩
  have hKb:K.In (a6p s₁.heap H):=fun b o e=>base_of (KX b o e) (by
   cases q:H b with
   |none=>rfl
   |some u=>
    have e':b=a:=hA b (by rw [q];simp)
    subst e'
    rw [hK (by rw [q];simp)] at e;cases e)
  have hM:Mod K mg (a6p s₁.heap H):=⟨hKb,nsK hns,⟨mb,nsK hb,hbb⟩,let ⟨mc,h1,h2⟩:=hlim;⟨mc,nsK h1,h2⟩⟩
  have e0:a8u P w K mg (a6p s₁.heap H) callerA [] s₁ H:=⟨rfl,hM,fun b o e=>b4s e,Nat.le_of_eq (b0r _ _),trivial,fun b hb=>absurd (show b∈([]:List AB) from hb) (by simp),hok,.of_eq hg⟩
  refine codeAny_mono ((F _ hKb (nsK hns)).run callerA [] s₁ H ⟨[.ref a],[]⟩ [.ref a] [.ref a] _ _ hr e0 (hbind s₁ (.ref a)) (.cons rfl .nil) (hsp H hO hS)) fun r s' h=> ?_
  cases r with
  |error e=>exact(hCX H e s' h).elim
  |ok fl=>
   cases fl with
   |next=>exact False.elim h
   |brk=>exact False.elim h
   |cont=>exact False.elim h
   |ret u=>
    obtain⟨v,H',os,bare,un,hok',r',q⟩:=h
    have q':v= .bl true:=q
    subst q'
    obtain rfl:u=Value.bool true:=r'
    refine⟨rfl,OldK.of_keep fun b o e=> ?_,os,bare⟩
    cases q:H b with
    |none=>exact un.keep b o e q (by intro z;exact absurd (show b∈([]:List AB) from z) (by simp)) (by simp)
    |some u=>
     rcases hO b with z|⟨ob,xs,z⟩
     ·rw [q] at z;cases z
     ·have z2:=un.frzs b ob _ z
      obtain⟨e1,_⟩:=hok b _ z
      obtain⟨e2,_⟩:=hok' b _ z2
      rw [e] at e1;cases e1
      exact e2
 cases hk:K.lookup a with
 |some o=>
  have e:=KX a o hk
  rw [ha] at e
  cases e
  refine core (fun _=>none) (fun _=> .inl rfl) (.inr ⟨_,vs.toArray,_,hk,rfl,rfl,rfl,by rw [Ab,lenV];exact hl,by simpa using rv⟩) (fun b u z=>by have z':(none:Option HO)=some u:=z;cases z') (fun b z=>absurd rfl z) fun z=>absurd rfl z
 |none=>
  refine core (fun b=>if b=a then some (.frz {cls:= .type "list",data:= .seq vs.toArray} (.lst (ns.map V.int))) else none) (fun b=> ?_) (.inl (.inr ⟨{cls:= .type "list",data:= .seq vs.toArray},if_pos rfl⟩)) (fun b u z=> ?_) (fun b z=> ?_) fun _=>hk
  ·by_cases hb:b=a
   ·exact .inr ⟨_,_,if_pos hb⟩
   ·exact .inl (if_neg hb)
  ·by_cases hb:b=a
   ·have z':=(if_pos hb).symm.trans z
    cases z'
    subst hb
    exact⟨ha,by rw [AU];exact hl,vs,_,rv,ha⟩
   ·have z':=(if_neg hb).symm.trans z
    cases z'
  ·by_cases hb:b=a
   ·exact hb
   ·exact absurd (if_neg hb) z
theorem b5g{l:PySem.W.OpenLaw}{n k:Nat}{q:AL}{loose:List Str}{XP:(Str->Option AA)->Heap->Prop}{YP:AJ->Heap->Prop}{d:DefRec}{K:Params->AD}{CX:AJ->CXT}{sp:AJ->Sp}{x:Str}
 (hn:l.most=some n) (hn2:n<=AK) (hdf:d.params.defaults=[]) (hr:E4 k callerA)
 (hY:∀(w:AJ) (h:Heap),YP w h->(K w.params).In h)
 (F:∀(w:AJ) (mg:Str->Option AA) (fa:AB) (h:Heap),(K w.params).In h->h.Ns mainGlobals mg->mg d.name=some (.ref fa)->
  ∃fd:FuncData,(∀(s:AC) (u:AA),BindsTo s fd ⟨[u],[]⟩ [(x,u)])/\
   ∀base:Heap,(K w.params).In base->base.Ns mainGlobals mg->O6 l.prog w (K w.params) mg base (CX w) k fa fd [x] (sp w))
 (hsp:∀(w:AJ) (H:Hp) (a:AB) (ns:List Int),ns.length<=n->b5O H->M2 (K w.params) H a (ns.map V.int)->sp w [.ref a] H (fun v _=>v= .bl true) fun _ _ _=>False)
 (hCX:∀(w:AJ) (H:Hp) (s:AC) (e:AA) (s':AC),CX w [] H s (fun _ _ _=>False) e s'->False):
 PySem.W.WalkO q loose XP YP l.row.toRowW d [] (fun f vs=>PySem.call f vs):=by
 refine Att.attach_call hn hdf fun w s₀ s₁ mg mb fa o pm cd doc a vs ns G Y ho hd hcd hmg hobj hints hlen hg=> ?_
 have KX:=hY w _ Y
 obtain⟨fd,hb,hF⟩:=F w mg fa _ KX G.T.g hmg
 exact b2f KX G.T.g G.T.b G.T.builtins G.T.nolimit hg hobj hints (Nat.le_trans hlen hn2) hr hF hb (fun H hO hS=>hsp w H a ns hlen hO hS) fun H e s'=>hCX w H s₁ e s'
def O9(s:Stmt):Arguments:=match s with
 | .FunctionDef _ a _ _ _ _ _ _ _ _=>a
 |_=>{posonlyargs:=[],args:=[],vararg:=none,kwonlyargs:=[],kw_defaults:=[],kwarg:=none,defaults:=[]}
def B3(s:Stmt):List Stmt:=match s with
 | .FunctionDef _ _ b _ _ _ _ _ _ _=>b
 |_=>[]
def d9(s:Stmt):Scope:=match s with
 | .FunctionDef _ _ _ _ _ _ sc _ _ _=>sc
 |_=>{kind:= .function,names:=[],isGenerator:=false,isCoroutine:=false}
abbrev CX0:CXT:=fun _ _ _ _ _ _=>False
abbrev E0:XK:=fun _ _ _=>False
theorem b2H{X:Cx}:a8w CX0 X E0:=fun _ _ _ _ _ _ _ h=>h.elim
structure Fun(K:AD)(x qual:Str)(st:Stmt)(f:AB)(fd:FuncData):Prop where
 ex:∃(oc:AA) (od:Option AB) (kV doc pm:AA) (an:Option AB) (cdv ct:AA) (osl:Array (Option AA)),
  fd=PySem.W.fnOf x qual (O9 st) (B3 st) (d9 st) .none kV doc pm an cdv ct/\K.lookup f=some ⟨oc,od,.func fd,osl⟩/\PySem.W.codeIn K cdv qual=true
 kp:PySem.W.keepIn K (.ref f)=true
section
variable {P:AL}{w:AJ}{K:AD}{mg:Str->Option AA}{base:Heap}
theorem Fun.ok{x qual:Str}{st:Stmt}{f:AB}{fd:FuncData}{N ps:List Str}{k:Nat}{sp:Sp}(F:Fun K x qual st f fd)(S:j4 N ps (d9 st))(len:∀vs H Q E,sp vs H Q E->vs.length=ps.length)
 (hbody:∀(cdv:AA) (A:AO) (outer:List Env) (s:AC) (H:Hp) (vs:List V) (Q:VK) (E:XK),E4 k (A.deeper (envOfC qual (d9 st) s.heap.objs.size f cdv))->sp vs H Q E->
  ∃t,PSs (a49 CX0 P w K mg base N qual (d9 st) f cdv A outer s H E).nox (B3 st) t/\t {nx:=fun _ H'=>Q .non H',rt:=Q} (a0P N vs) H):O6 P w K mg base CX0 (k+1) f fd ps sp:=by
 obtain⟨oc,od,kV,doc,pm,an,cdv,ct,osl,rfl,lk,hcd⟩:=F.ex
 refine b7w lk hcd S len fun A outer s H vs Q E hr hsp=> ?_
 obtain⟨t,h,q⟩:=hbody cdv A outer s H vs Q E hr hsp
 exact⟨t,h.nox,q⟩
theorem Fun.binds{x qual:Str}{st:Stmt}{f:AB}{fd:FuncData}{ps:List Str}(F:Fun K x qual st f fd)
 (h:∀(kV doc pm:AA) (an:Option AB) (cdv ct:AA) (us:List AA),us.length=ps.length->bindArgs (PySem.W.fnOf x qual (O9 st) (B3 st) (d9 st) .none kV doc pm an cdv ct) ⟨us,[]⟩=pure (ps.zip us)):a2B K fd ps []:=by
 obtain⟨oc,od,kV,doc,pm,an,cdv,ct,osl,rfl,lk,hcd⟩:=F.ex
 exact .all (h kV doc pm an cdv ct)
theorem b56{x qual:Str}{st:Stmt}{f:AB}{oc:AA}{od an:Option AB}{osl:Array (Option AA)}{kV doc pm cdv ct:AA}(l:K.lookup f=some ⟨oc,od,.func (PySem.W.fnOf x qual (O9 st) (B3 st) (d9 st) .none kV doc pm an cdv ct),osl⟩)
 (c:PySem.W.codeIn K cdv qual=true) (k:PySem.W.keepIn K (.ref f)=true):Fun K x qual st f (PySem.W.fnOf x qual (O9 st) (B3 st) (d9 st) .none kV doc pm an cdv ct):=⟨⟨oc,od,kV,doc,pm,an,cdv,ct,osl,rfl,l,c⟩,k⟩
end
theorem b7z{A:AO}{k:Nat}(hr:E4 k A):A.units+1<cLine:=Nat.lt_of_le_of_lt (Nat.add_le_add_left (by decide:1<=64) _) hr.units
theorem b0X{n:Nat}(h:n<=1000):n<AK:=Nat.lt_of_le_of_lt h (by decide)
section
variable {X:Cx}
theorem pv(i:Nat){x:Str}{pos:Pos}(hN:X.N[i]?=some x:=by rfl)(hv:Vis X.env.scope x:=by first|exact Or.inl rfl|exact Or.inr (Or.inl rfl)|exact Or.inr (Or.inr rfl))(hd:(x==("__debug__":Str))=false:=by decide)
 (hcd:(x==("__classdict__":Str))=false:=by decide):PE X (.Name x pos) (Q6 i):=b6K hN hv hd hcd
end
theorem b17{A B:Prop}(h:B):if false=true then A else B:=by
 rw [if_neg As]
 exact h
theorem b18{A B:Prop}(h:A):if true=true then A else B:=by
 rw [if_pos rfl]
 exact h
def j5(H H':Hp):Prop:=∀b o,H b=some o->H' b=some o
theorem j5.refl(H:Hp):j5 H H:=fun _ _ h=>h
theorem j5.trans{H H1 H2:Hp}(a:j5 H H1)(b:j5 H1 H2):j5 H H2:=fun c o h=>b c o (a c o h)
theorem j5.free{H H':Hp}(e:j5 H H'){l:AB}(h:H' l=Option.none):H l=Option.none:=by
 cases q:H l with
 |none=>rfl
 |some o=>
  rw [e l o q] at h
  cases h
theorem j5.seq{K:AD}{H H':Hp}{a:AB}{xs:List V}(e:j5 H H')(h:M2 K H a xs):M2 K H' a xs:=by
 rcases h with(h|⟨o,h⟩)|h
 ·exact .inl (.inl (e _ _ h))
 ·exact .inl (.inr ⟨o,e _ _ h⟩)
 ·exact .inr h
section
variable (P:AL)(w:AJ)
end
section
variable {P:AL}{w:AJ}{H H':Hp}{h h':Heap}{a:AB}{o:HO}
end
section
variable {P:AL}{w:AJ}{H:Hp}{h h':Heap}{x e:AB}{o':HO}
end
section
variable {fs fs' ex ex':List AB}{H H1 H2:Hp}{h h1 h2 h':Heap}{a x e:AB}{o:HO}
end
section
variable {X:Cx}{pins:List (AB×Obj)}{σ:List (Option V)}{H H':Hp}{s:AC}{h':Heap}
end
section
variable {X:Cx}
variable {a b:AE}{ta tb:TE}{pos:Pos}
variable {tA tB':TT}{B2:List AE}
end
section
variable {X:Cx}{pins:List (AB×Obj)}{σ:St}{H:Hp}{s:AC}{a:AB}{xs ys:List V}
end
section
variable {X:Cx}{pins:List (AB×Obj)}{σ:St}{H:Hp}{s:AC}{E:AA->AC->Prop}
end
section
variable {X:Cx}{st:Stmt}{B2:List Stmt}{t u:TS}{e:AE}{te:TE}{pos:Pos}
end
section
variable {X:Cx}{pos:Pos}
end
section
variable {X:Cx}{pos:Pos}
end
section
variable {X:Cx}{tg:AE}
end
section
variable {X:Cx}{a b c:AE}{ta tb tc:TE}{pos:Pos}
end
section
variable {X:Cx}{a b c:AE}{ta tb tc:TE}{pos:Pos}
end
section
variable {prog:AL}{w:AJ}{A:AO}{E:AA->AC->Prop}{s:AC}{K:AD}{x dx C f:AB}{mA:Str->Option AA}{name:Str}{v:AA}
end
section
variable {P:AL}{w:AJ}{H H':Hp}{h h':Heap}{a C dx:AB}{fs fs':List (Str×V)}
end
section
variable {X:Cx}{pins:List (AB×Obj)}{σ:St}{H:Hp}{s:AC}{a C dx:AB}{fs:List (Str×V)}{f:Str}{v:V}{A:AO}{E:AA->AC->Prop}
end
section
variable {X:Cx}{o e value:AE}{f:Str}{pos pos' tpos:Pos}{ta tv:TE}
end
section
variable {X:Cx}{pins:List (AB×Obj)}{σ:St}{H:Hp}{s:AC}{A:AO}{E:AA->AC->Prop}{Q:AA->AC->Prop}{c:AA}{b:Bool}
end
section
variable {X:Cx}{e:AE}{es:List AE}{te:TE}{t:TA}{pos:Pos}
end
section
variable {X:Cx}{pins:List (AB×Obj)}{σ:St}{H:Hp}{s s':AC}
end
section
variable {X:Cx}{CX:CXT}{k:Nat}{f C:AB}{fd:FuncData}{ps:List Str}{sp:Sp}{dvs:List V}{ds:List AA}{E:XK}{x m:Str}{p pos apos:Pos}{e o:AE}{es:List AE}{ta:TE}{t:TA}
end
section
variable {X:Cx}{CX:CXT}{k:Nat}{f C:AB}{fd:FuncData}{ps ks:List Str}{sp:Sp}{E:XK}{x m:Str}{p pos apos kpos:Pos}{e o:AE}{es:List AE}{kws:List Keyword}{te ta:TE}{t tk:TA}{nm:Option Str}
variable {g:List AA->List AA->List AA}{gV:List V->List V->List V}
end
section
variable {X:Cx}{x:Str}{p pos:Pos}{e:AE}{es:List AE}{t:TA}{id T:String}{r:List V->Hp->VK->Prop}
end
section
variable {κ:Type}[DecidableEq κ]
def O4(kvs:List (κ×V))(k:κ):Option V:=(kvs.find? fun kv=>decide (kv.1=k)).map (·.2)
def O0(kvs:List (κ×V))(k:κ)(v:V):List (κ×V):=
 if(kvs.any fun kv=>decide (kv.1=k))=true then kvs.map (fun kv=>if kv.1=k then(kv.1,v) else kv) else kvs++[(k,v)]
def b5p(kvs:List (κ×V))(k:κ):List (κ×V):=kvs.filter fun kv=>decide (kv.1≠k)
theorem a0d{p:κ×V}{r:List (κ×V)}{k:κ}(e:p.1=k):O4 (p::r) k=some p.2:=by simp [O4,List.find?_cons,e]
theorem a0c{p:κ×V}{r:List (κ×V)}{k:κ}(e:¬p.1=k):O4 (p::r) k=O4 r k:=by simp [O4,List.find?_cons,e]
theorem a8j(k:κ):∀kvs:List (κ×V),(kvs.any fun kv=>decide (kv.1=k))=(O4 kvs k).isSome
 |[]=>rfl
 |p::r=>by
  rw [List.any_cons]
  by_cases e:p.1=k
  ·simp only [a0d e,decide_eq_true e,Bool.true_or,Option.isSome_some]
  ·rw [a0c e,decide_eq_false e,Bool.false_or];exact a8j k r
theorem P4(kvs:List (κ×V))(k:κ)(v:V):(O0 kvs k v).length<=kvs.length+1:=by
 unfold O0
 split
 ·rw [AU];lia
 ·rw [AZ,AT,Aa];lia
theorem a1e.isSome_eq{o:Option V}{u:Option AA}(r:a1e o u):o.isSome=u.isSome:=by
 cases o with
 |none=>cases u with
  |none=>rfl
  |some _=>exact(show False from r).elim
 |some _=>cases u with
  |none=>exact(show False from r).elim
  |some _=>rfl
theorem a1e.getD{o:Option V}{u:Option AA}{d:V}{d':AA}(r:a1e o u)(rd:l6 d d'):l6 (o.getD d) (u.getD d'):=by
 cases o with
 |none=>cases u with
  |none=>exact rd
  |some _=>exact(show False from r).elim
 |some _=>cases u with
  |none=>exact(show False from r).elim
  |some _=>exact r
theorem KV.val{kvs:List (κ×V)}{vs:List (κ×AA)}(r:KV kvs vs)(k:κ):a1e (O4 kvs k) (valueAt vs k):=by
 unfold KV at r
 induction r with
 |nil=>exact True.intro
 | @cons p q ps qs h t ih=>
   obtain⟨h1,h2⟩:=h
   by_cases e:p.1=k
   ·have e':q.1=k:=h1.symm.trans e
    have b:valueAt (q::qs) k=some q.2:=by simp [valueAt,List.find?_cons,e']
    rw [a0d e,b];exact h2
   ·have e':¬q.1=k:=fun z=>e (h1.trans z)
    have b:valueAt (q::qs) k=valueAt qs k:=by simp [valueAt,List.find?_cons,e']
    rw [a0c e,b];exact ih
theorem KV.any{kvs:List (κ×V)}{vs:List (κ×AA)}(r:KV kvs vs)(k:κ):(kvs.any fun kv=>decide (kv.1=k))=vs.any fun kv=>decide (kv.1=k):=by
 unfold KV at r
 induction r with
 |nil=>rfl
 |cons h t ih=>rw [List.any_cons,List.any_cons,ih,h.1]
theorem KV.repl{kvs:List (κ×V)}{vs:List (κ×AA)}(r:KV kvs vs)(k:κ){y:V}{u:AA}(ry:l6 y u):
 KV (kvs.map fun kv=>if kv.1=k then(kv.1,y) else kv) (vs.map fun kv=>if kv.1=k then(kv.1,u) else kv):=by
 unfold KV at r ⊢
 induction r with
 |nil=>exact .nil
 | @cons p q ps qs h t ih=>
   rw [AM,AM]
   refine .cons ?_ ih
   obtain⟨h1,h2⟩:=h
   by_cases e:p.1=k
   ·rw [if_pos e,if_pos (h1.symm.trans e)];exact⟨h1,ry⟩
   ·rw [if_neg e,if_neg (fun z=>e (h1.trans z))];exact⟨h1,h2⟩
theorem KV.put{kvs:List (κ×V)}{vs:List (κ×AA)}(r:KV kvs vs)(k:κ){y:V}{u:AA}(ry:l6 y u):KV (O0 kvs k y) (stored vs k u):=by
 unfold O0 stored
 rw [r.any k]
 by_cases e:(vs.any fun kv=>decide (kv.1=k))=true
 ·rw [if_pos e,if_pos e];exact r.repl k ry
 ·rw [if_neg e,if_neg e];exact Paired.snoc r ⟨rfl,ry⟩
theorem KV.drop{kvs:List (κ×V)}{vs:List (κ×AA)}(r:KV kvs vs)(k:κ):KV (b5p kvs k) (without vs k):=by
 unfold KV at r ⊢
 unfold b5p without
 induction r with
 |nil=>exact .nil
 | @cons p q ps qs h t ih=>
   obtain⟨h1,h2⟩:=h
   rw [List.filter_cons,List.filter_cons]
   by_cases e:p.1=k
   ·have a:¬decide (p.1≠k)=true:=by simp [e]
    have b:¬decide (q.1≠k)=true:=by simp [h1.symm.trans e]
    rw [if_neg a,if_neg b];exact ih
   ·have e':¬q.1=k:=fun z=>e (h1.trans z)
    have a:decide (p.1≠k)=true:=by simp [e]
    have b:decide (q.1≠k)=true:=by simp [e']
    rw [if_pos a,if_pos b];exact .cons ⟨h1,h2⟩ ih
theorem KV.keys{kvs:List (κ×V)}{vs:List (κ×AA)}(r:KV kvs vs):kvs.map (·.1)=vs.map (·.1):=by
 unfold KV at r
 induction r with
 |nil=>rfl
 |cons h t ih=>rw [AM,AM,ih,h.1]
theorem KV.length{kvs:List (κ×V)}{vs:List (κ×AA)}(r:KV kvs vs):kvs.length=vs.length:=Paired.length r
end
theorem a38{P:AL}{w:AJ}{k:f8}{u:AA}(r:l6 (kV k) u):(k4 P w).is k u=true:=by
 cases k with
 |inl i=>obtain⟨t,e⟩:=(show ∃t,u=Value.int i t from r);subst e;exact Y9 P w i t
 |inr x=>obtain⟨t,e⟩:=(show ∃t,u=Value.str x t from r);subst e;exact Z0 P w x t
theorem a8O{a b:f8}(e:kV a=kV b):a=b:=by
 cases a with
 |inl i=>cases b with
  |inl j=>have e':V.int i=V.int j:=e;injection e' with e';rw [e']
  |inr y=>exact nomatch (show V.int i=V.str y from e)
 |inr x=>cases b with
  |inl j=>exact nomatch (show V.str x=V.int j from e)
  |inr y=>have e':V.str x=V.str y:=e;injection e' with e';rw [e']
theorem a3i:∀{a b:List f8},a.map kV=b.map kV->a=b
 |[],[],_=>rfl
 |[],_::_,e=>by simp at e
 |_::_,[],e=>by simp at e
 |x::xs,y::ys,e=>by
  rw [AM,AM] at e
  injection e with e1 e2
  rw [a8O e1,a3i e2]
theorem a2j{P:AL}{w:AJ}:∀{ks:List f8} {us:List AA},i4 (ks.map kV) us->ItemsAre (k4 P w) ks us
 |[],_,r=>by rw [Ad] at r;cases r;exact .nil
 |k::ks,_,r=>by
  rw [AM] at r
  cases r with
  |cons h t=>exact .cons (a38 h) (a2j t)
abbrev KT(H:Hp):List (List f8×V)->List (List f8×AB×AA)->Prop:=Paired fun p q=>p.1=q.1/\H q.2.1=some (.tup (p.1.map kV))/\l6 p.2 q.2.2
theorem KT.val{H:Hp}{kvs:List (List f8×V)}{xs:List (List f8×AB×AA)}(r:KT H kvs xs)(k:List f8):a1e (O4 kvs k) ((atKey xs k).map (·.2)):=by
 induction r with
 |nil=>exact True.intro
 | @cons p q ps qs h t ih=>
   obtain⟨h1,_,h2⟩:=h
   by_cases e:p.1=k
   ·have e':q.1=k:=h1.symm.trans e
    have b:atKey (q::qs) k=some q.2:=by simp [atKey,List.find?_cons,e']
    rw [a0d e,b];exact h2
   ·have e':¬q.1=k:=fun z=>e (h1.trans z)
    have b:atKey (q::qs) k=atKey qs k:=by simp [atKey,List.find?_cons,e']
    rw [a0c e,b];exact ih
theorem KT.repl{H:Hp}{kvs:List (List f8×V)}{xs:List (List f8×AB×AA)}(r:KT H kvs xs)(k:List f8){y:V}{u:AA}(ry:l6 y u):
 KT H (kvs.map fun kv=>if kv.1=k then(kv.1,y) else kv) (xs.map (putAt k u)):=by
 induction r with
 |nil=>exact .nil
 | @cons p q ps qs h t ih=>
   rw [AM,AM]
   refine .cons ?_ ih
   obtain⟨h1,h2,h3⟩:=h
   unfold putAt
   by_cases e:p.1=k
   ·rw [if_pos e,if_pos (h1.symm.trans e)];exact⟨h1,h2,ry⟩
   ·rw [if_neg e,if_neg (fun z=>e (h1.trans z))];exact⟨h1,h2,h3⟩
theorem KT.put{H:Hp}{kvs:List (List f8×V)}{xs:List (List f8×AB×AA)}(r:KT H kvs xs)(k:List f8){b:AB}{y:V}{u:AA}(hb:H b=some (.tup (k.map kV)))(ry:l6 y u):
 KT H (O0 kvs k y) (storedH xs k b u):=by
 have e:(kvs.any fun kv=>decide (kv.1=k))=(atKey xs k).isSome:=by
  rw [a8j,(r.val k).isSome_eq,Option.isSome_map]
 unfold O0 storedH
 rw [e]
 by_cases q:(atKey xs k).isSome=true
 ·rw [if_pos q,if_pos q];exact r.repl k ry
 ·rw [if_neg q,if_neg q];exact Paired.snoc r ⟨rfl,hb,ry⟩
theorem KT.keeps{H H':Hp}{kvs:List (List f8×V)}{xs:List (List f8×AB×AA)}(r:KT H kvs xs)(ht:∀b ys,H b=some (.tup ys)->H' b=some (.tup ys)):KT H' kvs xs:=
 Paired.mapP r fun _ _ z=>⟨z.1,ht _ _ z.2.1,z.2.2⟩
section
variable {P:AL}{w:AJ}{H:Hp}{h:Heap}{a:AB}
theorem b5E{u:HO}(ok:HOk P w H h)(e:Rd H a u):v7 P w H h a u:=e.ok ok
theorem a7r{kvs:List (f8×V)}(ok:HOk P w H h)(e:Rd H a (.dK kvs)):kvs.length<=AK/\(a==sysModules)=false/\∃vs,KV kvs vs/\h.DictOf (k4 P w) a vs:=
 show v7 P w H h a (.dK kvs) from b5E ok e
theorem b5o{kvs:List (f8×V)}(ok:HOk P w H h)(e:H a=some (.dK kvs)):kvs.length<=AK/\(a==sysModules)=false/\∃vs,KV kvs vs/\h.DictOf (k4 P w) a vs:=a7r ok (.inl e)
theorem a2k{ks:List f8}(ok:HOk P w H h)(e:H a=some (.tup (ks.map kV))):(tupleKind (k4 P w)).is h ks a:=by
 obtain⟨_,its,r,o,h1,h2,n,h3⟩:=(show v7 P w H h a (.tup (ks.map kV)) from ok a _ e)
 exact⟨o,its.toArray,n,h1,h2,h3,by simpa using a2j r⟩
theorem a7u{kvs:List (List f8×V)}(ok:HOk P w H h)(e:Rd H a (.dT kvs)):kvs.length<=AK/\(a==sysModules)=false/\
 ∃xs,KT H kvs xs/\h.DictOfH (tupleKind (k4 P w)) a xs:=by
 obtain⟨z,y,xs,r,o,es,ep,h1,h2,h3,h4,h5⟩:=(show v7 P w H h a (.dT kvs) from b5E ok e)
 refine⟨z,y,xs,r,o,es,ep,h1,h2,h3,h4,fun x hx=> ?_,h5⟩
 have all:∀{l:List (List f8×V)} {m:List (List f8×AB×AA)},KT H l m->∀x∈m,(tupleKind (k4 P w)).is h x.1 x.2.1:=by
  intro l m q
  induction q with
  |nil=>intro x hx;exact nomatch hx
  | @cons p q ps qs hq t ih=>
    intro x hx
    rcases Ag.mp hx with e|hx
    ·subst e
     exact a2k ok (by rw [<-hq.1];exact hq.2.1)
    ·exact ih x hx
 exact all r x hx
theorem b5q{kvs:List (List f8×V)}(ok:HOk P w H h)(e:H a=some (.dT kvs)):kvs.length<=AK/\(a==sysModules)=false/\
 ∃xs,KT H kvs xs/\h.DictOfH (tupleKind (k4 P w)) a xs:=a7u ok (.inl e)
end
def R5(H:Hp)(a:AB)(y:V)(r:Option V):Prop:=
 (∃kvs k,Rd H a (.dK kvs)/\y=kV k/\r=O4 kvs k)\/∃kvs k b,Rd H a (.dT kvs)/\y= .ref b/\H b=some (.tup (k.map kV))/\r=O4 kvs k
def a44(H:Hp)(a:AB)(y v:V)(H':Hp):Prop:=
 (∃kvs k,H a=some (.dK kvs)/\y=kV k/\kvs.length<AK/\H'=upd H a (.dK (O0 kvs k v)))\/
 ∃kvs k b,H a=some (.dT kvs)/\y= .ref b/\H b=some (.tup (k.map kV))/\kvs.length<AK/\H'=upd H a (.dT (O0 kvs k v))
theorem R5.k{H:Hp}{a:AB}{kvs:List (f8×V)}{k:f8}(e:H a=some (.dK kvs)):R5 H a (kV k) (O4 kvs k):= .inl ⟨kvs,k,.inl e,rfl,rfl⟩
theorem R5.t{H:Hp}{a b:AB}{kvs:List (List f8×V)}{k:List f8}(e:H a=some (.dT kvs))(eb:H b=some (.tup (k.map kV))):R5 H a (.ref b) (O4 kvs k):= .inr ⟨kvs,k,b,.inl e,rfl,eb,rfl⟩
theorem a44.k{H:Hp}{a:AB}{kvs:List (f8×V)}{k:f8}{v:V}(e:H a=some (.dK kvs))(hl:kvs.length<AK):a44 H a (kV k) v (upd H a (.dK (O0 kvs k v))):= .inl ⟨kvs,k,e,rfl,hl,rfl⟩
theorem a44.t{H:Hp}{a b:AB}{kvs:List (List f8×V)}{k:List f8}{v:V}(e:H a=some (.dT kvs))(eb:H b=some (.tup (k.map kV)))(hl:kvs.length<AK):
 a44 H a (.ref b) v (upd H a (.dT (O0 kvs k v))):= .inr ⟨kvs,k,b,e,rfl,eb,hl,rfl⟩
section
variable {X:Cx}{pins:List (AB×Obj)}{σ:St}{H:Hp}{s:AC}{a:AB}{y v:V}{u r:AA}{o:Option V}{A:AO}{E:AA->AC->Prop}
theorem i2.big(I:i2 X pins σ H s):sysModules<s.heap.objs.size:=by
 have h:mainGlobals<s.heap.objs.size:=(I.mod.glob.keeps I.bk).lt
 exact Nat.lt_trans (by decide) h
theorem b0l{Q:AA->AC->Prop}(hu:A.units+1<cLine)(I:i2 X pins σ H s)(g:R5 H a y (some v))(ry:l6 y u)(h:∀w' s',i2 X pins σ H s'->l6 v w'->Q w' s'):
 AG (model X.prog X.w) A (getItem (.ref a) u) Q E s:=by
 rcases g with⟨kvs,k,e,ey,l⟩|⟨kvs,k,b,e,ey,eb,l⟩
 ·subst ey
  obtain⟨z,hd,vs,rel,dd⟩:=a7r I.hok e
  obtain⟨w',hw,rw'⟩:=a1e.some_of (v:=v) (o:=valueAt vs k) (by rw [l];exact rel.val k)
  exact wpAny_getItem_of (a38 ry) dd.mapOf hw (h w' _ (I.tok _) rw')
 ·subst ey
  cases(show u=Value.ref b from ry)
  obtain⟨z,hd,xs,rel,dd⟩:=a7u I.hok e
  obtain⟨w',hw,rw'⟩:=a1e.some_of (v:=v) (o:=(atKey xs k).map (·.2)) (by rw [l];exact rel.val k)
  obtain⟨p,hp,hp2⟩:=Option.map_eq_some_iff.mp hw
  refine wpAny_getItem_heap (tupleKind_room_in1 hu) (a2k I.hok eb) dd hp ?_
  rw [hp2]
  exact h w' _ (I.tok _) rw'
theorem b8a{Q:AA->AC->Prop}(hu:A.units+1<cLine)(I:i2 X pins σ H s)(g:R5 H a y o)(ry:l6 y u)(h:∀s',i2 X pins σ H s'->Q (.bool o.isSome) s'):
 AG (model X.prog X.w) A (compareOp .In u (.ref a)) Q E s:=by
 rcases g with⟨kvs,k,e,ey,l⟩|⟨kvs,k,b,e,ey,eb,l⟩
 ·subst ey
  obtain⟨z,hd,vs,rel,dd⟩:=a7r I.hok e
  refine wpAny_in_of (a38 ry) hd dd.mapOf ?_
  rw [<-(rel.val k).isSome_eq,<-l]
  exact h _ (I.tok _)
 ·subst ey
  cases(show u=Value.ref b from ry)
  obtain⟨z,hd,xs,rel,dd⟩:=a7u I.hok e
  refine wpAny_in_heap (tupleKind_room_in1 hu) (a2k I.hok eb) hd dd ?_
  have q:=(rel.val k).isSome_eq
  rw [Option.isSome_map] at q
  rw [<-q,<-l]
  exact h _ (I.tok _)
theorem b3H{Q:AA->AC->Prop}(hu:A.units+1<cLine)(I:i2 X pins σ H s)(g:R5 H a y o)(ry:l6 y u)(h:∀s',i2 X pins σ H s'->Q (.bool (!o.isSome)) s'):
 AG (model X.prog X.w) A (compareOp .NotIn u (.ref a)) Q E s:=by
 rcases g with⟨kvs,k,e,ey,l⟩|⟨kvs,k,b,e,ey,eb,l⟩
 ·subst ey
  obtain⟨z,hd,vs,rel,dd⟩:=a7r I.hok e
  refine wpAny_notIn_of (a38 ry) hd dd.mapOf ?_
  rw [<-(rel.val k).isSome_eq,<-l]
  exact h _ (I.tok _)
 ·subst ey
  cases(show u=Value.ref b from ry)
  obtain⟨z,hd,xs,rel,dd⟩:=a7u I.hok e
  refine wpAny_notIn_heap (tupleKind_room_in1 hu) (a2k I.hok eb) hd dd ?_
  have q:=(rel.val k).isSome_eq
  rw [Option.isSome_map] at q
  rw [<-q,<-l]
  exact h _ (I.tok _)
theorem a3e{h':Heap}{t':Nat}{ob:HO}(I:i2 X pins σ H s)(mu:Mut (H a))(hs:Heap.SameBut a s.heap h')(he:∃q,h'.get? a=some q)(new:v7 X.prog X.w (upd H a ob) h' a ob):
 i2 X pins σ (upd H a ob) {s with heap:=h',toks:=t'}:=
 I.write (x:=a) (e:=a) mu (.inl rfl) (fun b q hb z=>(hs.2 b hb).trans z) he new
theorem b1v{P:AL}{w:AJ}{H':Hp}{h':Heap}{kvs:List (f8×V)}{vs:List (f8×AA)}(z:kvs.length<=AK)(hd:(a==sysModules)=false)(rel:KV kvs vs)(dd:h'.DictOf (k4 P w) a vs):
 v7 P w H' h' a (.dK kvs):=⟨z,hd,vs,rel,dd⟩
theorem b0m{H':Hp}{Q:Unit->AC->Prop}(hu:A.units+1<cLine)(I:i2 X pins σ H s)(g:a44 H a y v H')(ry:l6 y u)(rv:l6 v r)(h:∀s',i2 X pins σ H' s'->Q () s'):
 AG (model X.prog X.w) A (setItem (.ref a) u r) Q E s:=by
 rcases g with⟨kvs,k,e,ey,l,eH⟩|⟨kvs,k,b,e,ey,eb,l,eH⟩
 ·subst ey eH
  obtain⟨z,hd,vs,rel,dd⟩:=b5o I.hok e
  have hz:vs.length<=AK:=by rw [<-rel.length];exact z
  have hl:(O0 kvs k v).length<=AK:=by have:=P4 kvs k v;lia
  refine wpAny_setItem_pairs (hsz:=hz) (a38 ry) dd fun h' dd' hs=>h _ ?_
  have he:∃q,h'.get? a=some q:=let ⟨q,_,_,hq,_⟩:=dd';⟨q,hq⟩
  exact a3e I (by rw [e];exact True.intro) hs he (b1v hl hd (rel.put k rv) dd')
 ·subst ey eH
  cases(show u=Value.ref b from ry)
  obtain⟨z,hd,xs,rel,dd⟩:=b5q I.hok e
  have hz:xs.length<=AK:=by rw [<-Paired.length rel];exact z
  have hl:(O0 kvs k v).length<=AK:=by have:=P4 kvs k v;lia
  refine wpAny_setItem_heap (hsz:=hz) (tupleKind_room_in1 hu) (a2k I.hok eb) dd fun h' dd' hs=>h _ ?_
  obtain⟨q,es,ep,hq,h2,h3,h4,_,h5⟩:=dd'
  refine a3e I (by rw [e];exact True.intro) hs ⟨q,hq⟩ ⟨hl,hd,_,(rel.put k eb rv).keeps fun c ys ec=> ?_,q,es,ep,hq,h2,h3,h4,h5⟩
  rw [g5 (a2U ec e (fun z=>nomatch z))]
  exact ec
end
section
variable {X:Cx}{pins:List (AB×Obj)}{σ:St}{H:Hp}{s:AC}{a:AB}{kvs:List (f8×V)}{k:f8}{u:AA}{A:AO}{E:AA->AC->Prop}
end
def a68(i:AE):Prop:=∀ov iv,subscripted i false ov iv=operate [ov,iv] (getItem ov iv)
theorem a6S{prog:AL}{w:AJ}{A:AO}{E:AA->AC->Prop}{s:AC}{env:Env}{value slice:AE}{pos:Pos}{T id:String}{Q:AA->AC->Prop}
 (hl:typeLookup (.type T) "__getitem__"=pure (some (.builtin id))) (hs:a68 slice)
 (h:AG (model prog w) A (eval value env) (fun o s₁=>AG (model prog w) A (eval slice env) (fun i s₂=>s₂.TypeIs o T/\AG (model prog w) A (getItem o i) Q E s₂) E s₁) E s):
 AG (model prog w) A (eval (.Subscript value slice pos) env) Q E s:=by
 refine Subscript_ (wpAny_mono h (fun o s₁ h₁=>wpAny_mono h₁ (fun i s₂ h₂=> ?_) fun _ _ x=>x) fun _ _ x=>x)
 obtain⟨hT,h₂⟩:=h₂
 unfold subscriptTail
 refine AF ?_
 rw [getitemInPython_of_ne hT.not_modules]
 refine AF (wpAny_specialOf hT hl ?_)
 have fin:AG (model prog w) A (subscripted slice false o i) (fun r s₃=>AG (model prog w) A (letTemporaryGo value o r>>=fun _=>pure r) Q E s₃) E s₂:=by
  rw [hs o i]
  exact wpAny_operating (wpAny_mono h₂ (fun r s₃ h₃=>AF (wpAny_letTemporaryGo (AQ h₃))) fun _ _ x=>x)
 first
  |exact AQ (AF fin)
  |exact AF (AQ (AF fin))
  |exact AF fin
theorem a7p{X:Cx}{pins:List (AB×Obj)}{σ:St}{H:Hp}{s:AC}{a:AB}{y:V}{o:Option V}(I:i2 X pins σ H s)(g:R5 H a y o):s.TypeIs (.ref a) "dict":=by
 rcases g with⟨kvs,k,e,_,_⟩|⟨kvs,k,b,e,_,_,_⟩
 ·obtain⟨_,_,vs,_,dd⟩:=a7r I.hok e
  exact dd.typeIs
 ·obtain⟨_,_,xs,_,dd⟩:=a7u I.hok e
  exact dd.typeIs
def b7S(td ty:TE):TE:=fun σ H Q=>td σ H fun x H1=>ty σ H1 fun y H2=>∃a v,x= .ref a/\R5 H2 a y (some v)/\Q v H2
def b8v(ty td:TE):TE:=fun σ H Q=>ty σ H fun y H1=>td σ H1 fun x H2=>∃a o,x= .ref a/\R5 H2 a y o/\Q (.bl o.isSome) H2
def b47(ty td:TE):TE:=fun σ H Q=>ty σ H fun y H1=>td σ H1 fun x H2=>∃a o,x= .ref a/\R5 H2 a y o/\Q (.bl (!o.isSome)) H2
def b7P(td ty tv:TE):TS:=fun D σ H=>tv σ H fun v H1=>td σ H1 fun x H2=>ty σ H2 fun y H3=>∃a H4,x= .ref a/\a44 H3 a y v H4/\D.nx σ H4
section
variable {X:Cx}{o i e value:AE}{pos pos' tpos:Pos}{td ty tv:TE}
theorem a3m(hu:X.A.units+1<cLine)(ho:PE X o td)(hi:PE X i ty)(hs:a68 i):PE X (.Subscript o i pos) (b7S td ty):=by
 intro pins s σ H Q I h
 refine a6S PySem.F.slot_dict_getitem.lookup hs (B8 (ho pins s σ H _ I h) fun u s1 ⟨x,H1,I1,rx,q1⟩=>B8 (hi pins s1 σ H1 _ I1 q1) fun iv s2 ⟨y,H2,I2,ry,a,v,ex,g,q2⟩=> ?_)
 subst ex
 obtain rfl:u=Value.ref a:=rx
 exact⟨a7p I2 g,b0l hu I2 g ry fun w' s3 I3 rw'=>⟨v,H2,I3,rw',q2⟩⟩
theorem b6E(hu:X.A.units+1<cLine)(hi:PE X i ty)(ho:PE X o td):PC X .In i o (b8v ty td):=by
 intro pins s σ H Q I h
 refine B8 (hi pins s σ H _ I h) fun iv s1 ⟨y,H1,I1,ry,q1⟩=>B8 (ho pins s1 σ H1 _ I1 q1) fun u s2 ⟨x,H2,I2,rx,a,ov,ex,g,q2⟩=> ?_
 subst ex
 obtain rfl:u=Value.ref a:=rx
 exact b8a hu I2 g ry fun s3 I3=>⟨.bl ov.isSome,H2,I3,rfl,q2⟩
theorem a2s(hu:X.A.units+1<cLine)(hi:PE X i ty)(ho:PE X o td):PC X .NotIn i o (b47 ty td):=by
 intro pins s σ H Q I h
 refine B8 (hi pins s σ H _ I h) fun iv s1 ⟨y,H1,I1,ry,q1⟩=>B8 (ho pins s1 σ H1 _ I1 q1) fun u s2 ⟨x,H2,I2,rx,a,ov,ex,g,q2⟩=> ?_
 subst ex
 obtain rfl:u=Value.ref a:=rx
 exact b3H hu I2 g ry fun s3 I3=>⟨.bl (!ov.isSome),H2,I3,rfl,q2⟩
theorem a3n(hu:X.A.units+1<cLine)(ho:PE X o td)(hi:PE X i ty)(hv:PE X value tv)(hs:swapsWith value (some (.Subscript o i pos')) pos.line X.env=pure false):
 PS X (.Assign [.Subscript o i pos'] value pos) (b7P td ty tv):=by
 intro pins s σ H D I h
 refine wpAny_Assign_Subscript (B8 (hv pins s σ H _ I h) fun r s1 ⟨v,H1,I1,rv,q1⟩=>B8 (ho pins s1 σ H1 _ I1 q1) fun u s2 ⟨x,H2,I2,rx,q2⟩=>B8 (hi pins s2 σ H2 _ I2 q2) fun iv s3 ⟨y,H3,I3,ry,a,H4,ex,g,q3⟩=> ?_) hs
 subst ex
 obtain rfl:u=Value.ref a:=rx
 exact b0m hu I3 g ry rv fun s4 I4=>⟨σ,H4,I4,q3⟩
end
theorem b1u{P:AL}{w:AJ}{H:Hp}(h:Heap)(hb:sysModules<h.objs.size):v7 P w H (h.push {cls:= .type "dict",data:= .dict #[]}) h.objs.size (.dK []):=
 ⟨Nat.zero_le _,beq_eq_false_iff_ne.mpr (Ne.symm (An hb)),[],.nil,Heap.DictOf.new h⟩
theorem a7t{P:AL}{w:AJ}{H:Hp}(h:Heap)(hb:sysModules<h.objs.size):v7 P w H (h.push {cls:= .type "dict",data:= .dict #[]}) h.objs.size (.dT []):=
 ⟨Nat.zero_le _,beq_eq_false_iff_ne.mpr (Ne.symm (An hb)),[],.nil,_, #[],0,Aw _ rfl,⟨rfl,rfl,rfl⟩,rfl,rfl,List.nodup_nil⟩
def b60:TE:=fun _ H Q=>∀p,H p=none->Q (.ref p) (upd H p (.dT []))
section
variable {X:Cx}{pos:Pos}
theorem b2J:PE X (.Dict [] [] pos) b60:=fun pins s σ H Q I h=>
 wpAny_Dict_empty ⟨.ref s.heap.objs.size,_,I.laid (a:=s.heap.objs.size) (o:= .dT []) (t':=s.toks) (fun _ _ q=>Ae _ q) (AN _) (a7t s.heap I.big),rfl,h _ (I.hok.fresh (AN _))⟩
end
def a6T:List (TE×TE)->St->Hp->(List (V×V)->Hp->Prop)->Prop
 |[],_,H,Q=>Q [] H
 |(tk,tv)::r,σ,H,Q=>tk σ H fun x H1=>tv σ H1 fun y H2=>a6T r σ H2 fun ps H3=>Q ((x,y)::ps) H3
abbrev VV:List (V×V)->List (AA×AA)->Prop:=Paired fun p q=>l6 p.1 q.1/\l6 p.2 q.2
def PPs(X:Cx)(pos:Pos)(keys:List (Option AE))(values:List AE)(trs:List (TE×TE)):Prop:=
 ∀(pins:List (AB×Obj)) (s:AC) (σ:St) (H:Hp) (Q:List (V×V)->Hp->Prop),i2 X pins σ H s->a6T trs σ H Q->
  AG (model X.prog X.w) X.A (evalPairs (pairTrees keys values X.env pos)) (fun vs s'=>∃ps H',i2 X pins σ H' s'/\VV ps vs/\Q ps H') X.xe s
theorem a9W{X:Cx}{pos:Pos}:PPs X pos [] [] []:=fun pins s σ H Q I h=>pairTrees_nil_walk ⟨[],H,I,.nil,h⟩
theorem a73{X:Cx}{pos:Pos}{k v:AE}{ks:List (Option AE)}{vs:List AE}{tk tv:TE}{trs:List (TE×TE)}(hk:PE X k tk)(hv:PE X v tv)(hr:PPs X pos ks vs trs):
 PPs X pos (some k::ks) (v::vs) ((tk,tv)::trs):=fun pins s σ H Q I h=>
 pairTrees_cons_walk (B8 (hk pins s σ H _ I h) fun u s1 ⟨x,H1,I1,rx,q1⟩=>B8 (hv pins s1 σ H1 _ I1 q1) fun w2 s2 ⟨y,H2,I2,ry,q2⟩=>
  B8 (hr pins s2 σ H2 _ I2 q2) fun ws s3 ⟨ps,H3,I3,rel,q3⟩=>⟨(x,y)::ps,H3,I3,.cons ⟨rx,ry⟩ rel,q3⟩)
def Y8(kvs more:List (f8×V)):List (f8×V):=more.foldl (fun acc kv=>O0 acc kv.1 kv.2) kvs
theorem KV.merge:∀{more:List (f8×V)} {rs:List (f8×AA)} {kvs:List (f8×V)} {vs:List (f8×AA)},KV more rs->KV kvs vs->KV (Y8 kvs more) (merged vs rs):=by
 intro more rs kvs vs r
 unfold KV at r
 induction r generalizing kvs vs with
 |nil=>intro q;exact q
 | @cons p q ps qs h t ih=>
   intro r0
   have e:KV (O0 kvs p.1 p.2) (stored vs q.1 q.2):=by
    have:=r0.put p.1 h.2
    rw [<-h.1];exact this
   exact ih e
theorem a0E:∀(more kvs:List (f8×V)),(Y8 kvs more).length<=kvs.length+more.length
 |[],kvs=>by show kvs.length<=kvs.length+0;lia
 |p::r,kvs=>by
  have h1:=a0E r (O0 kvs p.1 p.2)
  have h2:=P4 kvs p.1 p.2
  show(Y8 (O0 kvs p.1 p.2) r).length<=_
  rw [AT];lia
theorem a3M{P:AL}{w:AJ}:∀{kvs:List (f8×V)} {ws:List (AA×AA)},VV (kvs.map fun kv=>(kV kv.1,kv.2)) ws->∃rs,Carries (k4 P w) ws rs/\KV kvs rs
 |[],_,r=>by rw [Ad] at r;cases r;exact⟨[],True.intro,.nil⟩
 |p::kvs,_,r=>by
  rw [AM] at r
  cases r with
  | @cons a b as bs h t=>
    obtain⟨rs,c,q⟩:=a3M (P:=P) (w:=w) t
    obtain⟨b1,b2⟩:=b
    exact⟨(p.1,b2)::rs,⟨a38 h.1,rfl,c⟩,.cons ⟨rfl,h.2⟩ q⟩
def b7T(trs:List (TE×TE)):TE:=fun σ H Q=>∀p,H p=none->a6T trs σ (upd H p (.dK [])) fun ps H2=>H2 p=some (.dK [])/\∃kvs:List (f8×V),ps=kvs.map (fun kv=>(kV kv.1,kv.2))/\kvs.length<=15/\Q (.ref p) (upd H2 p (.dK (Y8 [] kvs)))
theorem b4H{X:Cx}{pos:Pos}{keys:List (Option AE)}{values:List AE}{trs:List (TE×TE)}(h:PPs X pos keys values trs)(hall:keys.all (·.isSome)=true)(hl:keys.length=values.length)(h0:keys≠[])
 (h15:keys.length<=15):PE X (.Dict keys values pos) (b7T trs):=by
 intro pins s σ H Q I q
 have hn:=I.hok.fresh (AN s.heap.objs.size)
 have I1:=I.laid (a:=s.heap.objs.size) (o:= .dK []) (h':=s.heap.push {cls:= .type "dict",data:= .dict #[]}) (t':=s.toks) (fun _ _ q=>Ae _ q) (AN _) (b1u s.heap I.big)
 refine wpAny_Dict_walk (knd:=k4 X.prog X.w) hall hl h0 h15 (B8 (h pins _ σ _ _ I1 (q _ hn)) fun ws s2 ⟨ps,H2,I2,rel,e,kvs,ep,lk,q2⟩=> ?_)
 subst ep
 obtain⟨rs,c,rk⟩:=a3M (P:=X.prog) (w:=X.w) rel
 obtain⟨z,hd,vs0,r0,dd⟩:=b5o I2.hok e
 cases r0
 refine⟨rs,c,dd,fun h' dd' hs=>⟨.ref s.heap.objs.size,_, ?_,rfl,q2⟩⟩
 have hz:(Y8 [] kvs).length<=AK:=by
  have h1:=a0E kvs []
  rw [Aa] at h1
  rw [sizeLine_eq];lia
 have he:∃q,h'.get? s.heap.objs.size=some q:=let ⟨q,_,_,hq,_⟩:=dd';⟨q,hq⟩
 exact a3e I2 (by rw [e];exact True.intro) hs he (b1v hz hd (rk.merge .nil) dd')
section
variable {X:Cx}{pins:List (AB×Obj)}{σ:St}{H:Hp}{s:AC}{a:AB}{y d:V}{u r:AA}{o:Option V}{A:AO}{E:AA->AC->Prop}
end
section
variable {X:Cx}{o e f:AE}{apos cpos:Pos}{td ty tx:TE}
end
section
variable {X:Cx}{pins:List (AB×Obj)}{σ:St}{H:Hp}{s:AC}{a:AB}{kvs:List (f8×V)}{A:AO}{E:AA->AC->Prop}
end
section
variable {X:Cx}{pins:List (AB×Obj)}{σ:St}{H:Hp}{s:AC}{a:AB}{y:V}{u:AA}{A:AO}{E:AA->AC->Prop}
end
end L2
namespace Att
open PySem PySem.W PySem.Calls PyProof.Rows
section
variable {prog:AL}{w:AJ}{A:AO}{E:AA->AC->Prop}{s:AC}{K:Frag}
end
end Att
namespace L2
open PySem PySem.Spec PyProof.Rows
section
variable {P:AL}{w:AJ}{K:AD}{mg:Str->Option AA}{base:Heap}
end
section
variable {X:Cx}
end
section
variable {κ:Type}[DecidableEq κ]
end
end L2
set_option maxHeartbeats 4000000
namespace PU
open PySem PySem.Spec PyProof.Rows L2
abbrev PV:=PyData
def TqT(K:AD)(H:Hp)(a:AB)(xs:List V):Prop:=
 H a=some (.tup xs)\/∃(o:Obj) (its:Array AA) (n:Nat),K.lookup a=some o/\o.cls= .type "tuple"/\o.data= .seq its n/\its.size<=AK/\i4 xs its.toList
theorem TqT.of{K:AD}{H:Hp}{a:AB}{xs:List V}(h:H a=some (.tup xs)):TqT K H a xs:= .inl h
theorem TqT.sq{K:AD}{H:Hp}{a:AB}{xs:List V}(h:TqT K H a xs):V5 K H a xs:=h.elim (fun h=> .inl (.inl h)) .inr
instance {K:AD} {H:Hp} {a:AB} {xs:List V}:Coe (TqT K H a xs) (V5 K H a xs):=⟨TqT.sq⟩
theorem a9Z{K:AD}{H H':Hp}{a:AB}{xs:List V}(s:j5 H H')(h:TqT K H a xs):TqT K H' a xs:=h.elim (fun h=> .inl (s _ _ h)) .inr
def b06(K:AD)(x:Str)(v:V):Prop:=∃(a:AB) (oc:AA) (od:Option AB) (fd:FuncData) (osl:Array (Option AA)),v= .ref a/\K.lookup a=some ⟨oc,od,.func fd,osl⟩/\fd.name=x
def a67(K:AD)(x:Str)(C:AB):Prop:=PySem.W.nsIn K mainGlobals x=some (some (.ref C))/\∃(oc:AA) (od:Option AB) (cd:ClassData) (osl:Array (Option AA)),K.lookup C=some ⟨oc,od,.cls cd,osl⟩/\cd.name=x
theorem a67.inj{K:AD}{x y:Str}{C:AB}(h:a67 K x C)(h':a67 K y C):x=y:=by
 obtain⟨_,_,_,_,_,k,n⟩:=h
 obtain⟨_,_,_,_,_,k',n'⟩:=h'
 rw [k] at k';cases k'
 rw [<-n,n']
def b5R(K:AD)(H:Hp)(x:Str)(v:V):Prop:=∃(a C:AB) (φ:Heap->Prop),v= .ref a/\H a=some (.ext φ)/\
 (∀h:Heap,φ h->∃oe vs,h.get? a=some oe/\oe.cls= .ref C/\oe.data= .fields vs/\oe.dict=none)/\a67 K x C
def a27(K:AD)(H:Hp)(x:Str)(t:PV)(v:V):Prop:=(t= .none/\b06 K x v)\/(t= .bool true/\b5R K H x v)
theorem a27.ref{K:AD}{H:Hp}{x:Str}{t:PV}{v:V}(h:a27 K H x t v):∃a,v= .ref a:=by
 rcases h with⟨_,a,_,_,_,_,e,_⟩|⟨_,a,_,_,e,_⟩<;>exact⟨a,e⟩
theorem a27.mono{K:AD}{H H':Hp}{x:Str}{t:PV}{v:V}(s:j5 H H')(h:a27 K H x t v):a27 K H' x t v:=by
 rcases h with h|⟨z,a,C,φ,e,q,r⟩
 ·exact .inl h
 ·exact .inr ⟨z,a,C,φ,e,s _ _ q,r⟩
def kP:f8->PV
 | .inl i=> .int i
 | .inr x=> .str x
def s1{α:Type}(kv:f8×α):List f8×α:=([kv.1],kv.2)
mutual
def v6(K:AD)(H:Hp):PV->V->Prop
 | .none,v=>v= .non
 | .bool b,v=>v= .bl b
 | .int i,v=>v= .int i
 | .str x,v=>v= .str x
 | .tuple ps,v=>∃a xs,v= .ref a/\TqT K H a xs/\g9 K H ps xs
 | .list ps,v=>∃a xs,v= .ref a/\M2 K H a xs/\g9 K H ps xs
 | .dict kvs,v=>(∃a ys,v= .ref a/\H a=some (.dK ys)/\R6 K H kvs (ys.map s1))\/(∃a xs,v= .ref a/\H a=some (.dT xs)/\R6 K H kvs (([],.non)::xs))\/(∃x t,kvs=[(.str x,t)]/\a27 K H x t v)
def g9(K:AD)(H:Hp):List PV->List V->Prop
 |[],vs=>vs=[]
 |p::ps,vs=>∃v r,vs=v::r/\v6 K H p v/\g9 K H ps r
def R6(K:AD)(H:Hp):List (PV×PV)->List (List f8×V)->Prop
 |[],ys=>ys=[]
 |(k,p)::r,ys=>∃kk v t,ys=(kk,v)::t/\k= .tuple (kk.map kP)/\v6 K H p v/\R6 K H r t
end
theorem o5{K:AD}{H H':Hp}{a:AB}{xs:List V}(s:j5 H H')(h:V5 K H a xs):V5 K H' a xs:=by
 rcases h with(h|⟨o,h⟩)|h
 ·exact .inl (.inl (s _ _ h))
 ·exact .inl (.inr ⟨o,s _ _ h⟩)
 ·exact .inr h
theorem u4{K:AD}{H H':Hp}{a:AB}{xs:List V}(s:j5 H H')(h:M2 K H a xs):M2 K H' a xs:=by
 rcases h with(h|⟨o,h⟩)|h
 ·exact .inl (.inl (s _ _ h))
 ·exact .inl (.inr ⟨o,s _ _ h⟩)
 ·exact .inr h
mutual
theorem v6.mono{K:AD}{H H':Hp}(s:j5 H H'):∀(p:PV) {v:V},v6 K H p v->v6 K H' p v
 | .none,_,h=>h
 | .bool _,_,h=>h
 | .int _,_,h=>h
 | .str _,_,h=>h
 | .dict kvs,_,.inl ⟨a,ys,q,h,r⟩=> .inl ⟨a,ys,q,s _ _ h,R6.mono s kvs r⟩
 | .dict kvs,_,.inr (.inl ⟨a,xs,q,h,r⟩)=> .inr (.inl ⟨a,xs,q,s _ _ h,R6.mono s kvs r⟩)
 | .dict _,_,.inr (.inr ⟨x,t,e,h⟩)=> .inr (.inr ⟨x,t,e,h.mono s⟩)
 | .tuple ps,_,⟨a,xs,e,q,r⟩=>⟨a,xs,e,a9Z s q,g9.mono s ps r⟩
 | .list ps,_,⟨a,xs,e,q,r⟩=>⟨a,xs,e,u4 s q,g9.mono s ps r⟩
theorem g9.mono{K:AD}{H H':Hp}(s:j5 H H'):∀(ps:List PV) {vs:List V},g9 K H ps vs->g9 K H' ps vs
 |[],_,h=>h
 |p::ps,_,⟨v,r,e,q,t⟩=>⟨v,r,e,v6.mono s p q,g9.mono s ps t⟩
theorem R6.mono{K:AD}{H H':Hp}(s:j5 H H'):∀(es:List (PV×PV)) {ys:List (List f8×V)},R6 K H es ys->R6 K H' es ys
 |[],_,h=>h
 |(k,p)::es,_,⟨kk,v,r,e,z,q,t⟩=>⟨kk,v,r,e,z,v6.mono s p q,R6.mono s es t⟩
end
theorem g9.length{K:AD}{H:Hp}:∀{ps:List PV} {vs:List V},g9 K H ps vs->vs.length=ps.length
 |[],_,h=>by cases h;rfl
 |_::ps,_,⟨v,r,e,_,t⟩=>by subst e;rw [AT,AT,g9.length t]
theorem g9.get{K:AD}{H:Hp}:∀{ps:List PV} {vs:List V} {i:Nat} {p:PV},g9 K H ps vs->ps[i]?=some p->∃v,vs[i]?=some v/\v6 K H p v
 |[],_,_,_,_,h=>by simp at h
 |q::ps,_,0,p,⟨v,r,e,a,t⟩,h=>by subst e;simp at h;subst h;exact⟨v,rfl,a⟩
 |q::ps,_,i+1,p,⟨v,r,e,a,t⟩,h=>by subst e;exact g9.get (i:=i) t (by simpa using h)
theorem g9.getV{K:AD}{H:Hp}:∀{ps:List PV} {vs:List V} {i:Nat} {v:V},g9 K H ps vs->vs[i]?=some v->∃p,ps[i]?=some p/\v6 K H p v
 |[],_,_,_,h,e=>by cases h;simp at e
 |q::ps,_,0,v,⟨w,r,e,a,t⟩,h=>by subst e;simp at h;subst h;exact⟨q,rfl,a⟩
 |q::ps,_,i+1,v,⟨w,r,e,a,t⟩,h=>by subst e;exact g9.getV (i:=i) t (by simpa using h)
theorem g9.append{K:AD}{H:Hp}:∀{ps qs:List PV} {vs ws:List V},g9 K H ps vs->g9 K H qs ws->g9 K H (ps++qs) (vs++ws)
 |[],_,_,_,h,t=>by cases h;exact t
 |_::ps,_,_,_,⟨v,r,e,a,t⟩,s=>by subst e;exact⟨v,_,rfl,a,g9.append t s⟩
theorem g9.drop{K:AD}{H:Hp}:∀{ps:List PV} {vs:List V} (n:Nat),g9 K H ps vs->g9 K H (ps.drop n) (vs.drop n)
 |_,_,0,h=>h
 |[],_,n+1,h=>by cases h;rfl
 |_::ps,_,n+1,⟨v,r,e,a,t⟩=>by subst e;exact g9.drop n t
theorem g9.take{K:AD}{H:Hp}:∀{ps:List PV} {vs:List V} (n:Nat),g9 K H ps vs->g9 K H (ps.take n) (vs.take n)
 |_,_,0,h=>rfl
 |[],_,n+1,h=>by cases h;rfl
 |_::ps,_,n+1,⟨v,r,e,a,t⟩=>by subst e;exact⟨v,_,rfl,a,g9.take n t⟩
def t4(K:AD)(H:Hp):List (List f8×PV)->List (List f8×V)->Prop
 |[],ys=>ys=[]
 |(k,p)::r,ys=>∃v t,ys=(k,v)::t/\v6 K H p v/\t4 K H r t
theorem t4.mono{K:AD}{H H':Hp}(s:j5 H H'):∀(kvs:List (List f8×PV)) {ys:List (List f8×V)},t4 K H kvs ys->t4 K H' kvs ys
 |[],_,h=>h
 |(k,p)::r,_,⟨v,t,e,q,h⟩=>⟨v,t,e,v6.mono s p q,t4.mono s r h⟩
inductive M4 where
 |lst (ps:List PV)|dct (kvs:List (List f8×PV))|txt (kvs:List (List f8×PV))
inductive d7 where
 |val (p:PV)|ow (c:M4)|bo (c:M4)
abbrev d7.own(ps:List PV):d7:= .ow (.lst ps)
abbrev d7.bor(ps:List PV):d7:= .bo (.lst ps)
abbrev d7.dct(kvs:List (List f8×PV)):d7:= .ow (.dct kvs)
def W9(K:AD)(F H:Hp)(v:V):M4->Prop
 | .lst ps=>∃a xs,v= .ref a/\F a=none/\H a=some (.lst xs)/\g9 K F ps xs
 | .dct kvs=>∃a xs,v= .ref a/\F a=none/\H a=some (.dT xs)/\t4 K F kvs xs
 | .txt kvs=>∃a xs,v= .ref a/\F a=none/\H a=some (.dK xs)/\t4 K F kvs (xs.map s1)
def P9(K:AD)(F H:Hp)(v:V):d7->Prop
 | .val p=>v6 K F p v
 | .ow c=>W9 K F H v c
 | .bo c=>W9 K F H v c
theorem W9.at_{K:AD}{F H:Hp}{v:V}:∀{c:M4},W9 K F H v c->∃a o,v= .ref a/\F a=none/\H a=some o
 | .lst _,⟨a,_,e,n,q,_⟩=>⟨a,_,e,n,q⟩
 | .dct _,⟨a,_,e,n,q,_⟩=>⟨a,_,e,n,q⟩
 | .txt _,⟨a,_,e,n,q,_⟩=>⟨a,_,e,n,q⟩
def NT(o:HO):Prop:=∀xs,o≠.tup xs
structure K0(F H F' H':Hp):Prop where
 f:j5 F F'
 h:j5 H H'
 fh:j5 F' H'
 nw:∀b o,F b=none->H b=some o->NT o->F' b=none
 nf:∀b o u,F' b=some (.frz o u)->F b=some (.frz o u)
theorem j5.refl(H:Hp):j5 H H:=fun _ _ e=>e
theorem K0.refl{F H:Hp}(s:j5 F H):K0 F H F H:=⟨j5.refl F,j5.refl H,s,fun _ _ e _ _=>e,fun _ _ _ e=>e⟩
theorem K0.trans{F H F1 H1 F2 H2:Hp}(a:K0 F H F1 H1)(b:K0 F1 H1 F2 H2):K0 F H F2 H2:=
 ⟨a.f.trans b.f,a.h.trans b.h,b.fh,fun c o e q t=>b.nw c o (a.nw c o e q t) (a.h c o q) t,fun c o u e=>a.nf c o u (b.nf c o u e)⟩
theorem b2v{F0 F:Hp}{a:AB}{xs:List V}(h:∀b o u,F b=some (.frz o u)->F0 b=some (.frz o u)):∀b o u,upd F a (.lst xs) b=some (.frz o u)->F0 b=some (.frz o u):=fun b o u z=>by
 by_cases hb:b=a
 ·subst hb;rw [i7] at z;cases z
 ·rw [g5 hb] at z;exact h _ _ _ z
theorem W9.ext{K:AD}{F H F' H':Hp}{v:V}(x:K0 F H F' H'):∀{c:M4},W9 K F H v c->W9 K F' H' v c
 | .lst _,⟨a,xs,e,n,q,r⟩=>⟨a,xs,e,x.nw _ _ n q (fun _ h=>nomatch h),x.h _ _ q,g9.mono x.f _ r⟩
 | .dct _,⟨a,xs,e,n,q,r⟩=>⟨a,xs,e,x.nw _ _ n q (fun _ h=>nomatch h),x.h _ _ q,t4.mono x.f _ r⟩
 | .txt _,⟨a,xs,e,n,q,r⟩=>⟨a,xs,e,x.nw _ _ n q (fun _ h=>nomatch h),x.h _ _ q,t4.mono x.f _ r⟩
theorem P9.ext{K:AD}{F H F' H':Hp}{v:V}(x:K0 F H F' H'):∀{r:d7},P9 K F H v r->P9 K F' H' v r
 | .val p,h=>v6.mono x.f p h
 | .ow _,h=>W9.ext x h
 | .bo _,h=>W9.ext x h
def M4.rd:M4->PV
 | .lst ps=> .list ps
 | .dct kvs=> .dict ((.tuple [],.none)::kvs.map fun kv=>(.tuple (kv.1.map kP),kv.2))
 | .txt kvs=> .dict (kvs.map fun kv=>(.tuple (kv.1.map kP),kv.2))
def d7.rd:d7->PV
 | .val p=>p
 | .ow c=>c.rd
 | .bo c=>c.rd
def d7.toVal:d7->Option PV
 | .val p=>some p
 | .ow (.lst ps)=>some (.list ps)
 | .ow (.dct _)=>none
 | .ow (.txt _)=>none
 | .bo _=>none
theorem R6.of{K:AD}{F H:Hp}(s:j5 F H):∀{kvs:List (List f8×PV)} {xs:List (List f8×V)},t4 K F kvs xs->R6 K H (kvs.map fun kv=>(PyData.tuple (kv.1.map kP),kv.2)) xs
 |[],_,h=>h
 |(k,p)::r,_,⟨v,t,e,q,h⟩=>⟨k,v,t,e,rfl,v6.mono s p q,R6.of s h⟩
theorem W9.rd{K:AD}{F H:Hp}{v:V}(s:j5 F H):∀{c:M4},W9 K F H v c->v6 K H c.rd v
 | .lst ps,⟨a,xs,e,n,q,r⟩=>⟨a,xs,e,M2.of q,g9.mono s _ r⟩
 | .dct kvs,⟨a,xs,e,n,q,r⟩=> .inr (.inl ⟨a,xs,e,q,[],.non,xs,rfl,rfl,rfl,R6.of s r⟩)
 | .txt kvs,⟨a,xs,e,n,q,r⟩=> .inl ⟨a,xs,e,q,R6.of s r⟩
theorem P9.rd{K:AD}{F H:Hp}{v:V}(s:j5 F H):∀{r:d7},P9 K F H v r->v6 K H r.rd v
 | .val p,h=>v6.mono s p h
 | .ow _,h=>W9.rd s h
 | .bo _,h=>W9.rd s h
structure p8(K:AD)(F H F' H':Hp)(v:V)(r:d7):Prop where
 x:K0 F H F' H'
 rep:P9 K F' H' v r
 fr:∀c a,r= .ow c->v= .ref a->H a=none
theorem p8.val{K:AD}{F H F' H':Hp}{v:V}{p:PV}(x:K0 F H F' H')(r:v6 K F' p v):p8 K F H F' H' v (.val p):=⟨x,r,fun _ _ e=>nomatch e⟩
theorem p8.here{K:AD}{F H:Hp}{v:V}{p:PV}(s:j5 F H)(r:v6 K F p v):p8 K F H F H v (.val p):=p8.val (K0.refl s) r
theorem p8.trans{K:AD}{F H F1 H1 F2 H2:Hp}{v:V}{r:d7}(a:K0 F H F1 H1)(b:p8 K F1 H1 F2 H2 v r):p8 K F H F2 H2 v r:=
 ⟨a.trans b.x,b.rep,fun ps c e q=>a.h.free (b.fr ps c e q)⟩
theorem p8.toVal{K:AD}{F H F' H':Hp}{v:V}{p:PV}:∀{r:d7},p8 K F H F' H' v r->r.toVal=some p->∃F2,p8 K F H F2 H' v (.val p)
 | .val q,o,e=>by cases e;exact⟨F',o⟩
 | .bo _,_,e=>nomatch e
 | .ow (.dct _),_,e=>nomatch e
 | .ow (.txt _),_,e=>nomatch e
 | .ow (.lst ps),o,e=>by
   cases e
   obtain⟨a,xs,rfl,n,q,r⟩:=o.rep
   have fr:=o.fr _ a rfl rfl
   have up:j5 F' (upd F' a (.lst xs)):=fun b u z=>by rw [g5 (g6 z n)];exact z
   refine⟨upd F' a (.lst xs),p8.val ⟨o.x.f.trans up,o.x.h,fun b u z=> ?_,fun b u z y t=> ?_,b2v o.x.nf⟩ ⟨a,xs,rfl,M2.of i7,g9.mono up _ r⟩⟩
   ·by_cases hb:b=a
    ·subst hb;rw [i7] at z;cases z;exact q
    ·rw [g5 hb] at z;exact o.x.fh _ _ z
   ·rw [g5 (g6 y fr)];exact o.x.nw b u z y t
theorem C6{H:Hp}{a:AB}{o:HO}(n:H a=none):j5 H (upd H a o):=fun b u z=>by rw [g5 (g6 z n)];exact z
theorem K0.lay{F H:Hp}{a:AB}{o:HO}(s:j5 F H)(n:H a=none)(hf:∀x u,o≠.frz x u:=by intro _ _ h;cases h):K0 F H (upd F a o) (upd H a o):=
 ⟨C6 (s.free n),C6 n,fun b u z=>by
  by_cases hb:b=a
  ·subst hb;rw [i7] at z ⊢;exact z
  ·rw [g5 hb] at z ⊢;exact s _ _ z,fun b u z y _=>by rw [g5 (g6 y n)];exact z,fun b w u z=>by
  by_cases hb:b=a
  ·subst hb;rw [i7] at z;exact absurd (Option.some.inj z) (hf w u)
  ·rw [g5 hb] at z;exact z⟩
theorem K0.layH{F H:Hp}{a:AB}{o:HO}(s:j5 F H)(n:H a=none):K0 F H F (upd H a o):=
 ⟨j5.refl F,C6 n,fun b u z=>by rw [g5 (g6 (s _ _ z) n)];exact s _ _ z,fun b u z y _=>z,fun _ _ _ z=>z⟩
theorem p8.tup{K:AD}{F H:Hp}{a:AB}{xs:List V}{ps:List PV}(s:j5 F H)(n:H a=none)(r:g9 K F ps xs):p8 K F H (upd F a (.tup xs)) (upd H a (.tup xs)) (.ref a) (.val (.tuple ps)):=
 p8.val (K0.lay s n) ⟨a,xs,rfl,TqT.of i7,g9.mono (C6 (s.free n)) _ r⟩
theorem p8.lst{K:AD}{F H:Hp}{a:AB}{xs:List V}{ps:List PV}(s:j5 F H)(n:H a=none)(r:g9 K F ps xs):p8 K F H F (upd H a (.lst xs)) (.ref a) (.own ps):=
 ⟨K0.layH s n,⟨a,xs,rfl,s.free n,i7,r⟩,fun _ _ _ e=>by cases e;exact n⟩
abbrev a8:=List (Option d7)
structure x6(K:AD)(F H:Hp)(σ:L2.St)(ρ:a8):Prop where
 fh:j5 F H
 len:σ.length=ρ.length
 at_:∀(i:Nat) (r:d7),ρ[i]?=some (some r)->∃v,σ[i]?=some (some v)/\P9 K F H v r
 nb:∀(i:Nat) (c:M4),ρ[i]?≠some (some (.bo c))
 ap:∀(i j:Nat) (c d:M4) (a:AB),i≠j->ρ[i]?=some (some (.ow c))->ρ[j]?=some (some (.ow d))->σ[i]?=some (some (.ref a))->σ[j]?≠some (some (.ref a))
theorem x6.ext{K:AD}{F H F' H':Hp}{σ:L2.St}{ρ:a8}(e:x6 K F H σ ρ)(x:K0 F H F' H'):x6 K F' H' σ ρ:=
 ⟨x.fh,e.len,fun i r q=>let ⟨v,a,b⟩:=e.at_ i r q;⟨v,a,b.ext x⟩,e.nb,e.ap⟩
abbrev M:=a8->Option d7
def tM(K:AD)(m:M):TE:=fun σ H Q=>∃F ρ r,x6 K F H σ ρ/\m ρ=some r/\∀v F' H',p8 K F H F' H' v r->Q v H'
abbrev EE(X:Cx)(e:AE)(m:M):Prop:=PE X e (tM X.K m)
theorem u8{X:Cx}{e:AE}{t t':TE}(h:PE X e t)(i:∀σ H Q,t' σ H Q->t σ H Q):PE X e t':=fun pins s σ H Q I q=>h pins s σ H Q I (i σ H Q q)
theorem a6O{X:Cx}{e:AE}{t t':TT}(h:PT X e t)(i:∀σ H Q,t' σ H Q->t σ H Q):PT X e t':=fun pins s σ H Q I q=>h pins s σ H Q I (i σ H Q q)
theorem b6R{X:Cx}{e:AE}{t t':TT}(h:PW X e t)(i:∀σ H Q,t' σ H Q->t σ H Q):PW X e t':=fun wh pins s σ H Q I q=>h wh pins s σ H Q I (i σ H Q q)
theorem b2G{X:Cx}{e:List AE}{t t':TA}(h:PA X e t)(i:∀σ H Q,t' σ H Q->t σ H Q):PA X e t':=fun pos pins s σ H Q I q=>h pos pins s σ H Q I (i σ H Q q)
theorem B1{X:Cx}{e:Stmt}{t t':TS}(h:PS X e t)(i:∀D σ H,t' D σ H->t D σ H):PS X e t':=fun pins s σ H D I q=>h pins s σ H D I (i D σ H q)
theorem a3o{X:Cx}{e:List Stmt}{t t':TS}(h:PSs X e t)(i:∀D σ H,t' D σ H->t D σ H):PSs X e t':=fun pins s σ H D I q=>h pins s σ H D I (i D σ H q)
def mC(p:PV):M:=fun _=>some (.val p)
def a6(i:Nat):M:=fun ρ=>match ρ[i]? with
 |some (some (.ow c))=>some (.bo c)
 |some (some r)=>some r
 |_=>none
section
variable {X:Cx}{a b c:AE}{ma mb mc:M}{pos:Pos}
theorem Y0{e:AE}{v:V}{p:PV}(h:PE X e (tC v))(r:∀H,v6 X.K H p v):EE X e (mC p):=
 u8 h fun σ H Q ⟨F,ρ,q,he,hm,k⟩=>by
  cases hm
  exact k v F H (p8.here he.fh (r F))
theorem d6{i j pos}:EE X (.Constant (.int i) j pos) (mC (.int i)):=Y0 b6H fun _=>rfl
theorem V8{b j pos}:EE X (.Constant (.bool b) j pos) (mC (.bool b)):=Y0 b7H fun _=>rfl
theorem a3V{j pos}:EE X (.Constant .none j pos) (mC .none):=Y0 b6J fun _=>rfl
theorem k7{x j pos}:EE X (.Constant (.str x) j pos) (mC (.str x)):=Y0 b2L fun _=>rfl
theorem a4(i:Nat){x:Str}{pos:Pos}(h:PE X (.Name x pos) (Q6 i)):EE X (.Name x pos) (a6 i):=
 u8 h fun σ H Q ⟨F,ρ,r,he,hm,k⟩=>by
  unfold a6 at hm
  split at hm
  ·rename_i ps e
   cases hm
   obtain⟨v,e1,rr⟩:=he.at_ i _ e
   exact⟨v,e1,k v F H ⟨K0.refl he.fh,rr,fun _ _ z=>nomatch z⟩⟩
  ·rename_i r' nn e
   cases hm
   obtain⟨v,e1,rr⟩:=he.at_ i _ e
   exact⟨v,e1,k v F H ⟨K0.refl he.fh,rr,fun ps _ z=>absurd z (nn ps)⟩⟩
  ·cases hm
def rM2(K:AD)(g:d7->d7->Option d7):R2:=fun x y H Q=>∃F rx ry rz,j5 F H/\P9 K F H x rx/\P9 K F H y ry/\g rx ry=some rz/\∀v F' H',p8 K F H F' H' v rz->Q v H'
abbrev OpM(X:Cx)(f:AA->AA->Sem AA)(g:d7->d7->Option d7):Prop:=OpR X f (rM2 X.K g)
def m2(g:d7->d7->Option d7)(ma mb:M):M:=fun ρ=>(ma ρ).bind fun x=>(mb ρ).bind fun y=>g x y
theorem bind_some{α β:Type}{o:Option α}{f:α->Option β}{b:β}(h:o.bind f=some b):∃a,o=some a/\f a=some b:=by
 cases o with
 |none=>cases h
 |some a=>exact⟨a,rfl,h⟩
theorem a6V{K:AD}{g:d7->d7->Option d7}{σ:L2.St}{H:Hp}{Q:VK}(h:tM K (m2 g ma mb) σ H Q):tOp (rM2 K g) (tM K ma) (tM K mb) σ H Q:=by
 obtain⟨F,ρ,r,he,hm,k⟩:=h
 obtain⟨rx,e1,hm⟩:=bind_some hm
 obtain⟨ry,e2,hm⟩:=bind_some hm
 exact⟨F,ρ,rx,he,e1,fun v F1 H1 o1=>⟨F1,ρ,ry,he.ext o1.x,e2,fun u F2 H2 o2=>⟨F2,rx,ry,r,o2.x.fh,o1.rep.ext o2.x,o2.rep,hm,fun z F3 H3 o3=>k z F3 H3 (p8.trans (o1.x.trans o2.x) o3)⟩⟩⟩
theorem j6{op:Operator}{g:d7->d7->Option d7}(ho:OpM X (binaryOp op) g)(ha:EE X a ma)(hb:EE X b mb):EE X (.BinOp a op b pos) (m2 g ma mb):=
 u8 (b7K ho ha hb) fun _ _ _ h=>a6V h
theorem b1x{op:CmpOp}{g:d7->d7->Option d7}(ho:OpM X (compareOp op) g)(ha:EE X a ma)(hb:EE X b mb)(hm:behindInMarks op b=false):EE X (.Compare a [op] [b] pos) (m2 g ma mb):=
 u8 (b4F ho ha hb hm) fun _ _ _ h=>a6V h
theorem a0o{f:AA->AA->Sem AA}{r:R2}{g:d7->d7->Option d7}(h:OpR X f r)
 (i:∀F H x y rx ry rz,j5 F H->P9 X.K F H x rx->P9 X.K F H y ry->g rx ry=some rz->∀Q:VK,(∀v F' H',p8 X.K F H F' H' v rz->Q v H')->r x y H Q):OpM X f g:=
 fun pins s σ H x y v u Q I rx ry ⟨F,ra,rb,rz,s0,h1,h2,h3,k⟩=>h pins s σ H x y v u Q I rx ry (i F H x y ra rb rz s0 h1 h2 h3 Q k)
end
def gI(f:Int->Int->PV):d7->d7->Option d7
 | .val (.int i),.val (.int j)=>some (.val (f i j))
 |_,_=>none
theorem b2y:∃f:(Int->Int->Prop)->Int->Int->Bool,∀C i j,f C i j=true↔C i j:=⟨fun C i j=> @decide (C i j) (Classical.propDecidable _),fun C i j=> @decide_eq_true_iff (C i j) (Classical.propDecidable _)⟩
def okC:(Int->Int->Prop)->Int->Int->Bool:=b2y.choose
theorem a1L{C:Int->Int->Prop}{i j:Int}:okC C i j=true↔C i j:=b2y.choose_spec C i j
def gIc(C:Int->Int->Prop)[∀i j,Decidable (C i j)](f:Int->Int->PV):d7->d7->Option d7
 | .val (.int i),.val (.int j)=>if okC C i j=true then some (.val (f i j)) else none
 |_,_=>none
theorem b30{f:Int->Int->PV}{rx ry rz:d7}(h:gI f rx ry=some rz):∃i j,rx= .val (.int i)/\ry= .val (.int j)/\rz= .val (f i j):=by
 unfold gI at h
 split at h
 ·cases h;exact⟨_,_,rfl,rfl,rfl⟩
 ·cases h
theorem b1S{C:Int->Int->Prop}[∀i j,Decidable (C i j)]{f:Int->Int->PV}{rx ry rz:d7}(h:gIc C f rx ry=some rz):∃i j,rx= .val (.int i)/\ry= .val (.int j)/\C i j/\rz= .val (f i j):=by
 unfold gIc at h
 split at h
 ·split at h
  ·rename_i c;cases h;exact⟨_,_,rfl,rfl,a1L.mp c,rfl⟩
  ·cases h
 ·cases h
section
variable {X:Cx}
theorem b5A{f:AA->AA->Sem AA}{g:Int->Int->V}{g':Int->Int->PV}(h:OpR X f (rI0 g))(e:∀i j H,v6 X.K H (g' i j) (g i j)):OpM X f (gI g'):=
 a0o h fun F H x y rx ry rz s h1 h2 h3 Q k=>by
  obtain⟨i,j,rfl,rfl,rfl⟩:=b30 h3
  exact⟨i,j,h1,h2,k _ F H (p8.here s (e i j F))⟩
theorem a88{f:AA->AA->Sem AA}{C:Int->Int->Prop}[∀i j,Decidable (C i j)]{g:Int->Int->V}{g':Int->Int->PV}(h:OpR X f (rI C g))(e:∀i j H,v6 X.K H (g' i j) (g i j)):OpM X f (gIc C g'):=
 a0o h fun F H x y rx ry rz s h1 h2 h3 Q k=>by
  obtain⟨i,j,rfl,rfl,c,rfl⟩:=b1S h3
  exact⟨i,j,h1,h2,c,k _ F H (p8.here s (e i j F))⟩
end
section
variable {X:Cx}{pins:List (AB×Obj)}{σ:L2.St}{H:Hp}{s:AC}
theorem a2X(I:i2 X pins σ H s){a:AB}{xs ys:List V}(h:M2 X.K H a xs)(h':V5 X.K H a ys):False:=by
 obtain⟨its,r,p,_⟩:=I.list h
 obtain⟨its',r',p',_⟩:=I.tuple h'
 exact SeqAt.ne_of_list_tuple p.isList (show s.heap.IsTuple a its'.toArray from p') rfl
theorem a2V(I:i2 X pins σ H s){a:AB}{xs:List V}{ys:List (f8×V)}(h:H a=some (.dK ys))(h':M2 X.K H a xs):False:=by
 obtain⟨its,r,⟨o,n,e,c,_⟩,_⟩:=I.list h'
 obtain⟨_,_,_,_,o',_,_,e',ex,_⟩:=I.hok a _ h
 rw [e] at e';cases e'
 have:=ex.1
 rw [c] at this;exact absurd this (by simp)
theorem a2W(I:i2 X pins σ H s){a:AB}{xs:List V}{ys:List (f8×V)}(h:H a=some (.dK ys))(h':V5 X.K H a xs):False:=by
 obtain⟨its,r,⟨o,e,c,_⟩,_⟩:=I.tuple h'
 obtain⟨_,_,_,_,o',_,_,e',ex,_⟩:=I.hok a _ h
 rw [e] at e';cases e'
 have:=ex.1
 rw [c] at this;exact absurd this (by simp)
theorem a4t(I:i2 X pins σ H s){a:AB}{ys:List (List f8×V)}{xs:List V}(h:H a=some (.dT ys))(h':M2 X.K H a xs):False:=by
 obtain⟨its,r,⟨o,n,e,c,_⟩,_⟩:=I.list h'
 obtain⟨_,_,_,_,o',_,_,e',ex,_⟩:=I.hok a _ h
 rw [e] at e';cases e'
 have:=ex.1
 rw [c] at this;exact absurd this (by simp)
theorem a4u(I:i2 X pins σ H s){a:AB}{ys:List (List f8×V)}{xs:List V}(h:H a=some (.dT ys))(h':V5 X.K H a xs):False:=by
 obtain⟨its,r,⟨o,e,c,_⟩,_⟩:=I.tuple h'
 obtain⟨_,_,_,_,o',_,_,e',ex,_⟩:=I.hok a _ h
 rw [e] at e';cases e'
 have:=ex.1
 rw [c] at this;exact absurd this (by simp)
theorem a9E(I:i2 X pins σ H s){x:Str}{v:V}(h:b06 X.K x v):∃(a:AB) (o:Obj) (fd:FuncData),v= .ref a/\s.heap.get? a=some o/\o.data= .func fd/\fd.name=x:=by
 obtain⟨a,oc,od,fd,osl,e,k,n⟩:=h
 exact⟨a,_,fd,e,I.kIn a _ k,rfl,n⟩
theorem a3s(I:i2 X pins σ H s){x:Str}{v:V}(h:b5R X.K H x v):∃(a C:AB) (o:Obj) (vs:Array AA),v= .ref a/\s.heap.get? a=some o/\o.cls= .ref C/\o.data= .fields vs/\a67 X.K x C/\o.dict=none:=by
 obtain⟨a,C,φ,e,q,k,n⟩:=h
 obtain⟨oe,vs,h1,h2,h3,h4⟩:=k _ (I.hok a _ q).1
 exact⟨a,C,oe,vs,e,h1,h2,h3,n,h4⟩
theorem a4x(I:i2 X pins σ H s){x:Str}{a:AB}{xs:List V}{t:PV}(h:a27 X.K H x t (.ref a))(h':V5 X.K H a xs):False:=by
 obtain⟨its,r,⟨o',e',c',n',d'⟩,_⟩:=I.tuple h'
 rcases h with⟨_,h⟩|⟨_,h⟩
 ·obtain⟨b,o,fd,e,g,d,_⟩:=a9E I h
  cases e
  rw [g] at e';cases e'
  rw [d] at d';cases d'
 ·obtain⟨b,C,o,vs,e,g,c,d,_⟩:=a3s I h
  cases e
  rw [g] at e';cases e'
  rw [d] at d';cases d'
theorem a4w(I:i2 X pins σ H s){x:Str}{a:AB}{xs:List V}{t:PV}(h:a27 X.K H x t (.ref a))(h':M2 X.K H a xs):False:=by
 obtain⟨its,r,pl,_⟩:=I.list h'
 obtain⟨o',e',c',n',d'⟩:=pl.isList
 rcases h with⟨_,h⟩|⟨_,h⟩
 ·obtain⟨b,o,fd,e,g,d,_⟩:=a9E I h
  cases e
  rw [g] at e';cases e'
  rw [d] at d';cases d'
 ·obtain⟨b,C,o,vs,e,g,c,d,_⟩:=a3s I h
  cases e
  rw [g] at e';cases e'
  rw [d] at d';cases d'
theorem a4v(I:i2 X pins σ H s){x:Str}{a:AB}{ys:List (f8×V)}{t:PV}(h:a27 X.K H x t (.ref a))(h':H a=some (.dK ys)):False:=by
 rcases h with⟨_,b,oc,od,fd,osl,e,k,_⟩|⟨_,b,C,φ,e,q,_⟩
 ·cases e
  have:=(I.bs a _ (I.ok.mod.kin a _ k)).2
  rw [this] at h';cases h'
 ·cases e
  rw [q] at h';cases h'
theorem a5N(I:i2 X pins σ H s){x:Str}{a:AB}{ys:List (List f8×V)}{t:PV}(h:a27 X.K H x t (.ref a))(h':H a=some (.dT ys)):False:=by
 rcases h with⟨_,b,oc,od,fd,osl,e,k,_⟩|⟨_,b,C,φ,e,q,_⟩
 ·cases e
  have:=(I.bs a _ (I.ok.mod.kin a _ k)).2
  rw [this] at h';cases h'
 ·cases e
  rw [q] at h';cases h'
theorem a5O(I:i2 X pins σ H s){x y:Str}{v:V}(h:b06 X.K x v)(h':b5R X.K H y v):False:=by
 obtain⟨b,oc,od,fd,osl,e,k,_⟩:=h
 obtain⟨b',C,φ,e',q,_⟩:=h'
 rw [e] at e';cases e'
 have:=(I.bs b _ (I.ok.mod.kin b _ k)).2
 rw [this] at q;cases q
theorem b7v(I:i2 X pins σ H s){x y:Str}{t u:PV}{v:V}(h:a27 X.K H x t v)(h':a27 X.K H y u v):x=y/\t=u:=by
 rcases h with⟨rfl,h⟩|⟨rfl,h⟩<;>rcases h' with⟨rfl,h'⟩|⟨rfl,h'⟩
 all_goals first|refine⟨?_,rfl⟩|skip
 ·obtain⟨b,oc,od,fd,osl,e,k,n⟩:=h
  obtain⟨b',oc',od',fd',osl',e',k',n'⟩:=h'
  rw [e] at e';cases e'
  rw [k] at k';cases k'
  rw [<-n,n']
 ·exact(a5O I h h').elim
 ·exact(a5O I h' h).elim
 ·obtain⟨b,C,o,vs,e,g,c,d,n,_⟩:=a3s I h
  obtain⟨b',C',o',vs',e',g',c',d',n',_⟩:=a3s I h'
  rw [e] at e';cases e'
  rw [g] at g';cases g'
  rw [c] at c';cases c'
  exact n.inj n'
mutual
theorem v6.inj(I:i2 X pins σ H s):∀(p q:PV) {v:V},v6 X.K H p v->v6 X.K H q v->p=q
 | .tuple ps,q,v,⟨a,xs,e,h,r⟩,h'=>by
   subst e
   cases q with
   |tuple qs=>
    obtain⟨a',xs',e',h',r'⟩:=h'
    cases e'
    cases I.tuple_inj h.sq h'.sq
    rw [g9.inj I ps qs r r']
   |list qs=>obtain⟨a',xs',e',h',r'⟩:=h';cases e';exact(a2X I h' h.sq).elim
   |dict qs=>
    rcases h' with⟨a',_,e',h',_⟩|⟨a',_,e',h',_⟩|⟨x,t,_,h'⟩
    ·cases e';exact(a2W I h' h.sq).elim
    ·cases e';exact(a4u I h' h.sq).elim
    ·exact(a4x I h' h.sq).elim
   |_=>cases h'
 | .list ps,q,v,⟨a,xs,e,h,r⟩,h'=>by
   subst e
   cases q with
   |list qs=>
    obtain⟨a',xs',e',h',r'⟩:=h'
    cases e'
    cases I.list_inj h h'
    rw [g9.inj I ps qs r r']
   |tuple qs=>obtain⟨a',xs',e',h',r'⟩:=h';cases e';exact(a2X I h h'.sq).elim
   |dict qs=>
    rcases h' with⟨a',_,e',h',_⟩|⟨a',_,e',h',_⟩|⟨x,t,_,h'⟩
    ·cases e';exact(a2V I h' h).elim
    ·cases e';exact(a4t I h' h).elim
    ·exact(a4w I h' h).elim
   |_=>cases h'
 | .dict ps,q,v,.inl ⟨a,ys,e,h,hr⟩,h'=>by
   subst e
   cases q with
   |tuple qs=>obtain⟨a',xs',e',h',r'⟩:=h';cases e';exact(a2W I h h'.sq).elim
   |list qs=>obtain⟨a',xs',e',h',r'⟩:=h';cases e';exact(a2V I h h').elim
   |dict qs=>
    rcases h' with⟨a',_,e',h',r'⟩|⟨a',_,e',h',_⟩|⟨x,t,_,h'⟩
    ·cases e';rw [h] at h';cases h';rw [R6.inj I ps qs hr r']
    ·cases e';rw [h] at h';cases h'
    ·exact(a4v I h' h).elim
   |_=>cases h'
 | .dict ps,q,v,.inr (.inl ⟨a,ys,e,h,hr⟩),h'=>by
   subst e
   cases q with
   |tuple qs=>obtain⟨a',xs',e',h',r'⟩:=h';cases e';exact(a4u I h h'.sq).elim
   |list qs=>obtain⟨a',xs',e',h',r'⟩:=h';cases e';exact(a4t I h h').elim
   |dict qs=>
    rcases h' with⟨a',_,e',h',_⟩|⟨a',_,e',h',r'⟩|⟨x,t,_,h'⟩
    ·cases e';rw [h] at h';cases h'
    ·cases e';rw [h] at h';cases h';rw [R6.inj I ps qs hr r']
    ·exact(a5N I h' h).elim
   |_=>cases h'
 | .dict ps,q,v,.inr (.inr ⟨x,t,e0,h⟩),h'=>by
   subst e0
   cases q with
   |tuple qs=>obtain⟨a',xs',e',h',r'⟩:=h';subst e';exact(a4x I h h'.sq).elim
   |list qs=>obtain⟨a',xs',e',h',r'⟩:=h';subst e';exact(a4w I h h').elim
   |dict qs=>
    rcases h' with⟨a',_,e',h',_⟩|⟨a',_,e',h',_⟩|⟨y,u,e1,h'⟩
    ·subst e';exact(a4v I h h').elim
    ·subst e';exact(a5N I h h').elim
    ·obtain⟨z1,z2⟩:=b7v I h h';rw [e1,z1,z2]
   |none=>obtain⟨_,e⟩:=h.ref;rw [e] at h';cases h'
   |bool _=>obtain⟨_,e⟩:=h.ref;rw [e] at h';cases h'
   |int _=>obtain⟨_,e⟩:=h.ref;rw [e] at h';cases h'
   |str _=>obtain⟨_,e⟩:=h.ref;rw [e] at h';cases h'
 | .none,q,v,h,h'=>by
   cases h
   cases q with
   |none=>rfl
   |tuple _=>obtain⟨_,_,e,_⟩:=h';cases e
   |list _=>obtain⟨_,_,e,_⟩:=h';cases e
   |dict _=>
    rcases h' with⟨_,_,e,_,_⟩|⟨_,_,e,_⟩|⟨_,_,_,h'⟩
    ·cases e
    ·cases e
    ·obtain⟨_,e⟩:=h'.ref;cases e
   |_=>cases h'
 | .bool _,q,v,h,h'=>by
   cases h
   cases q with
   |bool _=>cases h';rfl
   |tuple _=>obtain⟨_,_,e,_⟩:=h';cases e
   |list _=>obtain⟨_,_,e,_⟩:=h';cases e
   |dict _=>
    rcases h' with⟨_,_,e,_,_⟩|⟨_,_,e,_⟩|⟨_,_,_,h'⟩
    ·cases e
    ·cases e
    ·obtain⟨_,e⟩:=h'.ref;cases e
   |_=>cases h'
 | .int _,q,v,h,h'=>by
   cases h
   cases q with
   |int _=>cases h';rfl
   |tuple _=>obtain⟨_,_,e,_⟩:=h';cases e
   |list _=>obtain⟨_,_,e,_⟩:=h';cases e
   |dict _=>
    rcases h' with⟨_,_,e,_,_⟩|⟨_,_,e,_⟩|⟨_,_,_,h'⟩
    ·cases e
    ·cases e
    ·obtain⟨_,e⟩:=h'.ref;cases e
   |_=>cases h'
 | .str _,q,v,h,h'=>by
   cases h
   cases q with
   |str _=>cases h';rfl
   |tuple _=>obtain⟨_,_,e,_⟩:=h';cases e
   |list _=>obtain⟨_,_,e,_⟩:=h';cases e
   |dict _=>
    rcases h' with⟨_,_,e,_,_⟩|⟨_,_,e,_⟩|⟨_,_,_,h'⟩
    ·cases e
    ·cases e
    ·obtain⟨_,e⟩:=h'.ref;cases e
   |_=>cases h'
theorem g9.inj(I:i2 X pins σ H s):∀(ps qs:List PV) {vs:List V},g9 X.K H ps vs->g9 X.K H qs vs->ps=qs
 |[],qs,vs,h,h'=>by
  cases h
  cases qs with
  |nil=>rfl
  |cons q qs=>obtain⟨_,_,e,_⟩:=h';cases e
 |p::ps,qs,vs,⟨v,r,e,h,t⟩,h'=>by
  subst e
  cases qs with
  |nil=>cases h'
  |cons q qs=>
   obtain⟨v',r',e',h',t'⟩:=h'
   cases e'
   rw [v6.inj I p q h h',g9.inj I ps qs t t']
theorem R6.inj(I:i2 X pins σ H s):∀(es fs:List (PV×PV)) {ys:List (List f8×V)},R6 X.K H es ys->R6 X.K H fs ys->es=fs
 |[],fs,ys,h,h'=>by
  cases h
  cases fs with
  |nil=>rfl
  |cons f fs=>obtain⟨k,p⟩:=f;obtain⟨_,_,_,e,_⟩:=h';cases e
 |(k,p)::es,fs,ys,⟨kk,v,r,e,z,q,t⟩,h'=>by
  subst e
  cases fs with
  |nil=>cases h'
  |cons f fs=>
   obtain⟨k',p'⟩:=f
   obtain⟨kk',v',r',e',z',q',t'⟩:=h'
   cases e'
   rw [z,z',v6.inj I p p' q q',R6.inj I es fs t t']
end
end
mutual
def n4:PV->Nat->Bool
 | .list xs,n+1=>C1 xs n
 | .tuple xs,n+1=>C1 xs n
 | .list _,0=>false
 | .tuple _,0=>false
 | .dict _,_=>false
 | .none,_=>true
 | .bool _,_=>true
 | .int _,_=>true
 | .str _,_=>true
def C1:List PV->Nat->Bool
 |[],_=>true
 |x::xs,n=>n4 x n && C1 xs n
end
mutual
theorem a7y:∀(p:PV) (n:Nat),n4 p n=true->PyData.eqv p p=true
 | .none,_,_=>by simp [PyData.eqv]
 | .bool _,_,_=>by simp [PyData.eqv]
 | .int _,_,_=>by simp [PyData.eqv]
 | .str _,_,_=>by simp [PyData.eqv]
 | .list xs,n+1,h=>by simp only [PyData.eqv];exact R8 xs n (by simpa [n4] using h)
 | .tuple xs,n+1,h=>by simp only [PyData.eqv];exact R8 xs n (by simpa [n4] using h)
 | .list xs,0,h=>by simp [n4] at h
 | .tuple xs,0,h=>by simp [n4] at h
 | .dict _,_,h=>by simp [n4] at h
theorem R8:∀(ps:List PV) (n:Nat),C1 ps n=true->PyData.eqvAll ps ps=true
 |[],_,_=>by simp [PyData.eqvAll]
 |x::xs,n,h=>by
  have h':n4 x n=true/\C1 xs n=true:=by simpa [C1] using h
  simp only [PyData.eqvAll,a7y x n h'.1,R8 xs n h'.2,Bool.and_self]
end
def eAt(ps qs:List PV)(j:Nat):Bool:=match ps[j]?,qs[j]? with
 |some p,some q=>PyData.eqv p q
 |_,_=>false
theorem L5:∀(ps qs:List PV),PyData.eqvAll ps qs=((AW (min ps.length qs.length)).all (eAt ps qs)&& ps.length==qs.length)
 |[],[]=>by simp [PyData.eqvAll]
 |[],_::_=>by simp [PyData.eqvAll]
 |_::_,[]=>by simp [PyData.eqvAll]
 |p::ps,q::qs=>by
  have e:min (p::ps).length (q::qs).length=min ps.length qs.length+1:=by simp only [AT];lia
  rw [e,List.range_succ_eq_map,List.all_cons,List.all_map]
  have h0:eAt (p::ps) (q::qs) 0=PyData.eqv p q:=rfl
  have h1:(eAt (p::ps) (q::qs)∘Nat.succ)=eAt ps qs:=by funext j;simp [eAt,Function.comp]
  rw [h0,h1]
  simp only [PyData.eqvAll,L5 ps qs,AT,Bool.and_assoc]
  have e2:(ps.length+1==qs.length+1)=(ps.length==qs.length):=by
   rw [Bool.eq_iff_iff];simp
  rw [e2]
section
variable {X:Cx}{pins:List (AB×Obj)}{σ:L2.St}{H:Hp}{s:AC}
structure b05(A:AO)(s:AC)(u w:AA)(b:Bool):Prop where
 rc:SeqAt.RcAt A s u w b
 ne:SeqAt.RcNeAt A s u w (!b)
 eq:SeqAt.EqAt A s u w b
theorem a5z(A:AO):A.in1.units=A.units+1:=rfl
theorem a97{xs:List V}{its:List AA}{j:Nat}(r:i4 xs its)(h:j<its.length):∃x,xs[j]?=some x/\l6 x its[j]:=by
 have hx:j<xs.length:=by rw [r.length];exact h
 obtain⟨u,h1,h2⟩:=r.get (i:=j) (x:=xs[j]) (by simp [hx])
 rw [BA h] at h1
 cases h1
 exact⟨xs[j],by simp [hx],h2⟩
theorem a8h{A:AO}{ps qs:List PV}{xs ys:List V}{its its2:List AA}(r:g9 X.K H ps xs)(r':g9 X.K H qs ys)(rv:i4 xs its)(rv':i4 ys its2)
 (ih:∀p q x y u w,p∈ps->q∈qs->v6 X.K H p x->v6 X.K H q y->l6 x u->l6 y w->b05 A s u w (PyData.eqv p q)):
 ∀j (h1:j<its.toArray.size) (h2:j<its2.toArray.size),SeqAt.EqAt A s its.toArray[j] its2.toArray[j] (eAt ps qs j):=by
 intro j h1 h2
 have h1':j<its.length:=by simpa using h1
 have h2':j<its2.length:=by simpa using h2
 obtain⟨x,ex,rx⟩:=a97 rv h1'
 obtain⟨y,ey,ry⟩:=a97 rv' h2'
 obtain⟨p,ep,hp⟩:=r.getV ex
 obtain⟨q,eq,hq⟩:=r'.getV ey
 have:eAt ps qs j=PyData.eqv p q:=by simp [eAt,ep,eq]
 rw [this]
 have z:=(ih p q x y _ _ (Au ep) (Au eq) hp hq rx ry).eq
 simpa using z
theorem M3:∀{ps:List PV} {n:Nat} {p:PV},C1 ps n=true->p∈ps->n4 p n=true
 |[],_,_,_,h=>by cases h
 |x::xs,n,p,h,hp=>by
  have h':n4 x n=true/\C1 xs n=true:=by simpa [C1] using h
  rcases Ag.mp hp with rfl|hp
  ·exact h'.1
  ·exact M3 h'.2 hp
theorem a8G(I:i2 X pins σ H s):∀(n:Nat) (A:AO) (p q:PV) (x y:V) (u w:AA),A.units+n<cLine->n4 p n=true->n4 q n=true->v6 X.K H p x->v6 X.K H q y->l6 x u->l6 y w->b05 A s u w (PyData.eqv p q):=by
 intro n
 induction n with
 |zero=>
  intro A p q x y u w hu hp hq rp rq rx ry
  cases p with
  |none=>
   cases rp;cases rx
   cases q with
   |none=>cases rq;cases ry;simp only [PyData.eqv];exact⟨.none_none,.none_none,.same _⟩
   |bool j=>cases rq;cases ry;simp only [PyData.eqv];exact⟨.none_bool _,.none_bool _,.none_bool _⟩
   |int j=>cases rq;obtain⟨ty,rfl⟩:=ry;simp only [PyData.eqv];exact⟨.none_int _ _,.none_int _ _,.none_int _ _⟩
   |str j=>cases rq;obtain⟨ty,rfl⟩:=ry;simp only [PyData.eqv];exact⟨.none_str _ _,.none_str _ _,.none_str _ _⟩
   |dict _=>simp [n4] at hq
   |list _=>simp [n4] at hq
   |tuple _=>simp [n4] at hq
  |bool i=>
   cases rp;cases rx
   cases q with
   |none=>cases rq;cases ry;simp only [PyData.eqv];exact⟨.bool_none _,.bool_none _,.bool_none _⟩
   |bool j=>cases rq;cases ry;simp only [PyData.eqv];exact⟨.bool_bool _ _,.bool_bool _ _,.bool_bool _ _⟩
   |int j=>cases rq;obtain⟨ty,rfl⟩:=ry;simp only [PyData.eqv];exact⟨.bool_int _ _ _,.bool_int _ _ _,.bool_int _ _ _⟩
   |str j=>cases rq;obtain⟨ty,rfl⟩:=ry;simp only [PyData.eqv];exact⟨.bool_str _ _ _,.bool_str _ _ _,.bool_str _ _ _⟩
   |dict _=>simp [n4] at hq
   |list _=>simp [n4] at hq
   |tuple _=>simp [n4] at hq
  |int i=>
   cases rp;obtain⟨tx,rfl⟩:=rx
   cases q with
   |none=>cases rq;cases ry;simp only [PyData.eqv];exact⟨.int_none _ _,.int_none _ _,.int_none _ _⟩
   |bool j=>cases rq;cases ry;simp only [PyData.eqv];exact⟨.int_bool _ _ _,.int_bool _ _ _,.int_bool _ _ _⟩
   |int j=>cases rq;obtain⟨ty,rfl⟩:=ry;simp only [PyData.eqv];exact⟨.int_int _ _ _ _,.int_int _ _ _ _,.int_int _ _ _ _⟩
   |str j=>cases rq;obtain⟨ty,rfl⟩:=ry;simp only [PyData.eqv];exact⟨.int_str _ _ _ _,.int_str _ _ _ _,.int_str _ _ _ _⟩
   |dict _=>simp [n4] at hq
   |list _=>simp [n4] at hq
   |tuple _=>simp [n4] at hq
  |str i=>
   cases rp;obtain⟨tx,rfl⟩:=rx
   cases q with
   |none=>cases rq;cases ry;simp only [PyData.eqv];exact⟨.str_none _ _,.str_none _ _,.str_none _ _⟩
   |bool j=>cases rq;cases ry;simp only [PyData.eqv];exact⟨.str_bool _ _ _,.str_bool _ _ _,.str_bool _ _ _⟩
   |int j=>cases rq;obtain⟨ty,rfl⟩:=ry;simp only [PyData.eqv];exact⟨.str_int _ _ _ _,.str_int _ _ _ _,.str_int _ _ _ _⟩
   |str j=>cases rq;obtain⟨ty,rfl⟩:=ry;simp only [PyData.eqv];exact⟨.str_str _ _ _ _,.str_str _ _ _ _,.str_str _ _ _ _⟩
   |dict _=>simp [n4] at hq
   |list _=>simp [n4] at hq
   |tuple _=>simp [n4] at hq
  |dict _=>simp [n4] at hp
  |list _=>simp [n4] at hp
  |tuple _=>simp [n4] at hp
 |succ n ih=>
  intro A p q x y u w hu hp hq rp rq rx ry
  have hu0:A.units<cLine:=by lia
  have hu1:A.in1.units+n<cLine:=by rw [a5z];lia
  cases p with
  |dict _=>simp [n4] at hp
  |list ps=>
   obtain⟨a,xs,rfl,hs,r⟩:=rp
   cases rx
   obtain⟨its,rv,pl,hz⟩:=I.list hs
   have okp:C1 ps n=true:=by simpa [n4] using hp
   cases q with
   |dict _=>simp [n4] at hq
   |list qs=>
    obtain⟨b,ys,rfl,hs',r'⟩:=rq
    cases ry
    obtain⟨its2,rv',pl',hz'⟩:=I.list hs'
    have okq:C1 qs n=true:=by simpa [n4] using hq
    have hle:its.toArray.size=ps.length:=by rw [<-r.length,rv.length];simp
    have hle':its2.toArray.size=qs.length:=by rw [<-r'.length,rv'.length];simp
    have he:=a8h (A:=A.in1) (s:=s) r r' rv rv' fun p q x y u w hp' hq' rp' rq' rx' ry'=>ih A.in1 p q x y u w hu1 (M3 okp hp') (M3 okq hq') rp' rq' rx' ry'
    simp only [PyData.eqv]
    have main:SeqAt.RcAt A s (.ref a) (.ref b) (PyData.eqvAll ps qs)/\SeqAt.RcNeAt A s (.ref a) (.ref b) (!PyData.eqvAll ps qs):=by
     by_cases e:its.toArray.size=its2.toArray.size
     ·have el:ps.length=qs.length:=by rw [<-hle,<-hle',e]
      have e3:PyData.eqvAll ps qs=(AW its.toArray.size).all (eAt ps qs):=by
       rw [L5,el,Nat.min_self,hle,el];simp
      rw [e3]
      exact⟨.lists pl.isList pl'.isList e hu0 he,.lists pl.isList pl'.isList e hu0 he⟩
     ·have e3:PyData.eqvAll ps qs=false:=by
       rw [L5]
       have:(ps.length==qs.length)=false:=by
        rw [beq_eq_false_iff_ne];intro z;exact e (by rw [hle,hle',z])
       rw [this,Bool.and_false]
      have e4:(its.toArray.size !=its2.toArray.size)=true:=by simpa using e
      rw [e3]
      exact⟨.lists_lengths pl.isList pl'.isList e4 hu0,.lists_lengths pl.isList pl'.isList e4 hu0⟩
    refine⟨main.1,main.2, ?_⟩
    by_cases hab:a=b
    ·subst hab
     cases I.list_inj hs hs'
     cases g9.inj I ps qs r r'
     rw [R8 ps n okp]
     exact .same _
    ·exact .of_refs hab main.1
   |tuple qs=>
    obtain⟨b,ys,rfl,hs',r'⟩:=rq
    cases ry
    obtain⟨its2,rv',pl',hz'⟩:=I.tuple hs'.sq
    simp only [PyData.eqv]
    exact⟨.list_tuple pl.isList pl' hu0,.list_tuple pl.isList pl' hu0,.list_tuple pl.isList pl' hu0⟩
   |none=>cases rq;cases ry;simp only [PyData.eqv];exact⟨.list_none pl.isList hu0,.list_none pl.isList hu0,.list_none pl.isList hu0⟩
   |bool k=>cases rq;cases ry;simp only [PyData.eqv];exact⟨.list_bool _ pl.isList hu0,.list_bool _ pl.isList hu0,.list_bool _ pl.isList hu0⟩
   |int k=>cases rq;obtain⟨t,rfl⟩:=ry;simp only [PyData.eqv];exact⟨.list_int _ _ pl.isList hu0,.list_int _ _ pl.isList hu0,.list_int _ _ pl.isList hu0⟩
   |str k=>cases rq;obtain⟨t,rfl⟩:=ry;simp only [PyData.eqv];exact⟨.list_str _ _ pl.isList hu0,.list_str _ _ pl.isList hu0,.list_str _ _ pl.isList hu0⟩
  |tuple ps=>
   obtain⟨a,xs,rfl,hs,r⟩:=rp
   cases rx
   obtain⟨its,rv,pl,hz⟩:=I.tuple hs.sq
   have okp:C1 ps n=true:=by simpa [n4] using hp
   cases q with
   |dict _=>simp [n4] at hq
   |tuple qs=>
    obtain⟨b,ys,rfl,hs',r'⟩:=rq
    cases ry
    obtain⟨its2,rv',pl',hz'⟩:=I.tuple hs'.sq
    have okq:C1 qs n=true:=by simpa [n4] using hq
    have hle:its.toArray.size=ps.length:=by rw [<-r.length,rv.length];simp
    have hle':its2.toArray.size=qs.length:=by rw [<-r'.length,rv'.length];simp
    have he:=a8h (A:=A.in1) (s:=s) r r' rv rv' fun p q x y u w hp' hq' rp' rq' rx' ry'=>ih A.in1 p q x y u w hu1 (M3 okp hp') (M3 okq hq') rp' rq' rx' ry'
    simp only [PyData.eqv]
    have e3:PyData.eqvAll ps qs=((AW (min its.toArray.size its2.toArray.size)).all (eAt ps qs)&& its.toArray.size==its2.toArray.size):=by
     rw [L5,hle,hle']
    have main:SeqAt.RcAt A s (.ref a) (.ref b) (PyData.eqvAll ps qs)/\SeqAt.RcNeAt A s (.ref a) (.ref b) (!PyData.eqvAll ps qs):=by
     rw [e3]
     exact⟨.tuples pl pl' hu0 he,.tuples pl pl' hu0 he⟩
    refine⟨main.1,main.2, ?_⟩
    by_cases hab:a=b
    ·subst hab
     cases I.tuple_inj hs.sq hs'.sq
     cases g9.inj I ps qs r r'
     rw [R8 ps n okp]
     exact .same _
    ·exact .of_refs hab main.1
   |list qs=>
    obtain⟨b,ys,rfl,hs',r'⟩:=rq
    cases ry
    obtain⟨its2,rv',pl',hz'⟩:=I.list hs'
    simp only [PyData.eqv]
    exact⟨.tuple_list pl pl'.isList hu0,.tuple_list pl pl'.isList hu0,.tuple_list pl pl'.isList hu0⟩
   |none=>cases rq;cases ry;simp only [PyData.eqv];exact⟨.tuple_none pl hu0,.tuple_none pl hu0,.tuple_none pl hu0⟩
   |bool k=>cases rq;cases ry;simp only [PyData.eqv];exact⟨.tuple_bool _ pl hu0,.tuple_bool _ pl hu0,.tuple_bool _ pl hu0⟩
   |int k=>cases rq;obtain⟨t,rfl⟩:=ry;simp only [PyData.eqv];exact⟨.tuple_int _ _ pl hu0,.tuple_int _ _ pl hu0,.tuple_int _ _ pl hu0⟩
   |str k=>cases rq;obtain⟨t,rfl⟩:=ry;simp only [PyData.eqv];exact⟨.tuple_str _ _ pl hu0,.tuple_str _ _ pl hu0,.tuple_str _ _ pl hu0⟩
  |none=>
   cases q with
   |list qs=>
    obtain⟨b,ys,rfl,hs',r'⟩:=rq;cases ry;obtain⟨its2,rv',pl',hz'⟩:=I.list hs';cases rp;cases rx;simp only [PyData.eqv]
    exact⟨.none_list pl'.isList hu0,.none_list pl'.isList hu0,.none_list pl'.isList hu0⟩
   |tuple qs=>
    obtain⟨b,ys,rfl,hs',r'⟩:=rq;cases ry;obtain⟨its2,rv',pl',hz'⟩:=I.tuple hs'.sq;cases rp;cases rx;simp only [PyData.eqv]
    exact⟨.none_tuple pl' hu0,.none_tuple pl' hu0,.none_tuple pl' hu0⟩
   |dict _=>simp [n4] at hq
   |_=>exact ih A _ _ x y u w (by lia) (by simp [n4]) (by simp [n4]) rp rq rx ry
  |bool k=>
   cases q with
   |list qs=>
    obtain⟨b,ys,rfl,hs',r'⟩:=rq;cases ry;obtain⟨its2,rv',pl',hz'⟩:=I.list hs';cases rp;cases rx;simp only [PyData.eqv]
    exact⟨.bool_list _ pl'.isList hu0,.bool_list _ pl'.isList hu0,.bool_list _ pl'.isList hu0⟩
   |tuple qs=>
    obtain⟨b,ys,rfl,hs',r'⟩:=rq;cases ry;obtain⟨its2,rv',pl',hz'⟩:=I.tuple hs'.sq;cases rp;cases rx;simp only [PyData.eqv]
    exact⟨.bool_tuple _ pl' hu0,.bool_tuple _ pl' hu0,.bool_tuple _ pl' hu0⟩
   |dict _=>simp [n4] at hq
   |_=>exact ih A _ _ x y u w (by lia) (by simp [n4]) (by simp [n4]) rp rq rx ry
  |int k=>
   cases q with
   |list qs=>
    obtain⟨b,ys,rfl,hs',r'⟩:=rq;cases ry;obtain⟨its2,rv',pl',hz'⟩:=I.list hs';cases rp;obtain⟨t,rfl⟩:=rx;simp only [PyData.eqv]
    exact⟨.int_list _ _ pl'.isList hu0,.int_list _ _ pl'.isList hu0,.int_list _ _ pl'.isList hu0⟩
   |tuple qs=>
    obtain⟨b,ys,rfl,hs',r'⟩:=rq;cases ry;obtain⟨its2,rv',pl',hz'⟩:=I.tuple hs'.sq;cases rp;obtain⟨t,rfl⟩:=rx;simp only [PyData.eqv]
    exact⟨.int_tuple _ _ pl' hu0,.int_tuple _ _ pl' hu0,.int_tuple _ _ pl' hu0⟩
   |dict _=>simp [n4] at hq
   |_=>exact ih A _ _ x y u w (by lia) (by simp [n4]) (by simp [n4]) rp rq rx ry
  |str k=>
   cases q with
   |list qs=>
    obtain⟨b,ys,rfl,hs',r'⟩:=rq;cases ry;obtain⟨its2,rv',pl',hz'⟩:=I.list hs';cases rp;obtain⟨t,rfl⟩:=rx;simp only [PyData.eqv]
    exact⟨.str_list _ _ pl'.isList hu0,.str_list _ _ pl'.isList hu0,.str_list _ _ pl'.isList hu0⟩
   |tuple qs=>
    obtain⟨b,ys,rfl,hs',r'⟩:=rq;cases ry;obtain⟨its2,rv',pl',hz'⟩:=I.tuple hs'.sq;cases rp;obtain⟨t,rfl⟩:=rx;simp only [PyData.eqv]
    exact⟨.str_tuple _ _ pl' hu0,.str_tuple _ _ pl' hu0,.str_tuple _ _ pl' hu0⟩
   |dict _=>simp [n4] at hq
   |_=>exact ih A _ _ x y u w (by lia) (by simp [n4]) (by simp [n4]) rp rq rx ry
end
end PU
set_option maxHeartbeats 1000000
namespace PU
open PySem PySem.Spec PyProof.Rows L2
instance:DecidableRel (fun(i j:Int)=>a53 i j):=fun i j=>by unfold a53;infer_instance
instance (i j:Int):Decidable (a53 i j):=by unfold a53;infer_instance
instance (i j:Int):Decidable (a62 i j):=by unfold a62;infer_instance
instance (i j:Int):Decidable (b7l i j):=by unfold b7l;infer_instance
def d7.mine:d7->Option (List PV)
 | .ow (.lst ps)=>some ps
 | .bo (.lst ps)=>some ps
 |_=>none
theorem a4p{K:AD}{F H:Hp}{v:V}{r:d7}{ps:List PV}(h:P9 K F H v r)(e:r.mine=some ps):∃a xs,v= .ref a/\F a=none/\H a=some (.lst xs)/\g9 K F ps xs:=by
 cases r with
 |val _=>cases e
 |ow c=>cases c<;>cases e;exact h
 |bo c=>cases c<;>cases e;exact h
def O7(x y:d7):Option d7:=match x,y with
 | .val (.int i),.val (.int j)=>some (.val (.int (i+j)))
 | .val (.str i),.val (.str j)=>if i.length+j.length<=AK then some (.val (.str (i++j))) else none
 | .val (.tuple ps),.val (.tuple qs)=>if(ps.length≠0/\qs.length≠0)/\ps.length+qs.length<=AK then some (.val (.tuple (ps++qs))) else none
 |x,y=>match x.mine,y.mine with
  |some ps,some qs=>if ps.length+qs.length<=AK then some (.own (ps++qs)) else none
  |_,_=>none
section
variable {X:Cx}
theorem w8:OpM X (binaryOp .Add) O7:=by
 intro pins s σ H x y v u Q I rx ry h
 obtain⟨F,ra,rb,rz,s0,h1,h2,h3,k⟩:=h
 unfold O7 at h3
 split at h3
 ·cases h3
  cases h1;cases h2
  exact b6w pins s σ H _ _ v u Q I rx ry ⟨_,_,rfl,rfl,k _ F H (p8.here s0 rfl)⟩
 ·rename_i i j
  split at h3
  ·rename_i c
   cases h3
   cases h1;cases h2
   exact a87 pins s σ H _ _ v u Q I rx ry ⟨i,j,rfl,rfl,c,k _ F H (p8.here s0 rfl)⟩
  ·cases h3
 ·rename_i ps qs
  split at h3
  ·rename_i c
   cases h3
   obtain⟨a,xs,rfl,hq,r⟩:=h1
   obtain⟨b,ys,rfl,hq',r'⟩:=h2
   refine b4w pins s σ H _ _ v u Q I rx ry ⟨a,b,xs,ys,rfl,rfl,o5 s0 hq.sq,o5 s0 hq'.sq, ?_,by rw [r.length,r'.length];exact c.2, ?_⟩
   ·intro z
    subst z
    exact c.1.1 r.length.symm
   ·refine⟨fun z=> ?_,fun _ p hp=>k _ _ _ (p8.tup s0 hp (r.append r'))⟩
    subst z
    exact absurd r'.length.symm c.1.2
  ·cases h3
 ·split at h3
  ·rename_i ps qs e1 e2
   split at h3
   ·rename_i c
    cases h3
    obtain⟨a,xs,rfl,_,hq,r⟩:=a4p h1 e1
    obtain⟨b,ys,rfl,_,hq',r'⟩:=a4p h2 e2
    refine b6x pins s σ H _ _ v u Q I rx ry ⟨a,b,xs,ys,rfl,rfl,hq,hq',by rw [r.length,r'.length];exact c,fun p hp=> ?_⟩
    exact k _ _ _ (p8.lst s0 hp (r.append r'))
   ·cases h3
  ·cases h3
theorem b4C:OpM X (binaryOp .Mult) (gIc a53 fun i j=> .int (i*j)):=a88 b6A fun _ _ _=>rfl
theorem u0:OpM X (binaryOp .Mod) (gIc (fun _ j=>0<j) fun i j=> .int (i % j)):=a88 b6z fun _ _ _=>rfl
theorem a4z:OpM X (binaryOp .FloorDiv) (gIc a62 fun i j=> .int (i / j)):=a88 b4x fun _ _ _=>rfl
theorem b6C:OpM X (compareOp .Gt) (gI fun i j=> .bool (decide (j<i))):=b5A b7F fun _ _ _=>rfl
def gEq(x y:d7):Option d7:=if n4 x.rd 50=true/\n4 y.rd 50=true then some (.val (.bool (PyData.eqv x.rd y.rd))) else none
def gNe(x y:d7):Option d7:=if n4 x.rd 50=true/\n4 y.rd 50=true then some (.val (.bool (!PyData.eqv x.rd y.rd))) else none
theorem a6K(hu:X.A.units+64<cLine):OpM X (compareOp .Eq) gEq:=by
 intro pins s σ H x y v u Q I rx ry h
 obtain⟨F,ra,rb,rz,s0,h1,h2,h3,k⟩:=h
 unfold gEq at h3
 split at h3
 ·rename_i c
  cases h3
  have z:=a8G I 50 X.A _ _ x y v u (by lia) c.1 c.2 (h1.rd s0) (h2.rd s0) rx ry
  exact z.rc _ _ _ _ ⟨.bl _,H,I,rfl,k _ F H (p8.here s0 rfl)⟩
 ·cases h3
theorem Z1(hu:X.A.units+64<cLine):OpM X (compareOp .NotEq) gNe:=by
 intro pins s σ H x y v u Q I rx ry h
 obtain⟨F,ra,rb,rz,s0,h1,h2,h3,k⟩:=h
 unfold gNe at h3
 split at h3
 ·rename_i c
  cases h3
  have z:=a8G I 50 X.A _ _ x y v u (by lia) c.1 c.2 (h1.rd s0) (h2.rd s0) rx ry
  exact z.ne _ _ _ _ ⟨.bl _,H,I,rfl,k _ F H (p8.here s0 rfl)⟩
 ·cases h3
open Classical in
def a0t(K:AD)(H:Hp)(q:PV)(u:AA):Bool:=if h:∃p v,l6 v u/\v6 K H p v then PyData.eqv h.choose q else false
theorem a9y{pins:List (AB×Obj)}{σ:L2.St}{H:Hp}{s:AC}(I:i2 X pins σ H s){p q:PV}{v:V}{u:AA}(r:l6 v u)(h:v6 X.K H p v):a0t X.K H q u=PyData.eqv p q:=by
 have hx:∃p v,l6 v u/\v6 X.K H p v:=⟨p,v,r,h⟩
 unfold a0t
 rw [dif_pos hx]
 obtain⟨v',r',h'⟩:=hx.choose_spec
 cases r.inj r'
 rw [v6.inj I _ _ h' h]
theorem X3{pins:List (AB×Obj)}{σ:L2.St}{H:Hp}{s:AC}(I:i2 X pins σ H s){q:PV}:∀{ps:List PV} {xs:List V} {us:List AA},g9 X.K H ps xs->i4 xs us->us.any (a0t X.K H q)=ps.any fun p=>PyData.eqv p q
 |[],_,_,r,v=>by cases r;cases v;rfl
 |p::ps,_,_,⟨x,r,e,h,t⟩,v=>by
  subst e
  cases v with
  |cons a b=>rw [List.any_cons,List.any_cons,a9y I a h,X3 I t b]
theorem a9S{H:Hp}:∀{ps:List PV} {xs:List V} {us:List AA} {u:AA},g9 X.K H ps xs->i4 xs us->u∈us->∃p x,p∈ps/\l6 x u/\v6 X.K H p x
 |[],_,_,_,r,v,h=>by cases r;cases v;cases h
 |p::ps,_,_,u,⟨x,r,e,hp,t⟩,v,h=>by
  subst e
  cases v with
  |cons a b=>
   rcases Ag.mp h with rfl|h
   ·exact⟨p,x,Al,a,hp⟩
   ·obtain⟨p',x',h1,h2,h3⟩:=a9S t b h
    exact⟨p',x',Ai _ h1,h2,h3⟩
def PyData.items?:PV->Option (List PV)
 | .list ps=>some ps
 | .tuple ps=>some ps
 |_=>none
def gIn(neg:Bool)(x y:d7):Option d7:=match PyData.items? y.rd with
 |some ps=>if n4 x.rd 50=true/\C1 ps 50=true then some (.val (.bool (if neg then !(ps.any fun p=>PyData.eqv p x.rd) else ps.any fun p=>PyData.eqv p x.rd))) else none
 |none=>none
theorem a1A{pins:List (AB×Obj)}{σ:L2.St}{H:Hp}{s:AC}(I:i2 X pins σ H s)(hu:X.A.units+64<cLine){q:PV}{ps:List PV}{x:V}{xs:List V}{v:AA}{us:List AA}(hq:n4 q 50=true)(hp:C1 ps 50=true)
 (rq:v6 X.K H q x) (rx:l6 x v) (r:g9 X.K H ps xs) (rv:i4 xs us):∀y,y∈us.toArray->SeqAt.EqAt X.A.in1 s y v (a0t X.K H q y):=by
 intro y hy
 have hy':y∈us:=by simpa using hy
 obtain⟨p,z,h1,h2,h3⟩:=a9S r rv hy'
 rw [a9y I h2 h3]
 exact(a8G I 50 X.A.in1 p q z x y v (by rw [a5z];lia) (M3 hp h1) hq h3 rq h2 rx).eq
theorem B6{F H:Hp}{v:V}{r:d7}{ps:List PV}(s0:j5 F H)(h:P9 X.K F H v r)(e:PyData.items? r.rd=some ps):∃a xs,v= .ref a/\(M2 X.K H a xs\/V5 X.K H a xs)/\g9 X.K F ps xs:=by
 cases r with
 |val p=>
  cases p with
  |list qs=>cases e;obtain⟨a,xs,rfl,hq,r⟩:=h;exact⟨a,xs,rfl,.inl (u4 s0 hq),r⟩
  |tuple qs=>cases e;obtain⟨a,xs,rfl,hq,r⟩:=h;exact⟨a,xs,rfl,.inr (o5 s0 hq.sq),r⟩
  |_=>cases e
 |ow c=>cases c<;>cases e;obtain⟨a,xs,rfl,_,hq,r⟩:=h;exact⟨a,xs,rfl,.inl (M2.of hq),r⟩
 |bo c=>cases c<;>cases e;obtain⟨a,xs,rfl,_,hq,r⟩:=h;exact⟨a,xs,rfl,.inl (M2.of hq),r⟩
theorem b6D(hu:X.A.units+64<cLine):OpM X (compareOp .In) (gIn false):=by
 intro pins s σ H x y v u Q I rx ry h
 obtain⟨F,ra,rb,rz,s0,h1,h2,h3,k⟩:=h
 unfold gIn at h3
 split at h3
 ·rename_i ps e
  split at h3
  ·rename_i c
   cases h3
   obtain⟨a,xs,rfl,hq,r⟩:=B6 s0 h2 e
   cases ry
   have rH:=g9.mono s0 _ r
   rcases hq with hq|hq
   ·obtain⟨its,rv,pl,hz⟩:=I.list hq
    refine SeqAt.in_listAt (a0t X.K H ra.rd) pl.isList (a1A I hu c.1 c.2 (h1.rd s0) rx rH rv) ⟨.bl _,H,I,rfl, ?_⟩
    rw [show its.toArray.any (a0t X.K H ra.rd)=its.any (a0t X.K H ra.rd) by simp,X3 I rH rv]
    exact k _ F H (p8.here s0 rfl)
   ·obtain⟨its,rv,pl,hz⟩:=I.tuple hq
    refine SeqAt.in_tupleAt (a0t X.K H ra.rd) pl (a1A I hu c.1 c.2 (h1.rd s0) rx rH rv) ⟨.bl _,H,I,rfl, ?_⟩
    rw [show its.toArray.any (a0t X.K H ra.rd)=its.any (a0t X.K H ra.rd) by simp,X3 I rH rv]
    exact k _ F H (p8.here s0 rfl)
  ·cases h3
 ·cases h3
theorem b0P(hu:X.A.units+64<cLine):OpM X (compareOp .NotIn) (gIn true):=by
 intro pins s σ H x y v u Q I rx ry h
 obtain⟨F,ra,rb,rz,s0,h1,h2,h3,k⟩:=h
 unfold gIn at h3
 split at h3
 ·rename_i ps e
  split at h3
  ·rename_i c
   cases h3
   obtain⟨a,xs,rfl,hq,r⟩:=B6 s0 h2 e
   cases ry
   have rH:=g9.mono s0 _ r
   rcases hq with hq|hq
   ·obtain⟨its,rv,pl,hz⟩:=I.list hq
    refine SeqAt.notIn_listAt (a0t X.K H ra.rd) pl.isList (a1A I hu c.1 c.2 (h1.rd s0) rx rH rv) ⟨.bl _,H,I,rfl, ?_⟩
    rw [show its.toArray.any (a0t X.K H ra.rd)=its.any (a0t X.K H ra.rd) by simp,X3 I rH rv]
    exact k _ F H (p8.here s0 rfl)
   ·obtain⟨its,rv,pl,hz⟩:=I.tuple hq
    refine SeqAt.notIn_tupleAt (a0t X.K H ra.rd) pl (a1A I hu c.1 c.2 (h1.rd s0) rx rH rv) ⟨.bl _,H,I,rfl, ?_⟩
    rw [show its.toArray.any (a0t X.K H ra.rd)=its.any (a0t X.K H ra.rd) by simp,X3 I rH rv]
    exact k _ F H (p8.here s0 rfl)
  ·cases h3
 ·cases h3
def b1T(neg:Bool)(x y:d7):Option d7:=match y with
 | .val .none=>(match x.rd with
   | .none=>some (.val (.bool (!neg)))
   |_=>some (.val (.bool neg)))
 |_=>none
def PyData.isNone:PV->Bool
 | .none=>true
 |_=>false
theorem a9Y{K:AD}{H:Hp}{p:PV}{v:V}(h:v6 K H p v):decide (v=V.non)=PyData.isNone p:=by
 cases p with
 |none=>cases h;rfl
 |bool _=>cases h;rfl
 |int _=>cases h;rfl
 |str _=>cases h;rfl
 |list _=>obtain⟨_,_,rfl,_⟩:=h;rfl
 |tuple _=>obtain⟨_,_,rfl,_⟩:=h;rfl
 |dict _=>
  rcases h with⟨_,_,rfl,_⟩|⟨_,_,rfl,_⟩|⟨_,_,_,h⟩
  ·rfl
  ·rfl
  ·obtain⟨_,rfl⟩:=h.ref;rfl
theorem b4B:OpM X (compareOp .Is) (b1T false):=
 a0o b6y fun F H x y rx ry rz s0 h1 h2 h3 Q k=>by
  unfold b1T at h3
  split at h3
  ·cases h2
   have e:=a9Y (h1.rd s0)
   refine⟨rfl, ?_⟩
   rw [e]
   cases hp:rx.rd<;>rw [hp] at h3<;>cases h3<;>exact k _ F H (p8.here s0 rfl)
  ·cases h3
theorem b2E:OpM X (compareOp .IsNot) (b1T true):=
 a0o b4y fun F H x y rx ry rz s0 h1 h2 h3 Q k=>by
  unfold b1T at h3
  split at h3
  ·cases h2
   have e:=a9Y (h1.rd s0)
   refine⟨rfl, ?_⟩
   rw [e]
   cases hp:rx.rd<;>rw [hp] at h3<;>cases h3<;>exact k _ F H (p8.here s0 rfl)
  ·cases h3
def a3a(m:M):M:=fun ρ=>(m ρ).bind fun r=>match r with
 | .val (.int i)=>some (.val (.int (-i)))
 |_=>none
theorem Q1{a:AE}{ma:M}{pos:Pos}(ha:EE X a ma):EE X (.UnaryOp .USub a pos) (a3a ma):=
 u8 (b7L b68 ha) fun σ H Q ⟨F,ρ,r,he,hm,k⟩=>by
  obtain⟨rx,e1,hm⟩:=bind_some hm
  refine⟨F,ρ,rx,he,e1,fun v F1 H1 o1=> ?_⟩
  split at hm
  ·cases hm
   exact⟨_,o1.rep,k _ F1 H1 (p8.trans o1.x (p8.here o1.x.fh rfl))⟩
  ·cases hm
def t6(x y:d7):Option d7:=match y with
 | .val (.int i)=>(match x.rd with
   | .str z=>if z.length<=AK then(atI z.cps.toList i).map fun c=> .val (.str ⟨#[c]⟩) else none
   |p=>match PyData.items? p with
    |some ps=>(atI ps i).map .val
    |none=>none)
 |_=>none
theorem g9.atI{K:AD}{H:Hp}{ps:List PV}{xs:List V}{i:Int}{p:PV}(r:g9 K H ps xs)(e:L2.atI ps i=some p):∃v,L2.atI xs i=some v/\v6 K H p v:=by
 unfold L2.atI at e ⊢
 rw [r.length]
 obtain⟨j,e1,e2⟩:=bind_some e
 rw [e1]
 exact r.get e2
theorem ixm:IxR X (rM2 X.K t6):=by
 intro value slice pins s σ H x y v u Q I rx ry h hs
 obtain⟨F,ra,rb,rz,s0,h1,h2,h3,k⟩:=h
 unfold t6 at h3
 split at h3
 ·rename_i i
  cases h2
  split at h3
  ·rename_i z ez
   split at h3
   ·rename_i c
    have rr:=h1.rd s0
    rw [ez] at rr
    cases rr
    cases ea:L2.atI z.cps.toList i with
    |none=>rw [ea] at h3;cases h3
    |some ch=>
     rw [ea] at h3;cases h3
     exact b6h value slice pins s σ H _ _ v u Q I rx ry ⟨z,i,ch,rfl,rfl,c,ea,k _ F H (p8.here s0 rfl)⟩ hs
   ·cases h3
  ·split at h3
   ·rename_i ps e
    cases ea:L2.atI ps i with
    |none=>rw [ea] at h3;cases h3
    |some p=>
     rw [ea] at h3;cases h3
     obtain⟨a,xs,rfl,hq,r⟩:=B6 s0 h1 e
     obtain⟨z,ez,rp⟩:=r.atI ea
     rcases hq with hq|hq
     ·exact b38 value slice pins s σ H _ _ v u Q I rx ry ⟨a,xs,i,z,rfl,rfl,hq,ez,k _ F H (p8.here s0 rp)⟩ hs
     ·exact b6i value slice pins s σ H _ _ v u Q I rx ry ⟨a,xs,i,z,rfl,rfl,hq,ez,k _ F H (p8.here s0 rp)⟩ hs
   ·cases h3
 ·cases h3
theorem i8{a b:AE}{ma mb:M}{pos:Pos}(ha:EE X a ma)(hb:EE X b mb)(hs:a9s b:=by intro _ _;rfl):EE X (.Subscript a b pos) (m2 t6 ma mb):=
 u8 (b7J ixm ha hb hs) fun _ _ _ h=>a6V h
abbrev MA:=a8->Option (List PV)
def tMA(K:AD)(m:MA):TA:=fun σ H Q=>∃F ρ ps,x6 K F H σ ρ/\m ρ=some ps/\∀vs F' H',K0 F H F' H'->g9 K F' ps vs->Q vs H'
abbrev EA(X:Cx)(es:List AE)(m:MA):Prop:=PA X es (tMA X.K m)
def c8:MA:=fun _=>some []
def a5(m:M)(r:MA):MA:=fun ρ=>((m ρ).bind d7.toVal).bind fun p=>(r ρ).bind fun ps=>some (p::ps)
theorem c6:EA X [] c8:=b2G a4A fun σ H Q ⟨F,ρ,ps,he,hm,k⟩=>by
 cases hm
 exact k [] F H (K0.refl he.fh) rfl
theorem a0{e:AE}{es:List AE}{m:M}{r:MA}(ha:EE X e m)(hr:EA X es r)(hs:AX (e::es) X.env=(false,eval e X.env)::AX es X.env:=by rfl):EA X (e::es) (a5 m r):=
 b2G (a0p ha hr hs) fun σ H Q ⟨F,ρ,ps,he,hm,k⟩=>by
  obtain⟨p,e1,hm⟩:=bind_some hm
  obtain⟨r1,e1,e2⟩:=bind_some e1
  obtain⟨qs,e3,hm⟩:=bind_some hm
  cases hm
  refine⟨F,ρ,r1,he,e1,fun v F1 H1 o1=> ?_⟩
  obtain⟨F2,o2⟩:=o1.toVal e2
  exact⟨F2,ρ,qs,he.ext o2.x,e3,fun vs F3 H3 x3 rl=>k _ F3 H3 (o2.x.trans x3) ⟨v,vs,rfl,v6.mono x3.f _ o2.rep,rl⟩⟩
def u9(m:MA):M:=fun ρ=>(m ρ).bind fun ps=>if ps.length<=AK then some (.val (.tuple ps)) else none
def M0(m:MA):M:=fun ρ=>(m ρ).bind fun ps=>if ps.length<=AK then some (.own ps) else none
theorem l8{es:List AE}{m:MA}{x1:Nat}{pos:Pos}(h:EA X es m):EE X (.Tuple es x1 pos) (u9 m):=
 u8 (a4D h) fun σ H Q ⟨F,ρ,r,he,hm,k⟩=>by
  obtain⟨ps,e1,hm⟩:=bind_some hm
  split at hm
  ·rename_i c
   cases hm
   exact⟨F,ρ,ps,he,e1,fun vs F1 H1 x rl=>⟨by rw [rl.length];exact c,fun p hp=>k _ _ _ (p8.trans x (p8.tup x.fh hp rl))⟩⟩
  ·cases hm
theorem A1{es:List AE}{m:MA}{pos:Pos}(h:EA X es m):EE X (.List es pos) (M0 m):=
 u8 (b6I h) fun σ H Q ⟨F,ρ,r,he,hm,k⟩=>by
  obtain⟨ps,e1,hm⟩:=bind_some hm
  split at hm
  ·rename_i c
   cases hm
   exact⟨F,ρ,ps,he,e1,fun vs F1 H1 x rl=>⟨by rw [rl.length];exact c,fun p hp=>k _ _ _ (p8.trans x (p8.lst x.fh hp rl))⟩⟩
  ·cases hm
def spP(K:AD)(n:Nat)(g:List PV->Option d7):Sp:=fun vs H Q _=>∃F ps r,j5 F H/\g9 K F ps vs/\ps.length=n/\g ps=some r/\∀v F' H',p8 K F H F' H' v r->Q v H'
def k0(g:List PV->Option d7)(m:MA):M:=fun ρ=>(m ρ).bind g
theorem b3J{k n:Nat}{f:AB}{fd:FuncData}{ps:List Str}{g:List PV->Option d7}{x:Str}{p pos:Pos}{e:AE}{es:List AE}{m:MA}
 (G:O6 X.prog X.w X.K X.mg X.base CX0 k f fd ps (spP X.K n g)) (hr:E4 k X.A) (hg:Gl X x) (hm:X.mg x=some (.ref f)) (hk:PySem.W.keepIn X.K (.ref f)=true) (hb:a2B X.K fd ps []) (hn:∀ρ ps,m ρ=some ps->ps.length=n) (ha:EA X (e::es) m)
 (hdb:(x==("__debug__":Str))=false:=by decide) (he:AX (e::es) X.env=(false,eval e X.env)::AX es X.env:=by rfl) (hpl:(backTo pos (AX es X.env)).any (·.1)=false:=by rfl):
 EE X (.Call (.Name x p) (e::es) [] pos) (k0 g m):=
 u8 (a6M G hr hg hm hk hb .nil b2H ha hdb he hpl) fun σ H Q ⟨F,ρ,r,he,hm,k⟩=>by
  obtain⟨qs,e1,hm⟩:=bind_some hm
  refine⟨F,ρ,qs,he,e1,fun vs F1 H1 x rl=> ?_⟩
  show spP X.K n g (vs++[]) H1 Q E0
  rw [Am]
  exact⟨F1,qs,r,x.fh,rl,hn _ _ e1,hm,fun v F2 H2 o=>k v F2 H2 (p8.trans x o)⟩
theorem g7:∀ρ ps,c8 ρ=some ps->ps.length=0:=fun _ _ h=>by cases h;rfl
theorem a7{m:M}{r:MA}{n:Nat}(h:∀ρ ps,r ρ=some ps->ps.length=n):∀ρ ps,a5 m r ρ=some ps->ps.length=n+1:=fun ρ ps e=>by
 obtain⟨p,e1,e⟩:=bind_some e
 obtain⟨qs,e3,e⟩:=bind_some e
 cases e
 rw [AT,h ρ qs e3]
end
mutual
def W6(K:AD):Nat->AA->Option PV
 |0,_=>none
 |_+1,.none=>some .none
 |_+1,.bool b=>some (.bool b)
 |_+1,.int i _=>some (.int i)
 |_+1,.str x _=>some (.str x)
 |n+1,.ref a=>match K.lookup a with
  |some ⟨.type "tuple",_,.seq its _,_⟩=>if its.size<=1000 then(a1i K n its.toList).map .tuple else none
  |some ⟨.type "list",none,.seq its _,_⟩=>if its.size<=1000 then(a1i K n its.toList).map .list else none
  |_=>none
 |_+1,_=>none
def a1i(K:AD):Nat->List AA->Option (List PV)
 |0,_=>none
 |_+1,[]=>some []
 |n+1,u::us=>(W6 K n u).bind fun p=>(a1i K n us).bind fun ps=>some (p::ps)
end
theorem a4T{n:Nat}(h:n<=1000):n<=AK:=BE (b0X h)
theorem a3B(K:AD):∀(n:Nat),(∀(u:AA) (p:PV),W6 K n u=some p->∃v,l6 v u/\∀H,v6 K H p v)/\(∀(us:List AA) (ps:List PV),a1i K n us=some ps->∃vs,i4 vs us/\∀H,g9 K H ps vs):=by
 intro n
 induction n with
 |zero=>exact⟨fun u p h=>by simp [W6] at h,fun u p h=>by simp [a1i] at h⟩
 |succ n ih=>
  constructor
  ·intro u p h
   cases u with
   |none=>simp only [W6] at h;cases h;exact⟨.non,rfl,fun _=>rfl⟩
   |bool b=>simp only [W6] at h;cases h;exact⟨.bl b,rfl,fun _=>rfl⟩
   |int i t=>simp only [W6] at h;cases h;exact⟨.int i,⟨t,rfl⟩,fun _=>rfl⟩
   |str x t=>simp only [W6] at h;cases h;exact⟨.str x,⟨t,rfl⟩,fun _=>rfl⟩
   |ref a=>
    simp only [W6] at h
    split at h
    ·rename_i d its m sl e
     split at h
     ·rename_i c
      cases q:a1i K n its.toList with
      |none=>rw [q] at h;cases h
      |some ps=>
       rw [q] at h;cases h
       obtain⟨vs,h1,h2⟩:=ih.2 _ _ q
       exact⟨.ref a,rfl,fun H=>⟨a,vs,rfl,.inr ⟨_,its,m,e,rfl,rfl,a4T c,h1⟩,h2 H⟩⟩
     ·cases h
    ·rename_i its m sl e
     split at h
     ·rename_i c
      cases q:a1i K n its.toList with
      |none=>rw [q] at h;cases h
      |some ps=>
       rw [q] at h;cases h
       obtain⟨vs,h1,h2⟩:=ih.2 _ _ q
       exact⟨.ref a,rfl,fun H=>⟨a,vs,rfl,.inr ⟨_,its,m,e,rfl,rfl,rfl,a4T c,h1⟩,h2 H⟩⟩
     ·cases h
    ·cases h
   |_=>simp [W6] at h
  ·intro us ps h
   cases us with
   |nil=>simp only [a1i] at h;cases h;exact⟨[],.nil,fun _=>rfl⟩
   |cons u us=>
    simp only [a1i] at h
    obtain⟨p,e1,h⟩:=bind_some h
    obtain⟨qs,e2,h⟩:=bind_some h
    cases h
    obtain⟨v,r1,r2⟩:=ih.1 _ _ e1
    obtain⟨vs,r3,r4⟩:=ih.2 _ _ e2
    exact⟨v::vs,.cons r1 r3,fun H=>⟨v,vs,rfl,r2 H,r4 H⟩⟩
section
variable {X:Cx}
theorem a9C{x:Str}{u:AA}{p:PV}{pos:Pos}{n:Nat}(hg:Gl X x)(hm:X.mg x=some u)(ha:W6 X.K n u=some p)(hd:(x==("__debug__":Str))=false:=by decide):EE X (.Name x pos) (mC p):=by
 obtain⟨v,r,h⟩:=(a3B X.K n).1 u p ha
 exact Y0 (b4I hg hm r hd) h
def a7G:PV->Option f8
 | .int i=>some (.inl i)
 | .str x=>some (.inr x)
 |_=>none
theorem a5B{K:AD}{H:Hp}{p:PV}{k:f8}{v:V}(e:a7G p=some k)(r:v6 K H p v):v=kV k:=by
 cases p with
 |int i=>cases e;cases r;rfl
 |str x=>cases e;cases r;rfl
 |_=>cases e
def a2L:List DictEntry->Option (List (f8×AA))
 |[]=>some []
 |e::es=>match e.key with
  | .int i _=>(a2L es).map fun r=>(.inl i,e.val)::r
  | .str x _=>(a2L es).map fun r=>(.inr x,e.val)::r
  |_=>none
theorem P0{P:AL}{w:AJ}:∀{es:List DictEntry} {kvs:List (f8×AA)},a2L es=some kvs->es.map (·.hash)=kvs.map (fun kv=>b0w w kv.1)->Pairs (k4 P w) es kvs/\∀e∈es,∃k,(k4 P w).is k e.key=true/\e.hash=(k4 P w).hash k
 |[],_,h,_=>by cases h;exact⟨.nil,fun _ h=>nomatch h⟩
 |e::es,kvs,h,hh=>by
  simp only [a2L] at h
  split at h
  ·rename_i i t ek
   cases q:a2L es with
   |none=>rw [q] at h;cases h
   |some r=>
    rw [q] at h;cases h
    simp only [AM,List.cons.injEq] at hh
    obtain⟨h1,h2⟩:=P0 q hh.2
    have hi:(k4 P w).is (.inl i) e.key=true:=by rw [ek];exact Y9 P w i t
    exact⟨.cons hi rfl h1,fun e' he=>(Ag.mp he).elim (fun z=>by subst z;exact⟨_,hi,hh.1⟩) (h2 e')⟩
  ·rename_i x t ek
   cases q:a2L es with
   |none=>rw [q] at h;cases h
   |some r=>
    rw [q] at h;cases h
    simp only [AM,List.cons.injEq] at hh
    obtain⟨h1,h2⟩:=P0 q hh.2
    have hi:(k4 P w).is (.inr x) e.key=true:=by rw [ek];exact Z0 P w x t
    exact⟨.cons hi rfl h1,fun e' he=>(Ag.mp he).elim (fun z=>by subst z;exact⟨_,hi,hh.1⟩) (h2 e')⟩
  ·cases h
def T1{κ:Type}(K:AD)(n:Nat):List (κ×AA)->Option (List (κ×PV))
 |[]=>some []
 |(k,u)::r=>(W6 K n u).bind fun p=>(T1 K n r).bind fun t=>some ((k,p)::t)
def z3{κ:Type}[DecidableEq κ](tbl:List (κ×PV))(k:κ):Option PV:=match tbl with
 |[]=>none
 |(k',p)::r=>if k'=k then some p else z3 r k
theorem a5F{K:AD}{n:Nat}{k:f8}:∀{kvs:List (f8×AA)} {tbl:List (f8×PV)} {p:PV},T1 K n kvs=some tbl->z3 tbl k=some p->∃u,valueAt kvs k=some u/\W6 K n u=some p
 |[],_,_,h,e=>by cases h;cases e
 |(k',u)::r,tbl,p,h,e=>by
  simp only [T1] at h
  obtain⟨q,e1,h⟩:=bind_some h
  obtain⟨t,e2,h⟩:=bind_some h
  cases h
  simp only [z3] at e
  split at e
  ·rename_i c;cases e
   exact⟨u,by simp [valueAt,List.find?_cons,c],e1⟩
  ·rename_i c
   obtain⟨u',h1,h2⟩:=a5F e2 e
   refine⟨u', ?_,h2⟩
   simpa [valueAt,List.find?_cons,c] using h1
structure Tab(P:AL)(w:AJ)(K:AD)(a:AB)(tbl:List (f8×PV)):Prop where
 ex:∃es ep kvs n,K.lookup a=some ⟨.type "dict",none,.dict es ep, #[]⟩/\a2L es.toList=some kvs/\es.toList.map (·.hash)=kvs.map (fun kv=>b0w w kv.1)/\T1 K n kvs=some tbl/\(kvs.map (·.1)).Nodup
def b6p(tbl:List (f8×PV))(m:M):M:=fun ρ=>(m ρ).bind fun r=>(a7G r.rd).bind fun k=>(z3 tbl k).map .val
theorem b5Y{x:Str}{a:AB}{tbl:List (f8×PV)}{i:AE}{m:M}{p pos:Pos}(T:Tab X.prog X.w X.K a tbl)(hg:Gl X x)(hm:X.mg x=some (.ref a))(hi:EE X i m)(hd:(x==("__debug__":Str))=false:=by decide)(hs:a68 i:=by intro _ _;rfl):
 EE X (.Subscript (.Name x p) i pos) (b6p tbl m):=by
 intro pins s σ H Q I ⟨F,ρ,r,he,hm',k⟩
 obtain⟨es,ep,kvs,n,l1,l2,l3,l4,l5⟩:=T.ex
 obtain⟨ri,e1,hm'⟩:=bind_some hm'
 obtain⟨ky,e2,hm'⟩:=bind_some hm'
 cases e3:z3 tbl ky with
 |none=>rw [e3] at hm';cases hm'
 |some q=>
  rw [e3] at hm';cases hm'
  obtain⟨u,h1,h2⟩:=a5F l4 e3
  obtain⟨vv,r1,r2⟩:=(a3B X.K n).1 u q h2
  refine a6S PySem.F.slot_dict_getitem.lookup hs (a3j I hg hm ?_ hd)
  refine B8 (hi pins s σ H (fun y H2=>∃F2,K0 F H F2 H2/\y=kV ky) I ⟨F,ρ,ri,he,e1,fun v F1 H1 o1=>⟨F1,o1.x,a5B e2 (o1.rep.rd o1.x.fh)⟩⟩) fun iv s2 ⟨y,H2,I2,ry,F2,x2,ey⟩=> ?_
  subst ey
  have dd:s2.heap.DictOf (k4 X.prog X.w) a kvs:=⟨_,es,ep,I2.kIn a _ l1,⟨rfl,rfl,rfl⟩,rfl,fun e he=>(P0 l2 l3).2 e (by simpa using he),(P0 l2 l3).1,l5⟩
  exact⟨dd.typeIs,wpAny_getItem_of (a38 ry) dd.mapOf h1 ⟨vv,H2,I2.tok _,r1,k vv F2 H2 (p8.val x2 (r2 F2))⟩⟩
def keysOf:List PV->Option (List f8)
 |[]=>some []
 |p::ps=>(a7G p).bind fun k=>(keysOf ps).bind fun ks=>some (k::ks)
theorem A7{K:AD}{H:Hp}:∀{ps:List PV} {ks:List f8} {vs:List V},keysOf ps=some ks->g9 K H ps vs->vs=ks.map kV
 |[],_,_,h,r=>by cases h;cases r;rfl
 |p::ps,_,_,h,⟨v,t,e,rp,rl⟩=>by
  obtain⟨k,e1,h⟩:=bind_some h
  obtain⟨ks,e2,h⟩:=bind_some h
  cases h
  subst e
  rw [a5B e1 rp,A7 e2 rl]
  rfl
def o9:List AA->Option (List f8)
 |[]=>some []
 | .int i _::r=>(o9 r).map fun t=> .inl i::t
 | .str x _::r=>(o9 r).map fun t=> .inr x::t
 |_::_=>none
theorem Q3{P:AL}{w:AJ}:∀{us:List AA} {ks:List f8},o9 us=some ks->PySem.ItemsAre (k4 P w) ks us
 |[],_,h=>by cases h;exact .nil
 | .int i t::r,_,h=>by
   simp only [o9] at h
   cases q:o9 r with
   |none=>rw [q] at h;cases h
   |some ks=>rw [q] at h;cases h;exact .cons (Y9 P w i t) (Q3 q)
 | .str i t::r,_,h=>by
   simp only [o9] at h
   cases q:o9 r with
   |none=>rw [q] at h;cases h
   |some ks=>rw [q] at h;cases h;exact .cons (Z0 P w i t) (Q3 q)
 | .none::_,_,h=>by simp [o9] at h
 | .bool _::_,_,h=>by simp [o9] at h
 | .ref _::_,_,h=>by simp [o9] at h
 | .type _::_,_,h=>by simp [o9] at h
 | .builtin _::_,_,h=>by simp [o9] at h
 | .float _ _::_,_,h=>by simp [o9] at h
 | .bytes _ _::_,_,h=>by simp [o9] at h
 | .notImplemented::_,_,h=>by simp [o9] at h
end
def a7w(K:AD):List DictEntry->Option (List (List f8×AB×AA))
 |[]=>some []
 |e::es=>match e.key with
  | .ref b=>(match K.lookup b with
    |some ⟨.type "tuple",_,.seq its _,_⟩=>(o9 its.toList).bind fun ks=>(a7w K es).bind fun r=>some ((ks,b,e.val)::r)
    |_=>none)
  |_=>none
theorem a5s{P:AL}{w:AJ}{K:AD}:∀{es:List DictEntry} {xs:List (List f8×AB×AA)},a7w K es=some xs->es.map (·.hash)=xs.map (fun x=>(tupleKind (k4 P w)).hash x.1)->
 es=xs.map (entryOfKey (tupleKind (k4 P w)))/\∀h,K.In h->∀x∈xs,(tupleKind (k4 P w)).is h x.1 x.2.1
 |[],_,h,_=>by cases h;exact⟨rfl,fun _ _ _ h=>nomatch h⟩
 |⟨hs,ky,vl⟩::es,xs,h,hh=>by
  simp only [a7w] at h
  split at h
  ·rename_i b
   split at h
   ·rename_i d its n sl e
    obtain⟨ks,e1,h⟩:=bind_some h
    obtain⟨r,e2,h⟩:=bind_some h
    cases h
    simp only [AM,List.cons.injEq] at hh
    obtain⟨h1,h2⟩:=a5s e2 hh.2
    refine⟨?_,fun hp hk x hx=> ?_⟩
    ·rw [AM,<-h1,hh.1]
     rfl
    ·rcases Ag.mp hx with rfl|hx
     ·exact⟨_,its,n,hk b _ e,rfl,rfl,Q3 e1⟩
     ·exact h2 hp hk x hx
   ·cases h
  ·cases h
def M6(K:AD)(n:Nat):List (List f8×AB×AA)->Option (List (List f8×PV))
 |[]=>some []
 |(k,_,u)::r=>(W6 K n u).bind fun p=>(M6 K n r).bind fun t=>some ((k,p)::t)
theorem a4d{K:AD}{n:Nat}{k:List f8}:∀{xs:List (List f8×AB×AA)} {tbl:List (List f8×PV)} {p:PV},M6 K n xs=some tbl->z3 tbl k=some p->∃q,atKey xs k=some q/\W6 K n q.2=some p
 |[],_,_,h,e=>by cases h;cases e
 |(k',b,u)::r,tbl,p,h,e=>by
  simp only [M6] at h
  obtain⟨q,e1,h⟩:=bind_some h
  obtain⟨t,e2,h⟩:=bind_some h
  cases h
  simp only [z3] at e
  split at e
  ·rename_i c;cases e
   exact⟨(b,u),by simp [atKey,List.find?_cons,c],e1⟩
  ·rename_i c
   obtain⟨u',h1,h2⟩:=a4d e2 e
   refine⟨u', ?_,h2⟩
   simpa [atKey,List.find?_cons,c] using h1
structure b3w(P:AL)(w:AJ)(K:AD)(a:AB)(tbl:List (List f8×PV)):Prop where
 ex:∃es ep xs n,K.lookup a=some ⟨.type "dict",none,.dict es ep, #[]⟩/\a7w K es.toList=some xs/\es.toList.map (·.hash)=xs.map (fun x=>(tupleKind (k4 P w)).hash x.1)/\M6 K n xs=some tbl/\(xs.map (·.1)).Nodup
def b2o(tbl:List (List f8×PV))(m:M):M:=fun ρ=>(m ρ).bind fun r=>match r with
 | .val (.tuple ps)=>(keysOf ps).bind fun k=>(z3 tbl k).map .val
 |_=>none
section
variable {X:Cx}
theorem b3N{x:Str}{a:AB}{tbl:List (List f8×PV)}{i:AE}{m:M}{p pos:Pos}(hu:X.A.units+1<cLine)(T:b3w X.prog X.w X.K a tbl)(hg:Gl X x)(hm:X.mg x=some (.ref a))(hi:EE X i m)(hd:(x==("__debug__":Str))=false:=by decide)(hs:a68 i:=by intro _ _;rfl):
 EE X (.Subscript (.Name x p) i pos) (b2o tbl m):=by
 intro pins s σ H Q I ⟨F,ρ,r,he,hm',k⟩
 obtain⟨es,ep,xs,n,l1,l2,l3,l4,l5⟩:=T.ex
 obtain⟨ri,e1,hm'⟩:=bind_some hm'
 split at hm'
 ·rename_i ps
  obtain⟨ky,e2,hm'⟩:=bind_some hm'
  cases e3:z3 tbl ky with
  |none=>rw [e3] at hm';cases hm'
  |some q=>
   rw [e3] at hm';cases hm'
   obtain⟨u,h1,h2⟩:=a4d l4 e3
   obtain⟨vv,r1,r2⟩:=(a3B X.K n).1 u.2 q h2
   refine a6S PySem.F.slot_dict_getitem.lookup hs (a3j I hg hm ?_ hd)
   refine B8 (hi pins s σ H (fun y H2=>∃F2 b ys,K0 F H F2 H2/\y= .ref b/\V5 X.K H2 b ys/\ys=ky.map kV) I ⟨F,ρ,_,he,e1,fun v F1 H1 o1=> ?_⟩) fun iv s2 ⟨y,H2,I2,ry,F2,b,ys,x2,ey,hq,ek⟩=> ?_
   ·obtain⟨b,ys,eb,hq,rl⟩:=o1.rep
    exact⟨F1,b,ys,o1.x,eb,o5 o1.x.fh hq.sq,A7 e2 rl⟩
   ·subst ey
    subst ek
    cases ry
    obtain⟨h3,h4⟩:=a5s (P:=X.prog) (w:=X.w) l2 l3
    have dd:s2.heap.DictOfH (tupleKind (k4 X.prog X.w)) a xs:=⟨_,es,ep,I2.kIn a _ l1,⟨rfl,rfl,rfl⟩,rfl,h3,h4 _ I2.kIn,l5⟩
    obtain⟨its,rv,⟨o,o1,o2,nn,o3⟩,_⟩:=I2.tuple hq
    have hk:(tupleKind (k4 X.prog X.w)).is s2.heap ky b:=⟨o,its.toArray,nn,o1,o2,o3,by simpa using a2j rv⟩
    exact⟨dd.typeIs,wpAny_getItem_heap (tupleKind_room_in1 hu) hk dd h1 ⟨vv,H2,I2.tok _,r1,k vv F2 H2 (p8.val x2 (r2 F2))⟩⟩
 ·cases hm'
abbrev MT:=a8->Option Bool
def tMT(K:AD)(c:MT):TT:=fun σ H Q=>∃F ρ b,x6 K F H σ ρ/\c ρ=some b/\∀F' H',K0 F H F' H'->Q b H'
abbrev ET(X:Cx)(e:AE)(c:MT):Prop:=PT X e (tMT X.K c)
abbrev EW(X:Cx)(e:AE)(c:MT):Prop:=PW X e (tMT X.K c)
def b2Z:d7->Option Bool
 | .val (.bool b)=>some b
 |_=>none
def tru(r:d7):Option Bool:=match r.rd with
 | .none=>some false
 | .bool b=>some b
 | .int i=>some (i !=0)
 | .str z=>if z.length<=AK then some ((z.length:Int) !=0) else none
 | .list ps=>some (!ps.isEmpty)
 | .tuple ps=>some (!ps.isEmpty)
 | .dict _=>none
def mtV(m:M):MT:=fun ρ=>(m ρ).bind tru
def S8(m:M):MT:=fun ρ=>(m ρ).bind b2Z
theorem g9.empty{K:AD}{H:Hp}{ps:List PV}{vs:List V}(r:g9 K H ps vs):vs.isEmpty=ps.isEmpty:=by
 cases ps with
 |nil=>cases r;rfl
 |cons p ps=>obtain⟨_,_,e,_⟩:=r;subst e;rfl
theorem b5e{H:Hp}{r:d7}{v:V}{b:Bool}(h:v6 X.K H r.rd v)(e:tru r=some b):b5Q X.K v H b:=by
 unfold tru at e
 cases hp:r.rd with
 |none=>rw [hp] at h e;cases h;cases e;exact rfl
 |bool k=>rw [hp] at h e;cases h;cases e;exact rfl
 |int i=>rw [hp] at h e;cases h;cases e;exact rfl
 |str z=>
  rw [hp] at h e;cases h
  dsimp only at e
  split at e
  ·rename_i c;cases e;exact⟨c,rfl⟩
  ·cases e
 |list ps=>rw [hp] at h e;obtain⟨a,xs,rfl,hq,rl⟩:=h;cases e;exact .inl ⟨xs,hq,by rw [rl.empty]⟩
 |tuple ps=>rw [hp] at h e;obtain⟨a,xs,rfl,hq,rl⟩:=h;cases e;exact .inr (.inl ⟨xs,hq.sq,by rw [rl.empty]⟩)
 |dict _=>rw [hp] at e;cases e
theorem b50{e:AE}{m:M}(h:EE X e m)(he:∀whole,isTrue e X.env whole=(do let v<-whole;standAt e.pos;holding [v] (truthy v)):=by intro _;rfl):ET X e (mtV m):=
 a6O (b2R h he) fun σ H Q ⟨F,ρ,b,h1,h2,k⟩=>by
  obtain⟨r,e1,e2⟩:=bind_some h2
  exact⟨F,ρ,r,h1,e1,fun v F1 H1 o=>⟨b,b5e (o.rep.rd o.x.fh) e2,k F1 H1 o.x⟩⟩
theorem a78{K:AD}{F H:Hp}{r:d7}{v:V}{b:Bool}(h:P9 K F H v r)(e:b2Z r=some b):v= .bl b:=by
 unfold b2Z at e
 split at e
 ·cases e;exact h
 ·cases e
theorem v9{a b:AE}{ma mb:M}{pos:Pos}{op:CmpOp}{g:d7->d7->Option d7}(ho:OpM X (compareOp op) g)(ha:EE X a ma)(hb:EE X b mb)(hm:behindInMarks op b=false):ET X (.Compare a [op] [b] pos) (S8 (m2 g ma mb)):=
 a6O (b4P ho ha hb hm) fun σ H Q ⟨F,ρ,k,h1,h2,q⟩=>by
  obtain⟨r,e1,e2⟩:=bind_some h2
  exact a6V ⟨F,ρ,r,h1,e1,fun v F1 H1 o=>⟨k,a78 o.rep e2,q F1 H1 o.x⟩⟩
def b2t(c d:MT):MT:=fun ρ=>(c ρ).bind fun b=>if b=true then some true else d ρ
theorem a8J{a:AE}{c:MT}{pos:Pos}(ha:ET X a c):EW X (.BoolOp .Or [a] pos) c:=b6S ha
theorem b1J{a b:AE}{B2:List AE}{c d:MT}{pos:Pos}(ha:ET X a c)(hb:EW X (.BoolOp .Or (b::B2) pos) d):EW X (.BoolOp .Or (a::b::B2) pos) (b2t c d):=
 b6R (b7M ha hb) fun σ H Q ⟨F,ρ,k,h1,h2,q⟩=>by
  obtain⟨b,e1,e2⟩:=bind_some h2
  refine⟨F,ρ,b,h1,e1,fun F1 H1 x=> ?_⟩
  cases b with
  |false=>exact b17 ⟨F1,ρ,k,h1.ext x,e2,fun F2 H2 y=>q F2 H2 (x.trans y)⟩
  |true=>cases e2;exact b18 (q F1 H1 x)
end
inductive Fl where
 |nx (ρ:a8)|rt (r:d7)|bk (ρ:a8)|ct (ρ:a8)
abbrev MS:=a8->Option Fl
structure R7(K:AD)(F0 H0 F H:Hp)(σ:L2.St)(ρ:a8):Prop where
 x:K0 F0 H0 F H
 e:x6 K F H σ ρ
 nw:∀(i:Nat) (c:M4) (a:AB),ρ[i]?=some (some (.ow c))->σ[i]?=some (some (.ref a))->H0 a=none
def Fin(K:AD)(F0 H0 F:Hp)(D:L4):Fl->Prop
 | .nx ρ=>∀σ' F' H',j5 F F'->R7 K F0 H0 F' H' σ' ρ->D.nx σ' H'
 | .rt r=>∀v F' H',p8 K F0 H0 F' H' v r->D.rt v H'
 | .bk ρ=>∀σ' F' H',j5 F F'->R7 K F0 H0 F' H' σ' ρ->D.bk σ' H'
 | .ct ρ=>∀σ' F' H',j5 F F'->R7 K F0 H0 F' H' σ' ρ->D.ct σ' H'
theorem Fin.later{K:AD}{F0 H0 F F1:Hp}{D:L4}(s:j5 F F1):∀{fl:Fl},Fin K F0 H0 F D fl->Fin K F0 H0 F1 D fl
 | .nx _,h=>fun σ' F' H' s' so=>h σ' F' H' (s.trans s') so
 | .rt _,h=>h
 | .bk _,h=>fun σ' F' H' s' so=>h σ' F' H' (s.trans s') so
 | .ct _,h=>fun σ' F' H' s' so=>h σ' F' H' (s.trans s') so
def tMS(K:AD)(m:MS):TS:=fun D σ H=>∃F0 H0 F ρ fl,R7 K F0 H0 F H σ ρ/\m ρ=some fl/\Fin K F0 H0 F D fl
abbrev ES(X:Cx)(st:Stmt)(m:MS):Prop:=PS X st (tMS X.K m)
abbrev ESs(X:Cx)(st:List Stmt)(m:MS):Prop:=PSs X st (tMS X.K m)
theorem R7.ext{K:AD}{F0 H0 F H F' H':Hp}{σ:L2.St}{ρ:a8}(s:R7 K F0 H0 F H σ ρ)(x:K0 F H F' H'):R7 K F0 H0 F' H' σ ρ:=⟨s.x.trans x,s.e.ext x,s.nw⟩
def d7.nb:d7->Bool
 | .bo _=>false
 |_=>true
theorem R7.set{K:AD}{F0 H0 F H F' H':Hp}{σ:L2.St}{ρ:a8}{v:V}{r:d7}(s:R7 K F0 H0 F H σ ρ)(o:p8 K F H F' H' v r)(hb:r.nb=true)(i:Nat):R7 K F0 H0 F' H' (σ.set i (some v)) (ρ.set i (some r)):=by
 have s1:=s.ext o.x
 have le:=s.e.len
 refine⟨s1.x,⟨s1.e.fh,by simp [le],fun j q e=> ?_,fun j ps e=> ?_,fun j k ps qs a hjk e1 e2 e3 e4=> ?_⟩,fun j ps a e1 e2=> ?_⟩
 ·rw [List.getElem?_set] at e ⊢
  by_cases hij:i=j
  ·subst hij
   rw [if_pos rfl] at e ⊢
   rw [le]
   split at e
   ·rename_i c;cases e;rw [if_pos c];exact⟨v,rfl,o.rep⟩
   ·cases e
  ·rw [if_neg hij] at e ⊢
   exact s1.e.at_ j q e
 ·rw [List.getElem?_set] at e
  by_cases hij:i=j
  ·subst hij
   rw [if_pos rfl] at e
   split at e
   ·cases e;cases hb
   ·cases e
  ·rw [if_neg hij] at e
   exact s1.e.nb j ps e
 ·rw [List.getElem?_set] at e1 e2 e3 e4
  by_cases hij:i=j
  ·subst hij
   rw [if_pos rfl] at e1 e3
   rw [if_neg hjk] at e2 e4
   split at e1
   ·cases e1
    split at e3
    ·cases e3
     have fr:=o.fr ps a rfl rfl
     obtain⟨w,h1,rr⟩:=s.e.at_ k _ e2
     obtain⟨a',xs,h2,_,h3⟩:=W9.at_ rr
     rw [e4] at h1;cases h1
     cases h2
     rw [fr] at h3;cases h3
    ·cases e3
   ·cases e1
  ·rw [if_neg hij] at e1 e3
   by_cases hik:i=k
   ·subst hik
    rw [if_pos rfl] at e2 e4
    split at e2
    ·cases e2
     split at e4
     ·cases e4
      have fr:=o.fr qs a rfl rfl
      obtain⟨w,h1,rr⟩:=s.e.at_ j _ e1
      obtain⟨a',xs,h2,_,h3⟩:=W9.at_ rr
      rw [e3] at h1;cases h1
      cases h2
      rw [fr] at h3;cases h3
     ·cases e4
    ·cases e2
   ·rw [if_neg hik] at e2 e4
    exact s1.e.ap j k ps qs a hjk e1 e2 e3 e4
 ·rw [List.getElem?_set] at e1 e2
  by_cases hij:i=j
  ·subst hij
   rw [if_pos rfl] at e1 e2
   split at e1
   ·cases e1
    split at e2
    ·cases e2;exact s.x.h.free (o.fr ps a rfl rfl)
    ·cases e2
   ·cases e1
  ·rw [if_neg hij] at e1 e2
   exact s.nw j ps a e1 e2
section
variable {X:Cx}
def D8:MS:=fun ρ=>some (.nx ρ)
def j7(m n:MS):MS:=fun ρ=>(m ρ).bind fun fl=>match fl with
 | .nx ρ'=>n ρ'
 |f=>some f
theorem y9:ESs X [] D8:=a3o a9X fun D σ H ⟨F0,H0,F,ρ,fl,so,e,fin⟩=>by
 cases e
 exact fin σ F H (PU.j5.refl F) so
theorem c7{st:Stmt}{B2:List Stmt}{m n:MS}(h1:ES X st m)(h2:ESs X B2 n):ESs X (st::B2) (j7 m n):=
 a3o (Z4 h1 h2) fun D σ H ⟨F0,H0,F,ρ,fl,so,e,fin⟩=>by
  obtain⟨f1,e1,e⟩:=bind_some e
  cases f1 with
  |nx ρ'=>exact⟨F0,H0,F,ρ,.nx ρ',so,e1,fun σ' F' H' s so'=>⟨F0,H0,F',ρ',fl,so',e,fin.later s⟩⟩
  |rt r=>cases e;exact⟨F0,H0,F,ρ,_,so,e1,fin⟩
  |bk r=>cases e;exact⟨F0,H0,F,ρ,_,so,e1,fin⟩
  |ct r=>cases e;exact⟨F0,H0,F,ρ,_,so,e1,fin⟩
theorem e9{st:Stmt}{m:MS}(h1:ES X st m):ESs X [st] m:=a6N h1
def p5(i:Nat)(m:M):MS:=fun ρ=>(m ρ).bind fun r=>if r.nb=true then some (.nx (ρ.set i (some r))) else none
theorem i3{i:Nat}{x:Str}{e:AE}{m:M}{pos pos':Pos}(hN:X.N.Nodup)(he:EE X e m)(hi:X.N[i]?=some x:=by rfl)(hx:Loc X.env.scope x:=by exact Or.inl rfl)(hs:swapsWith e (some (.Name x pos')) pos.line X.env=pure false:=by rfl)(hf:X.fn x=true\/X.env.scope.names.lookup x=some .local:=by first|exact .inl rfl|exact .inr rfl|assumption):
 ES X (.Assign [.Name x pos'] e pos) (p5 i m):=
 B1 (a9d hN hi hx he hs hf) fun D σ H ⟨F0,H0,F,ρ,fl,so,e,fin⟩=>by
  obtain⟨r,e1,e⟩:=bind_some e
  split at e
  ·rename_i c
   cases e
   exact⟨F,ρ,r,so.e,e1,fun v F' H' o=>fin _ F' H' o.x.f (so.set o c i)⟩
  ·cases e
def z8(m:M):MS:=fun ρ=>(m ρ).bind fun r=>if r.nb=true then some (.rt r) else none
theorem n8{e:AE}{m:M}{pos:Pos}(he:EE X e m):ES X (.Return (some e) pos) (z8 m):=
 B1 (a9c he) fun D σ H ⟨F0,H0,F,ρ,fl,so,e,fin⟩=>by
  obtain⟨r,e1,e⟩:=bind_some e
  split at e
  ·rename_i c
   cases e
   exact⟨F,ρ,r,so.e,e1,fun v F' H' o=>fin v F' H' (p8.trans so.x o)⟩
  ·cases e
def S3(i:Nat):MS:=fun ρ=>match ρ[i]? with
 |some (some r)=>some (.rt r)
 |_=>none
theorem P1(i:Nat){x:Str}{p pos:Pos}(h:PE X (.Name x p) (Q6 i)):ES X (.Return (some (.Name x p)) pos) (S3 i):=
 B1 (a9c h) fun D σ H ⟨F0,H0,F,ρ,fl,so,e,fin⟩=>by
  unfold S3 at e
  split at e
  ·rename_i r er
   cases e
   obtain⟨v,e1,rr⟩:=so.e.at_ i _ er
   exact⟨v,e1,fin v F H ⟨so.x,rr,fun ps a z1 z2=>by subst z1;subst z2;exact so.nw i ps a er e1⟩⟩
  ·cases e
def U5(c:MT)(m n:MS):MS:=fun ρ=>(c ρ).bind fun b=>if b=true then m ρ else n ρ
theorem J4{c:AE}{a b:List Stmt}{mc:MT}{m n:MS}{pos:Pos}(hc:ET X c mc)(ha:ESs X a m)(hb:ESs X b n):ES X (.If c a b pos) (U5 mc m n):=
 B1 (b5C hc ha hb) fun D σ H ⟨F0,H0,F,ρ,fl,so,e,fin⟩=>by
  obtain⟨b,e1,e⟩:=bind_some e
  refine⟨F,ρ,b,so.e,e1,fun F1 H1 x=> ?_⟩
  cases b with
  |true=>exact b18 ⟨F0,H0,F1,ρ,fl,so.ext x,e,fin.later x.f⟩
  |false=>exact b17 ⟨F0,H0,F1,ρ,fl,so.ext x,e,fin.later x.f⟩
def setAll{α:Type}:List (Option α)->List Nat->List α->List (Option α)
 |σ,i::is,x::xs=>setAll (σ.set i (some x)) is xs
 |σ,_,_=>σ
def a6m:List Nat->TGs
 |[]=>b7x
 |i::is=>b5t (a7E i) (a6m is)
theorem a2e:∀{is:List Nat} {xs:List V} {σ:L2.St} {H:Hp} {Q:L2.St->Hp->Prop},xs.length=is.length->Q (setAll σ is xs) H->a6m is xs σ H Q
 |[],[],_,_,_,_,q=>⟨rfl,q⟩
 |[],_::_,_,_,_,h,_=>by cases h
 |_::_,[],_,_,_,h,_=>by cases h
 |i::is,x::xs,σ,H,Q,h,q=>⟨x,xs,rfl,a2e (is:=is) (xs:=xs) (by simpa using h) q⟩
theorem R7.setAll{K:AD}{F0 H0 F H:Hp}:∀{is:List Nat} {xs:List V} {ps:List PV} {σ:L2.St} {ρ:a8},R7 K F0 H0 F H σ ρ->g9 K F ps xs->R7 K F0 H0 F H (PU.setAll σ is xs) (PU.setAll ρ is (ps.map .val))
 |[],xs,ps,σ,ρ,s,r=>by
  have e1:PU.setAll σ [] xs=σ:=by cases xs<;>rfl
  have e2:PU.setAll ρ [] (ps.map d7.val)=ρ:=by cases ps<;>rfl
  rw [e1,e2];exact s
 |i::is,xs,[],σ,ρ,s,r=>by cases r;exact s
 |i::is,xs,p::ps,σ,ρ,s,⟨v,t,e,rp,rl⟩=>by
  subst e
  exact R7.setAll (is:=is) (s.set (p8.here s.e.fh rp) rfl i) rl
def b0H(is:List Nat)(m:M):MS:=fun ρ=>(m ρ).bind fun r=>match r with
 | .val (.tuple ps)=>if ps.length=is.length then some (.nx (setAll ρ is (ps.map .val))) else none
 |_=>none
theorem a6i{is:List Nat}{es:List AE}{k:Nat}{e:AE}{m:M}{pos tpos:Pos}(hc:X.calm=true)(he:EE X e m)(hg:PGs X es (a6m is))
 (hn:(assignEach es X.env).length=is.length:=by rfl) (hst:(assignEach es X.env).findIdx? (·.1)=none:=by rfl)
 (hs:swapsWithSole [.Tuple es k tpos] e pos.line X.env=pure false:=by rfl) (hw:swappedStores [.Tuple es k tpos] e X.env=pure none:=by rfl)
 (h1:(assignEach [.Tuple es k tpos] X.env).map (·.2)=[assign (.Tuple es k tpos) X.env]:=by rfl):ES X (.Assign [.Tuple es k tpos] e pos) (b0H is m):=
 B1 (b6P he (b2N hc hg hn hst) hs hw h1) fun D σ H ⟨F0,H0,F,ρ,fl,so,e,fin⟩=>by
  obtain⟨r,e1,e⟩:=bind_some e
  split at e
  ·rename_i ps
   split at e
   ·rename_i c
    cases e
    refine⟨F,ρ,_,so.e,e1,fun v F' H' o=> ?_⟩
    obtain⟨a,xs,rfl,hq,rl⟩:=o.rep
    have hl:xs.length=is.length:=by rw [rl.length];exact c
    exact⟨a,xs,rfl,o5 o.x.fh hq.sq,hl,a2e hl (fin _ F' H' o.x.f ((so.ext o.x).setAll rl))⟩
   ·cases e
  ·cases e
def w4(body:MS)(tg:PV->a8->Option a8):List PV->a8->Option Fl
 |[],ρ=>some (.nx ρ)
 |p::ps,ρ=>(tg p ρ).bind fun ρ1=>(body ρ1).bind fun fl=>match fl with
  | .nx ρ'=>w4 body tg ps ρ'
  | .ct ρ'=>w4 body tg ps ρ'
  | .bk ρ'=>some (.nx ρ')
  | .rt r=>some (.rt r)
def f7(i:Nat):PV->a8->Option a8:=fun p ρ=>some (ρ.set i (some (.val p)))
def a94(is:List Nat):PV->a8->Option a8:=fun p ρ=>match p with
 | .tuple ps=>if ps.length=is.length then some (setAll ρ is (ps.map .val)) else none
 |_=>none
def a7c(K:AD)(g:TG)(tg:PV->a8->Option a8):Prop:=
 ∀F0 H0 F H σ ρ ρ1 p x (Q:L2.St->Hp->Prop),R7 K F0 H0 F H σ ρ->v6 K F p x->tg p ρ=some ρ1->(∀σ',R7 K F0 H0 F H σ' ρ1->Q σ' H)->g x σ H Q
theorem j0{K:AD}(i:Nat):a7c K (a7E i) (f7 i):=fun F0 H0 F H σ ρ ρ1 p x Q so r e k=>by
 cases e
 exact k _ (so.set (p8.here so.e.fh r) rfl i)
theorem b3j{K:AD}(is:List Nat):a7c K (b7y K is.length (a6m is)) (a94 is):=fun F0 H0 F H σ ρ ρ1 p x Q so r e k=>by
 unfold a94 at e
 split at e
 ·split at e
  ·rename_i c
   cases e
   obtain⟨a,xs,rfl,hq,rl⟩:=r
   have hl:xs.length=is.length:=by rw [rl.length];exact c
   exact⟨a,xs,rfl,o5 so.e.fh hq.sq,hl,a2e hl (k _ (so.setAll rl))⟩
  ·cases e
 ·cases e
theorem a5v{body:MS}{tg:PV->a8->Option a8}{ps:List PV}{p:PV}{ρ:a8}{fl:Fl}(h:w4 body tg (p::ps) ρ=some fl):∃ρ1 f1,tg p ρ=some ρ1/\body ρ1=some f1/\(match f1 with
 | .nx ρ'=>w4 body tg ps ρ'
 | .ct ρ'=>w4 body tg ps ρ'
 | .bk ρ'=>some (.nx ρ')
 | .rt r=>some (.rt r))=some fl:=by
 unfold w4 at h
 obtain⟨ρ1,e1,h⟩:=bind_some h
 obtain⟨f1,e2,h⟩:=bind_some h
 exact⟨ρ1,f1,e1,e2,h⟩
def PvL(K:AD)(F0 H0 F1:Hp)(body:MS)(tg:PV->a8->Option a8)(ps:List PV)(fl:Fl)(k:Nat)(σ:L2.St)(H:Hp):Prop:=
 ∃F ρ,j5 F1 F/\R7 K F0 H0 F H σ ρ/\w4 body tg (ps.drop k) ρ=some fl
theorem a2o{K:AD}{F0 H0 F1:Hp}{body:MS}{tg:PV->a8->Option a8}{g:TG}{ps:List PV}{fl:Fl}{D:L4}{k:Nat}{p:PV}{x:V}{σ:L2.St}{H:Hp}(T:a7c K g tg)(fin:Fin K F0 H0 F1 D fl)(ep:ps[k]?=some p)
 (hp:PvL K F0 H0 F1 body tg ps fl k σ H) (rx:∀F,j5 F1 F->v6 K F p x):
 g x σ H fun σ2 H2=>tMS K body {D with nx:=PvL K F0 H0 F1 body tg ps fl (k+1),ct:=PvL K F0 H0 F1 body tg ps fl (k+1),bk:=D.nx} σ2 H2:=by
 obtain⟨F,ρ,s,so,e⟩:=hp
 have hk:k<ps.length:=(Ar.mp ep).1
 have hd:ps.drop k=p::ps.drop (k+1):=by
  rw [List.drop_eq_getElem_cons hk]
  congr 1
  exact(Ar.mp ep).2
 rw [hd] at e
 obtain⟨ρ1,f1,e1,e2,e3⟩:=a5v e
 refine T F0 H0 F H σ ρ ρ1 p x _ so (rx F s) e1 fun σ' so'=>⟨F0,H0,F,ρ1,f1,so',e2, ?_⟩
 cases f1 with
 |nx ρ'=>exact fun σ2 F2 H2 s2 so2=>⟨F2,ρ',s.trans s2,so2,e3⟩
 |ct ρ'=>exact fun σ2 F2 H2 s2 so2=>⟨F2,ρ',s.trans s2,so2,e3⟩
 |bk ρ'=>cases e3;exact fun σ2 F2 H2 s2 so2=>fin σ2 F2 H2 (s.trans s2) so2
 |rt r=>cases e3;exact fin
theorem a1F{K:AD}{F0 H0 F1:Hp}{body:MS}{tg:PV->a8->Option a8}{ps:List PV}{fl:Fl}{D:L4}{σ:L2.St}{H:Hp}(fin:Fin K F0 H0 F1 D fl)
 (hp:PvL K F0 H0 F1 body tg ps fl ps.length σ H):D.nx σ H:=by
 obtain⟨F,ρ,s,so,e⟩:=hp
 rw [List.drop_length] at e
 cases e
 exact fin σ F H s so
abbrev MI:=a8->Option (List PV)
def K8(m:M):MI:=fun ρ=>((m ρ).bind d7.toVal).bind PyData.items?
def b8c(K:AD)(tl:TE):TI:=fun σ H R=>tl σ H fun x H1=>∃a,x= .ref a/\(((∃xs,M2 K H1 a xs)/\R (Itl K a) H1)\/((∃xs,V5 K H1 a xs)/\R (Itt K a) H1))
theorem b2O{tg l:AE}{tl:TE}(hl:PE X l tl):PI X tg l (b8c X.K tl):=by
 intro pins s σ H R I h
 refine B8 (hl pins s σ H _ I h) fun v s1 ⟨x,H1,I1,r1,q1⟩=> ?_
 obtain⟨a,e,q⟩:=q1
 subst e
 cases r1
 rcases q with⟨⟨xs,hq⟩,q⟩|⟨⟨xs,hq⟩,q⟩
 ·obtain⟨its,rv,p,hz⟩:=I1.list hq
  refine wpAny_pyIter_list p.isList ?_
  refine⟨s1.heap.objs.size,[s1.heap.objs.size],_,_,H1,rfl,I1.kept (t':=s1.toks) fun b o e=>Ae _ e,b01 a _,⟨_,Aw _ rfl,rfl,rfl⟩,fun b hb=> ?_,q⟩
  have e:b=s1.heap.objs.size:=by simpa using hb
  subst e
  exact I1.fpOk (AN _) (I1.hok.fresh (AN _))
 ·obtain⟨its,rv,p,hz⟩:=I1.tuple hq
  refine wpAny_pyIter_tuple (show s1.heap.IsTuple a its.toArray from p) ?_
  refine⟨s1.heap.objs.size,[s1.heap.objs.size],_,_,H1,rfl,I1.kept (t':=s1.toks) fun b o e=>Ae _ e,a9q a _,⟨_,Aw _ rfl,rfl,rfl⟩,fun b hb=> ?_,q⟩
  have e:b=s1.heap.objs.size:=by simpa using hb
  subst e
  exact I1.fpOk (AN _) (I1.hok.fresh (AN _))
def B7(it:MI)(tg:PV->a8->Option a8)(body:MS):MS:=fun ρ=>(it ρ).bind fun ps=>w4 body tg ps ρ
theorem Q2{tg iter:AE}{body:List Stmt}{m:M}{g:TG}{t:PV->a8->Option a8}{b:MS}{pos:Pos}(hp:PassesOwn (model X.prog X.w) X.A X.env X.xe)(hc:X.calm=true)(hi:EE X iter m)(hg:PG X tg g)(T:a7c X.K g t)(hb:ESs X body b)
 (hs:∀x,foldedSetIterable iter X.env x=pure x:=by intro _;rfl):ES X (.For tg iter body [] pos) (B7 (K8 m) t b):=
 B1 (a9b hp hc (b2O hi) hg hb hs) fun D σ H ⟨F0,H0,F,ρ,fl,so,e,fin⟩=>by
  obtain⟨ps,e1,e⟩:=bind_some e
  obtain⟨q,e1,e2⟩:=bind_some e1
  obtain⟨r,e1,e3⟩:=bind_some e1
  refine⟨F,ρ,r,so.e,e1,fun v F' H' o=> ?_⟩
  obtain⟨F1,o1⟩:=o.toVal e3
  have fin1:=fin.later o1.x.f
  have so1:=so.ext o1.x
  obtain⟨a,xs,rfl,hq,rl⟩:=B6 (F:=F1) (H:=F1) (PU.j5.refl F1) (show P9 X.K F1 F1 v (.val q) from o1.rep) e2
  have hlen:=rl.length
  have get:∀k x,xs[k]?=some x->∃p,ps[k]?=some p/\∀F,j5 F1 F->v6 X.K F p x:=fun k x ex=>by
   obtain⟨p,ep,rp⟩:=rl.getV ex
   exact⟨p,ep,fun F s=>v6.mono s _ rp⟩
  rcases hq with hq|hq
  ·refine⟨a,rfl,.inl ⟨⟨xs,u4 o1.x.fh hq⟩,b1M (K:=X.K) (a:=a) (xs:=xs) (PvL X.K F0 H0 F1 b t ps fl) ⟨F1,ρ,PU.j5.refl F1,so1,e⟩ (fun k σ H _ ⟨F,_,s,so2,_⟩=>u4 (s.trans so2.e.fh) hq) (fun k x σ H ex hp=> ?_) (fun σ H hp=> ?_)⟩⟩
   ·obtain⟨p,ep,rp⟩:=get k x ex
    exact a2o T fin1 ep hp rp
   ·rw [hlen] at hp
    exact a1F fin1 hp
  ·refine⟨a,rfl,.inr ⟨⟨xs,o5 o1.x.fh hq⟩,b3X (K:=X.K) (a:=a) (xs:=xs) (PvL X.K F0 H0 F1 b t ps fl) ⟨F1,ρ,PU.j5.refl F1,so1,e⟩ (fun k σ H _ ⟨F,_,s,so2,_⟩=>o5 (s.trans so2.e.fh) hq) (fun k x σ H ex hp=> ?_) (fun σ H hp=> ?_)⟩⟩
   ·obtain⟨p,ep,rp⟩:=get k x ex
    exact a2o T fin1 ep hp rp
   ·rw [hlen] at hp
    exact a1F fin1 hp
def G4(lo hi:Int):List PV:=(AW (hi - lo).toNat).map fun k=> .int (lo+(k:Nat))
theorem b14:∃f:Int->Bool,∀j,f j=decide (-(2 ^ 62)<=j/\j<2 ^ 62):=⟨_,fun _=>rfl⟩
def inR:Int->Bool:=b14.choose
theorem b6e(j:Int):inR j=decide (-(2 ^ 62)<=j/\j<2 ^ 62):=b14.choose_spec j
theorem a9G{j:Int}:inR j=true↔(-(2 ^ 62)<=j/\j<2 ^ 62):=by rw [b6e,decide_eq_true_iff]
def D9(m:MA):MI:=fun ρ=>(m ρ).bind fun ps=>match ps with
 |[.int j]=>if inR j=true then some (G4 0 j) else none
 |_=>none
theorem a79{lo hi:Int}{k:Nat}(h:k<(hi - lo).toNat):(G4 lo hi)[k]?=some (.int (lo+k)):=by
 simp [G4,h]
theorem C4(lo hi:Int):(G4 lo hi).length=(hi - lo).toNat:=by simp [G4]
theorem q0{tg a:AE}{body:List Stmt}{m:MA}{g:TG}{t:PV->a8->Option a8}{b:MS}{p rp pos:Pos}(hp:PassesOwn (model X.prog X.w) X.A X.env X.xe)(hc:X.calm=true)(hgl:Gl X "range")(hm:X.mg "range"=none)(ha:EA X [a] m)(hg:PG X tg g)(T:a7c X.K g t)(hb:ESs X body b)
 (hst:AX [a] X.env=[(false,eval a X.env)]:=by rfl) (hs:∀x,foldedSetIterable (.Call (.Name "range" p) [a] [] rp) X.env x=pure x:=by intro _;rfl):ES X (.For tg (.Call (.Name "range" p) [a] [] rp) body [] pos) (B7 (D9 m) t b):=
 B1 (a9b hp hc (b0R hgl hm ha hst) hg hb hs) fun D σ H ⟨F0,H0,F,ρ,fl,so,e,fin⟩=>by
  obtain⟨ps,e1,e⟩:=bind_some e
  obtain⟨qs,e1,e2⟩:=bind_some e1
  refine⟨F,ρ,qs,so.e,e1,fun vs F1 H1 x rl=> ?_⟩
  split at e2
  ·rename_i j
   split at e2
   ·rename_i c
    have c:=a9G.mp c
    cases e2
    obtain⟨v,r,rfl,rv,rr⟩:=rl
    cases rv
    cases rr
    have fin1:=fin.later x.f
    have hz:(j - 0).toNat=j.toNat:=by lia
    refine⟨j,rfl,c.1,c.2,b0p (lo:=0) (n:=j.toNat) (PvL X.K F0 H0 F1 b t (G4 0 j) fl) ⟨F1,ρ,PU.j5.refl F1,so.ext x,e⟩ (fun k σ H hk hp=> ?_) (fun σ H hp=> ?_)⟩
    ·exact a2o T fin1 (a79 (by lia)) hp fun _ _=>rfl
    ·have:j.toNat=(G4 0 j).length:=by rw [C4,hz]
     rw [this] at hp
     exact a1F fin1 hp
   ·cases e2
  ·cases e2
def B9(c:MT)(body:MS):Nat->a8->Option Fl
 |0,_=>none
 |n+1,ρ=>(c ρ).bind fun b=>if b=true then(body ρ).bind fun fl=>match fl with
  | .nx ρ'=>B9 c body n ρ'
  | .ct ρ'=>B9 c body n ρ'
  | .bk ρ'=>some (.nx ρ')
  | .rt r=>some (.rt r) else some (.nx ρ)
theorem a1v(n:Nat){c:AE}{body:List Stmt}{mc:MT}{b:MS}{pos:Pos}(hp:PassesOwn (model X.prog X.w) X.A X.env X.xe)(hc:ET X c mc)(hb:ESs X body b):ES X (.While c body [] pos) (B9 mc b n):=
 B1 (b2Q hp hc hb) fun D σ H ⟨F0,H0,F,ρ,fl,so,e,fin⟩=>by
  refine⟨fun k σ H=>∃F1 ρ,j5 F F1/\R7 X.K F0 H0 F1 H σ ρ/\B9 mc b k ρ=some fl,⟨n,F,ρ,PU.j5.refl F,so,e⟩, ?_⟩
  rintro k σ H ⟨F1,ρ,s,so,e⟩
  cases k with
  |zero=>cases e
  |succ k=>
   unfold B9 at e
   obtain⟨d,e1,e⟩:=bind_some e
   refine⟨F1,ρ,d,so.e,e1,fun F2 H2 x=> ?_⟩
   have s2:=s.trans x.f
   cases d with
   |true=>
    rw [if_pos rfl] at e
    obtain⟨f1,e2,e⟩:=bind_some e
    refine b18 ⟨fun σ' H'=>∃F1 ρ,j5 F F1/\R7 X.K F0 H0 F1 H' σ' ρ/\B9 mc b k ρ=some fl,fun σ' H' h=>⟨k,Nat.lt_succ_self k,h⟩,⟨F0,H0,F2,ρ,f1,so.ext x,e2, ?_⟩⟩
    cases f1 with
    |nx ρ'=>exact fun σ3 F3 H3 s3 so3=>⟨F3,ρ',s2.trans s3,so3,e⟩
    |ct ρ'=>exact fun σ3 F3 H3 s3 so3=>⟨F3,ρ',s2.trans s3,so3,e⟩
    |bk ρ'=>cases e;exact fun σ3 F3 H3 s3 so3=>fin σ3 F3 H3 (s2.trans s3) so3
    |rt r=>cases e;exact fin
   |false=>
    rw [if_neg As] at e
    cases e
    exact b17 (fin σ F2 H2 s2 (so.ext x))
def C5(n:Nat)(body:MS)(ps:List PV):Option d7:=(body (ps.map (fun p=>some (d7.val p))++AV n none)).bind fun fl=>match fl with
 | .rt r=>some r
 | .nx _=>some (.val .none)
 |_=>none
end
theorem a8e{K:AD}{F H:Hp}{ps:List PV}{vs:List V}(n:Nat)(s:j5 F H)(r:g9 K F ps vs):R7 K F H F H (vs.map some++AV n none) (ps.map (fun p=>some (d7.val p))++AV n none):=by
 have hl:=r.length
 have key:∀(i:Nat) (q:d7),(ps.map (fun p=>some (d7.val p))++AV n none)[i]?=some (some q)->∃p v,q= .val p/\(vs.map some++AV n none)[i]?=some (some v)/\v6 K F p v:=by
  intro i q e
  by_cases h:i<ps.length
  ·rw [BB (by simpa using h),Aq] at e
   rw [BB (by rw [AU,hl];exact h),Aq]
   cases q':ps[i]? with
   |none=>rw [q'] at e;cases e
   |some p=>
    rw [q'] at e
    cases e
    obtain⟨v,h1,h2⟩:=r.get q'
    exact⟨p,v,rfl,by rw [h1];rfl,h2⟩
  ·rw [List.getElem?_append_right (by simpa using h),List.getElem?_replicate] at e
   split at e<;>cases e
 refine⟨K0.refl s,⟨s,by simp [hl],fun i q e=> ?_,fun i qs e=> ?_,fun i j qs _ a _ e=> ?_⟩,fun i qs a e=> ?_⟩
 ·obtain⟨p,v,rfl,h1,h2⟩:=key i q e;exact⟨v,h1,h2⟩
 ·obtain⟨p,v,z,_⟩:=key i _ e;cases z
 ·obtain⟨p,v,z,_⟩:=key i _ e;cases z
 ·obtain⟨p,v,z,_⟩:=key i _ e;cases z
theorem b5s{P:AL}{w:AJ}{K:AD}{mg:Str->Option AA}{base:Heap}{x qual:Str}{st:Stmt}{f:AB}{fd:FuncData}{N ps:List Str}{k:Nat}{m:MS}(F:Fun K x qual st f fd)(S:j4 N ps (d9 st))
 (hb:∀(cdv:AA) (A:AO) (outer:List Env) (s:AC) (H:Hp) (E:XK),E4 k (A.deeper (envOfC qual (d9 st) s.heap.objs.size f cdv))->ESs (a49 CX0 P w K mg base N qual (d9 st) f cdv A outer s H E).nox (B3 st) m):
 O6 P w K mg base CX0 (k+1) f fd ps (spP K ps.length (C5 (N.length - ps.length) m)):=by
 refine F.ok S (fun vs H Q E h=> ?_) (fun cdv A outer s H vs Q E hr h=> ?_)
 ·obtain⟨_,qs,_,_,r,h2,_⟩:=h
  rw [r.length,h2]
 ·obtain⟨F1,qs,r,s1,rl,hl,e,k⟩:=h
  refine⟨_,hb cdv A outer s H E hr, ?_⟩
  unfold C5 at e
  obtain⟨fl,e1,e2⟩:=bind_some e
  have hv:vs.length=ps.length:=by rw [rl.length,hl]
  refine⟨F1,H,F1,_,fl, ?_,e1, ?_⟩
  ·have:=a8e (N.length - ps.length) s1 rl
   unfold L2.a0P
   rw [hv]
   exact this
  ·cases fl with
   |rt q=>cases e2;exact fun v F' H' o=>k v F' H' o
   |nx ρ=>cases e2;exact fun σ' F' H' _ so=>k .non F' H' (p8.val so.x rfl)
   |bk ρ=>cases e2
   |ct ρ=>cases e2
section
variable {X:Cx}
def rC1(K:AD)(g:d7->Option d7):List V->Hp->VK->Prop:=fun xs H Q=>∃F x rx rz,xs=[x]/\j5 F H/\P9 K F H x rx/\g rx=some rz/\∀v F' H',p8 K F H F' H' v rz->Q v H'
def m1(g:d7->Option d7)(m:M):M:=fun ρ=>(m ρ).bind g
theorem b2z{m:M}{g:d7->Option d7}{σ:L2.St}{H:Hp}{Q:VK}(h:tM X.K (m1 g m) σ H Q):tCB (rC1 X.K g) (b5I (tM X.K m) b7W) σ H Q:=by
 obtain⟨F,ρ,r,he,hm,k⟩:=h
 obtain⟨rx,e1,hm⟩:=bind_some hm
 exact⟨F,ρ,rx,he,e1,fun v F1 H1 o1=>⟨F1,v,rx,r,rfl,o1.x.fh,o1.rep,hm,fun z F2 H2 o2=>k z F2 H2 (p8.trans o1.x o2)⟩⟩
theorem L3{id:String}{x:Str}{p pos:Pos}{e:AE}{g:d7->Option d7}{m:M}(hc:E3 X (.builtin id) (rC1 X.K g))(hg:Gl X x)(hm:X.mg x=none)(hv:bootBuiltins x=some (.builtin id))(ha:EE X e m)(hn:x≠"__name__":=by decide)(hdb:(x==("__debug__":Str))=false:=by decide)
 (he:AX [e] X.env=(false,eval e X.env)::AX [] X.env:=by rfl) (hpl:(backTo pos (AX [] X.env)).any (·.1)=false:=by rfl):EE X (.Call (.Name x p) [e] [] pos) (m1 g m):=
 u8 (b2I hc hg hm hv (a0p ha a4A he) hn hdb he hpl) fun _ _ _ h=>b2z h
theorem b1z{T:String}{x:Str}{p pos:Pos}{e:AE}{g:d7->Option d7}{m:M}(hc:E3 X (.type T) (rC1 X.K g))(hg:Gl X x)(hm:X.mg x=none)(hv:bootBuiltins x=some (.type T))(ha:EE X e m)(hn:x≠"__name__":=by decide)(hdb:(x==("__debug__":Str))=false:=by decide)
 (he:AX [e] X.env=(false,eval e X.env)::AX [] X.env:=by rfl) (hpl:(backTo pos (AX [] X.env)).any (·.1)=false:=by rfl):EE X (.Call (.Name x p) [e] [] pos) (m1 g m):=
 u8 (b0Q hc hg hm hv (a0p ha a4A he) hn hdb he hpl) fun _ _ _ h=>b2z h
def E8(x:d7):Option d7:=match x.rd with
 | .str z=>if z.length<=AK then some (.val (.int z.length)) else none
 |p=>match PyData.items? p with
  |some ps=>some (.val (.int ps.length))
  |none=>none
theorem K1:E3 X (.builtin "len") (rC1 X.K E8):=by
 intro pins s σ H xs us Q I rv h
 obtain⟨F,x,rx,rz,rfl,s0,h1,h2,k⟩:=h
 unfold E8 at h2
 split at h2
 ·rename_i z ez
  split at h2
  ·rename_i c
   cases h2
   have rr:=h1.rd s0
   rw [ez] at rr
   cases rr
   exact a6b pins s σ H _ us Q I rv ⟨z,rfl,c,k _ F H (p8.here s0 rfl)⟩
  ·cases h2
 ·split at h2
  ·rename_i ps e
   cases h2
   obtain⟨a,xs,rfl,hq,r⟩:=B6 s0 h1 e
   refine a6a pins s σ H _ us Q I rv ⟨a,xs,rfl,hq, ?_⟩
   rw [r.length]
   exact k _ F H (p8.here s0 rfl)
  ·cases h2
def a6o(x:d7):Option d7:=match PyData.items? x.rd with
 |some ps=>some (.val (.tuple ps))
 |none=>none
theorem b0v{F H:Hp}{v:V}{r:d7}{ps:List PV}(s0:j5 F H)(h:P9 X.K F H v r)(e:PyData.items? r.rd=some ps):∃a xs,v= .ref a/\(M2 X.K H a xs\/(V5 X.K H a xs/\v6 X.K F (.tuple ps) v))/\g9 X.K F ps xs:=by
 cases r with
 |val p=>
  cases p with
  |list qs=>cases e;obtain⟨a,xs,rfl,hq,r⟩:=h;exact⟨a,xs,rfl,.inl (u4 s0 hq),r⟩
  |tuple qs=>cases e;obtain⟨a,xs,rfl,hq,r⟩:=h;exact⟨a,xs,rfl,.inr ⟨o5 s0 hq.sq,⟨a,xs,rfl,hq,r⟩⟩,r⟩
  |_=>cases e
 |ow c=>cases c<;>cases e;obtain⟨a,xs,rfl,_,hq,r⟩:=h;exact⟨a,xs,rfl,.inl (M2.of hq),r⟩
 |bo c=>cases c<;>cases e;obtain⟨a,xs,rfl,_,hq,r⟩:=h;exact⟨a,xs,rfl,.inl (M2.of hq),r⟩
theorem b1p:E3 X (.type "tuple") (rC1 X.K a6o):=by
 intro pins s σ H xs us Q I rv h
 obtain⟨F,x,rx,rz,rfl,s0,h1,h2,k⟩:=h
 unfold a6o at h2
 split at h2
 ·rename_i ps e
  cases h2
  obtain⟨a,xs,rfl,hq,r⟩:=b0v s0 h1 e
  refine a47 pins s σ H _ us Q I rv ⟨a,xs,rfl, ?_⟩
  rcases hq with hq|⟨hq,rp⟩
  ·exact .inl ⟨hq,fun l hl=>k _ _ _ (p8.tup s0 hl r)⟩
  ·exact .inr ⟨hq,k _ F H (p8.here s0 rp)⟩
 ·cases h2
def b1W(x:d7):Option d7:=match PyData.items? x.rd with
 |some ps=>some (.own ps)
 |none=>none
theorem b3D:E3 X (.type "list") (rC1 X.K b1W):=by
 intro pins s σ H xs us Q I rv h
 obtain⟨F,x,rx,rz,rfl,s0,h1,h2,k⟩:=h
 unfold b1W at h2
 split at h2
 ·rename_i ps e
  cases h2
  obtain⟨a,xs,rfl,hq,r⟩:=B6 s0 h1 e
  exact a6c pins s σ H _ us Q I rv ⟨a,xs,rfl,hq,fun l hl=>k _ _ _ (p8.lst s0 hl r)⟩
 ·cases h2
def kindOf:PV->String
 | .none=>"NoneType"
 | .bool _=>"bool"
 | .int _=>"int"
 | .str _=>"str"
 | .list _=>"list"
 | .tuple _=>"tuple"
 | .dict _=>"dict"
theorem R7.putC{K:AD}{F0 H0 F H:Hp}{σ:L2.St}{ρ:a8}{i:Nat}{c d:M4}{a:AB}{o:HO}(s:R7 K F0 H0 F H σ ρ)(e:ρ[i]?=some (some (.ow c)))(ea:σ[i]?=some (some (.ref a)))(r:F a=none->W9 K F (upd H a o) (.ref a) d):
 R7 K F0 H0 F (upd H a o) σ (ρ.set i (some (.ow d))):=by
 obtain⟨v,h1,rr0⟩:=s.e.at_ i _ e
 obtain⟨a',xs,rfl,fa,ha⟩:=W9.at_ rr0
 rw [ea] at h1;cases h1
 have na:H0 a=none:=s.nw i c a e ea
 have hi:i<ρ.length:=(Ar.mp e).1
 refine⟨⟨s.x.f,fun b o z=>by rw [g5 (g6 z na)];exact s.x.h _ _ z,fun b o z=>by rw [g5 (g6 z fa)];exact s.x.fh _ _ z,s.x.nw,s.x.nf⟩,⟨fun b o z=>by rw [g5 (g6 z fa)];exact s.e.fh _ _ z,by simp [s.e.len],fun j q ej=> ?_,fun j z ej=> ?_,fun j k z1 z2 c' hjk e1 e2 e3 e4=> ?_⟩,fun j z c' e1 e2=> ?_⟩
 ·rw [List.getElem?_set] at ej
  by_cases hij:i=j
  ·subst hij
   rw [if_pos rfl,if_pos hi] at ej
   cases ej
   exact⟨.ref a,ea,r fa⟩
  ·rw [if_neg hij] at ej
   obtain⟨v,h1,rr⟩:=s.e.at_ j q ej
   refine⟨v,h1, ?_⟩
   cases q with
   |val p=>exact rr
   |bo z=>exact absurd ej (s.e.nb j z)
   |ow z=>
    have key:∀b,v= .ref b->b≠a:=fun b hb hab=>by subst hab;subst hb;exact s.e.ap i j c z b hij e ej ea h1
    cases z with
    |lst z=>
     obtain⟨b,zs,rfl,fb,hb,rz⟩:=rr
     exact⟨b,zs,rfl,fb,by rw [g5 (key b rfl)];exact hb,rz⟩
    |dct z=>
     obtain⟨b,zs,rfl,fb,hb,rz⟩:=rr
     exact⟨b,zs,rfl,fb,by rw [g5 (key b rfl)];exact hb,rz⟩
    |txt z=>
     obtain⟨b,zs,rfl,fb,hb,rz⟩:=rr
     exact⟨b,zs,rfl,fb,by rw [g5 (key b rfl)];exact hb,rz⟩
 ·rw [List.getElem?_set] at ej
  by_cases hij:i=j
  ·subst hij;rw [if_pos rfl,if_pos hi] at ej;cases ej
  ·rw [if_neg hij] at ej;exact s.e.nb j z ej
 ·have own_at:∀(j:Nat) (z:M4),(ρ.set i (some (d7.ow d)))[j]?=some (some (d7.ow z))->∃z':M4,ρ[j]?=some (some (d7.ow z')):=fun j z h=>by
   rw [List.getElem?_set] at h
   by_cases hij:i=j
   ·subst hij;exact⟨c,e⟩
   ·rw [if_neg hij] at h;exact⟨z,h⟩
  obtain⟨y1,h1⟩:=own_at j z1 e1
  obtain⟨y2,h2⟩:=own_at k z2 e2
  exact s.e.ap j k y1 y2 c' hjk h1 h2 e3 e4
 ·rw [List.getElem?_set] at e1
  by_cases hij:i=j
  ·subst hij;rw [ea] at e2;cases e2;exact na
  ·rw [if_neg hij] at e1;exact s.nw j z c' e1 e2
theorem R7.put{K:AD}{F0 H0 F H:Hp}{σ:L2.St}{ρ:a8}{i:Nat}{ps qs:List PV}{a:AB}{ys:List V}(s:R7 K F0 H0 F H σ ρ)(e:ρ[i]?=some (some (.own ps)))(ea:σ[i]?=some (some (.ref a)))(r:g9 K F qs ys):
 R7 K F0 H0 F (upd H a (.lst ys)) σ (ρ.set i (some (.own qs))):=s.putC e ea fun fa=>⟨a,ys,rfl,fa,i7,r⟩
theorem R7.putD{K:AD}{F0 H0 F H:Hp}{σ:L2.St}{ρ:a8}{i:Nat}{ps qs:List (List f8×PV)}{a:AB}{ys:List (List f8×V)}(s:R7 K F0 H0 F H σ ρ)(e:ρ[i]?=some (some (.dct ps)))(ea:σ[i]?=some (some (.ref a)))(r:t4 K F qs ys):
 R7 K F0 H0 F (upd H a (.dT ys)) σ (ρ.set i (some (.dct qs))):=s.putC e ea fun fa=>⟨a,ys,rfl,fa,i7,r⟩
def z6(i:Nat)(m:M):MS:=fun ρ=>(m ρ).bind fun r=>r.toVal.bind fun p=>match ρ[i]? with
 |some (some (.ow (.lst ps)))=>if ps.length<AK then some (.nx (ρ.set i (some (.own (ps++[p]))))) else none
 |_=>none
theorem y3(i:Nat){x:Str}{p apos cpos pos:Pos}{e:AE}{m:M}(hx:PE X (.Name x p) (Q6 i))(ha:EE X e m)
 (hbase:attributeBase (.Name x p) "append" X.env (eval (.Name x p) X.env)=eval (.Name x p) X.env:=by rfl)
 (hfew:((backTo cpos (AX [e] X.env)).all (fun x=> !x.1)&&(backToKw cpos (keywordEach [] X.env)).all (fun x=>x.1.isSome)
  && decide ([e].length+([]:List Keyword).length+(if([]:List Keyword).isEmpty then 0 else 1)<30))=true:=by rfl)
 (hline:(apos.endLine==cpos.line)=true:=by rfl) (hs:AX [e] X.env=(false,eval e X.env)::AX [] X.env:=by rfl) (hplain:(backTo cpos (AX [] X.env)).any (·.1)=false:=by rfl)
 (hsw:swapsWith (.Call (.Attribute (.Name x p) "append" apos) [e] [] cpos) none pos.line X.env=pure false:=by rfl):
 ES X (.Expr (.Call (.Attribute (.Name x p) "append" apos) [e] [] cpos) pos) (z6 i m):=
 B1 (b4O (b7I PySem.F.plainAttrs_list PySem.F.slot_list_append PySem.F.type_list_append a5K hx (a0p ha a4A hs) hbase hfew hline hs hplain) hsw) fun D σ H ⟨F0,H0,F,ρ,fl,so,e,fin⟩=>by
  obtain⟨r,e1,e⟩:=bind_some e
  obtain⟨q,e2,e⟩:=bind_some e
  split at e
  ·rename_i ps eo
   split at e
   ·rename_i c
    cases e
    obtain⟨v,h1,a,xs,rfl,fa,ha',rl⟩:=so.e.at_ i _ eo
    refine⟨.ref a,h1,.inl ⟨rfl,xs,M2.of ha'⟩,F,ρ,r,so.e,e1,fun w F1 H1 o=> ?_⟩
    obtain⟨F2,o2⟩:=o.toVal e2
    have so2:=so.ext o2.x
    refine⟨a,xs,w,rfl,rfl,o.x.h _ _ ha',by rw [rl.length];exact c, ?_⟩
    exact fin σ F2 _ o2.x.f (so2.put eo h1 ((g9.mono o2.x.f _ rl).append ⟨w,[],rfl,o2.rep,rfl⟩))
   ·cases e
  ·cases e
def b4g(i:Nat)(g:d7->d7->Option d7)(m:M):MS:=fun ρ=>match ρ[i]? with
 |some (some (.val x))=>(m ρ).bind fun y=>(g (.val x) y).bind fun z=>if z.nb=true then some (.nx (ρ.set i (some z))) else none
 |_=>none
theorem b1G{i:Nat}{x:Str}{e:AE}{m:M}{g:d7->d7->Option d7}{op:Operator}{pos pos':Pos}(hN:X.N.Nodup)(he:EE X e m)(ho:OpM X (inplaceOp op) g)(hi:X.N[i]?=some x:=by rfl)(hx:Loc X.env.scope x:=by exact Or.inl rfl)(hf:X.fn x=true\/X.env.scope.names.lookup x=some .local:=by first|exact .inl rfl|exact .inr rfl|assumption):
 ES X (.AugAssign (.Name x pos') op e pos) (b4g i g m):=
 B1 (b6Q hN hi hx he (ti:=rM2 X.K g) ho hf) fun D σ H ⟨F0,H0,F,ρ,fl,so,e,fin⟩=>by
  unfold b4g at e
  split at e
  ·rename_i p ep
   obtain⟨y,e1,e⟩:=bind_some e
   obtain⟨z,e2,e⟩:=bind_some e
   split at e
   ·rename_i c
    cases e
    obtain⟨v,h1,rv⟩:=so.e.at_ i _ ep
    exact⟨v,h1,F,ρ,y,so.e,e1,fun u F1 H1 o=>⟨F1,.val p,y,z,o.x.fh,rv.ext o.x,o.rep,e2,fun t F2 H2 o2=>fin _ F2 H2 (o.x.f.trans o2.x.f) ((so.ext o.x).set o2 c i)⟩⟩
   ·cases e
  ·cases e
theorem a71:OpM X (inplaceOp .Add) (gI fun i j=> .int (i+j)):=b5A b35 fun _ _ _=>rfl
def a4j(i:Nat)(n:MS):MS:=fun ρ=>match ρ[i]? with
 |some (some (.ow (.lst ps)))=>n (ρ.set i (some (.val (.list ps))))
 |_=>n ρ
theorem R7.frz{K:AD}{F0 H0 F H:Hp}{σ:L2.St}{ρ:a8}{i:Nat}{ps:List PV}(s:R7 K F0 H0 F H σ ρ)(e:ρ[i]?=some (some (.own ps))):∃F',j5 F F'/\R7 K F0 H0 F' H σ (ρ.set i (some (.val (.list ps)))):=by
 obtain⟨v,h1,a,xs,rfl,fa,ha,rl⟩:=s.e.at_ i _ e
 have na:H0 a=none:=s.nw i _ a e h1
 have hi:i<ρ.length:=(Ar.mp e).1
 have up:j5 F (upd F a (.lst xs)):=C6 fa
 have fh:j5 (upd F a (.lst xs)) H:=fun b o z=>by
  by_cases hb:b=a
  ·subst hb;rw [i7] at z;cases z;exact ha
  ·rw [g5 hb] at z;exact s.e.fh _ _ z
 refine⟨upd F a (.lst xs),up,⟨⟨s.x.f.trans up,s.x.h,fh,fun b o z y t=>by rw [g5 (g6 y na)];exact s.x.nw b o z y t,b2v s.x.nf⟩,⟨fh,by simp [s.e.len],fun j q ej=> ?_,fun j z ej=> ?_,fun j k z1 z2 c hjk e1 e2 e3 e4=> ?_⟩,fun j z c e1 e2=> ?_⟩⟩
 ·rw [List.getElem?_set] at ej
  by_cases hij:i=j
  ·subst hij
   rw [if_pos rfl,if_pos hi] at ej
   cases ej
   exact⟨.ref a,h1,a,xs,rfl,M2.of i7,g9.mono up _ rl⟩
  ·rw [if_neg hij] at ej
   obtain⟨v,h2,rr⟩:=s.e.at_ j q ej
   refine⟨v,h2, ?_⟩
   cases q with
   |val p=>exact v6.mono up p rr
   |bo z=>exact absurd ej (s.e.nb j z)
   |ow z=>
    have key:∀b,v= .ref b->b≠a:=fun b hb hab=>by subst hab;subst hb;exact s.e.ap i j _ z b hij e ej h1 h2
    cases z with
    |lst z=>
     obtain⟨b,zs,rfl,fb,hb,rz⟩:=rr
     exact⟨b,zs,rfl,by rw [g5 (key b rfl)];exact fb,hb,g9.mono up _ rz⟩
    |dct z=>
     obtain⟨b,zs,rfl,fb,hb,rz⟩:=rr
     exact⟨b,zs,rfl,by rw [g5 (key b rfl)];exact fb,hb,t4.mono up _ rz⟩
    |txt z=>
     obtain⟨b,zs,rfl,fb,hb,rz⟩:=rr
     exact⟨b,zs,rfl,by rw [g5 (key b rfl)];exact fb,hb,t4.mono up _ rz⟩
 ·rw [List.getElem?_set] at ej
  by_cases hij:i=j
  ·subst hij;rw [if_pos rfl,if_pos hi] at ej;cases ej
  ·rw [if_neg hij] at ej;exact s.e.nb j z ej
 ·have own_at:∀(j:Nat) (z:M4),(ρ.set i (some (d7.val (.list ps))))[j]?=some (some (d7.ow z))->ρ[j]?=some (some (d7.ow z)):=fun j z h=>by
   rw [List.getElem?_set] at h
   by_cases hij:i=j
   ·subst hij;rw [if_pos rfl,if_pos hi] at h;cases h
   ·rw [if_neg hij] at h;exact h
  exact s.e.ap j k z1 z2 c hjk (own_at j z1 e1) (own_at k z2 e2) e3 e4
 ·rw [List.getElem?_set] at e1
  by_cases hij:i=j
  ·subst hij;rw [if_pos rfl,if_pos hi] at e1;cases e1
  ·rw [if_neg hij] at e1;exact s.nw j z c e1 e2
theorem a6h(i:Nat){st:Stmt}{n:MS}(h:ES X st n):ES X st (a4j i n):=B1 h fun D σ H ⟨F0,H0,F,ρ,fl,so,e,fin⟩=>by
 unfold a4j at e
 split at e
 ·rename_i ps eo
  obtain⟨F',s,so'⟩:=so.frz eo
  exact⟨F0,H0,F',_,fl,so',e,fin.later s⟩
 ·exact⟨F0,H0,F,ρ,fl,so,e,fin⟩
end
def b63(K:AD)(n:Nat)(a:AB):Option (List (f8×PV)):=match K.lookup a with
 |some ⟨.type "dict",none,.dict es _,⟨[]⟩⟩=>(a2L es.toList).bind (T1 K n)
 |_=>none
def b3g(K:AD)(n:Nat)(a:AB):Option (List (List f8×PV)):=match K.lookup a with
 |some ⟨.type "dict",none,.dict es _,⟨[]⟩⟩=>(a7w K es.toList).bind (M6 K n)
 |_=>none
def a0k(K:AD)(a:AB):List Int:=match K.lookup a with
 |some ⟨_,_,.dict es _,_⟩=>es.toList.map (·.hash)
 |_=>[]
theorem a1j{κ:Type}{K:AD}{n:Nat}:∀{kvs:List (κ×AA)} {tbl:List (κ×PV)},T1 K n kvs=some tbl->tbl.map (·.1)=kvs.map (·.1)
 |[],_,h=>by cases h;rfl
 |(k,u)::r,tbl,h=>by
  simp only [T1] at h
  obtain⟨q,e1,h⟩:=bind_some h
  obtain⟨t,e2,h⟩:=bind_some h
  cases h
  rw [AM,AM,a1j e2]
theorem a0x{K:AD}{n:Nat}:∀{kvs:List (List f8×AB×AA)} {tbl:List (List f8×PV)},M6 K n kvs=some tbl->tbl.map (·.1)=kvs.map (·.1)
 |[],_,h=>by cases h;rfl
 |(k,b,u)::r,tbl,h=>by
  simp only [M6] at h
  obtain⟨q,e1,h⟩:=bind_some h
  obtain⟨t,e2,h⟩:=bind_some h
  cases h
  rw [AM,AM,a0x e2]
theorem a7Q{κ α β:Type}{γ:Type}(f:κ->γ):∀{l:List (κ×α)} {m:List (κ×β)},l.map (·.1)=m.map (·.1)->l.map (fun x=>f x.1)=m.map (fun x=>f x.1):=fun {l m} h=>by
 have h1:l.map (fun x=>f x.1)=(l.map (·.1)).map f:=by simp [Az,Function.comp_def]
 have h2:m.map (fun x=>f x.1)=(m.map (·.1)).map f:=by simp [Az,Function.comp_def]
 rw [h1,h2,h]
theorem b65{P:AL}{w:AJ}{K:AD}{a:AB}{tbl:List (f8×PV)}(n:Nat)(t:b63 K n a=some tbl)(h:a0k K a=tbl.map (fun kv=>b0w w kv.1))(nd:(tbl.map (·.1)).Nodup):Tab P w K a tbl:=by
 unfold b63 at t
 split at t
 ·rename_i es ep e
  obtain⟨kvs,e1,e2⟩:=bind_some t
  have hk:=a1j e2
  refine⟨es,ep,kvs,n,e,e1, ?_,e2,by rw [<-hk];exact nd⟩
  unfold a0k at h
  rw [e] at h
  rw [<-a7Q (b0w w) hk]
  exact h
 ·cases t
theorem b5a{P:AL}{w:AJ}{K:AD}{a:AB}{tbl:List (List f8×PV)}(n:Nat)(t:b3g K n a=some tbl)(h:a0k K a=tbl.map (fun kv=>(tupleKind (k4 P w)).hash kv.1))(nd:(tbl.map (·.1)).Nodup):b3w P w K a tbl:=by
 unfold b3g at t
 split at t
 ·rename_i es ep e
  obtain⟨kvs,e1,e2⟩:=bind_some t
  have hk:=a0x e2
  refine⟨es,ep,kvs,n,e,e1, ?_,e2,by rw [<-hk];exact nd⟩
  unfold a0k at h
  rw [e] at h
  rw [<-a7Q (fun k=>(tupleKind (k4 P w)).hash k) hk]
  exact h
 ·cases t
def p9(P:AL)(w:AJ)(K:AD)(mg:Str->Option AA)(base:Heap)(x:Str)(ps:List Str)(k:Nat)(g:List PV->Option d7):Prop:=
 ∃f fd,O6 P w K mg base CX0 k f fd ps (spP K ps.length g)/\mg x=some (.ref f)/\PySem.W.keepIn K (.ref f)=true/\a2B K fd ps []
theorem b43{K:AD}{n:Nat}{g g':List PV->Option d7}(h:∀ps r,g' ps=some r->g ps=some r):∀vs H Q E,spP K n g' vs H Q E->spP K n g vs H Q E:=
 fun vs H Q E ⟨F,ps,r,s,rl,hl,e,k⟩=>⟨F,ps,r,s,rl,hl,h _ _ e,k⟩
theorem p9.imp{P:AL}{w:AJ}{K:AD}{mg:Str->Option AA}{base:Heap}{x:Str}{ps:List Str}{k:Nat}{g g':List PV->Option d7}(d:p9 P w K mg base x ps k g)(h:∀qs r,g' qs=some r->g qs=some r):p9 P w K mg base x ps k g':=by
 obtain⟨f,fd,G,r⟩:=d
 exact⟨f,fd,G.imp (b43 h),r⟩
section
variable {X:Cx}
theorem j3{k k':Nat}{ps:List Str}{g:List PV->Option d7}{x:Str}{p pos:Pos}{e:AE}{es:List AE}{m:MA}
 (d:p9 X.prog X.w X.K X.mg X.base x ps k g) (hr:E4 k' X.A) (hk:k<=k') (hg:Gl X x) (hn:∀ρ qs,m ρ=some qs->qs.length=ps.length) (ha:EA X (e::es) m)
 (hdb:(x==("__debug__":Str))=false:=by decide) (he:AX (e::es) X.env=(false,eval e X.env)::AX es X.env:=by rfl) (hpl:(backTo pos (AX es X.env)).any (·.1)=false:=by rfl):
 EE X (.Call (.Name x p) (e::es) [] pos) (k0 g m):=by
 obtain⟨f,fd,G,h1,h2,h3⟩:=d
 exact b3J G (hr.mono hk) hg h1 h2 h3 hn ha hdb he hpl
end
def a8d(K:AD):Sp:=fun vs H Q _=>∃(a:AB) (ns:List Int),vs=[.ref a]/\M2 K H a (ns.map V.int)/\ns.length<=63/\∀H',Q (.bl true) H'
theorem a5Q{K:AD}{H:Hp}:∀ns:List Int,g9 K H (ns.map PyData.int) (ns.map V.int)
 |[]=>rfl
 |n::ns=>⟨.int n,_,rfl,rfl,a5Q ns⟩
theorem b4b{K:AD}{g:List PV->Option d7}(h:∀ns:List Int,ns.length<=63->g [.list (ns.map .int)]=some (.val (.bool true))):∀vs H Q E,a8d K vs H Q E->spP K 1 g vs H Q E:=
 fun vs H Q E ⟨a,ns,e,hs,hl,k⟩=>by
  subst e
  exact⟨H,[.list (ns.map .int)],_,PU.j5.refl H,⟨.ref a,[],rfl,⟨a,_,rfl,hs,a5Q ns⟩,rfl⟩,rfl,h ns hl,fun v F' H' o=>by
   have:v= .bl true:=o.rep
   subst this
   exact k H'⟩
theorem b8C{l:PySem.W.OpenLaw}{q:AL}{loose:List Str}{XP:(Str->Option AA)->Heap->Prop}{YP:AJ->Heap->Prop}{d:DefRec}{K:Params->AD}{x:Str}{k:Nat}(hk:k<=40)(hn:l.most=some 63)(hdf:d.params.defaults=[])
 (hY:∀(w:AJ) (h:Heap),YP w h->(K w.params).In h)
 (F:∀(w:AJ) (mg:Str->Option AA) (fa:AB) (h:Heap),(K w.params).In h->h.Ns mainGlobals mg->mg d.name=some (.ref fa)->
  ∃fd:FuncData,(∀(s:AC) (u:AA),BindsTo s fd ⟨[u],[]⟩ [(x,u)])/\∀base:Heap,(K w.params).In base->base.Ns mainGlobals mg->O6 l.prog w (K w.params) mg base CX0 k fa fd [x] (a8d (K w.params))):
 PySem.W.WalkO q loose XP YP l.row.toRowW d [] (fun f vs=>PySem.call f vs):=
 L2.b5g (n:=63) (k:=40) (x:=x) (CX:=fun _=>CX0) (sp:=fun w=>a8d (K w.params)) hn (by decide) hdf ⟨rfl,by decide,by decide⟩ hY (fun w mg fa h a b c=>let ⟨fd,h1,h2⟩:=F w mg fa h a b c;⟨fd,h1,fun base x y=>(h2 base x y).mono hk⟩) (fun _ _ a ns hl _ hS=>⟨a,ns,rfl,hS,hl,fun _=>rfl⟩) fun _ _ _ _ _ z=>z
def b31(x y:d7):Option d7:=gIc a53 (fun i j=> .int (i*j)) x y
theorem b2B{X:Cx}:OpM X (binaryOp .Mult) b31:=b4C
theorem N2(i j:Int):O7 (.val (.int i)) (.val (.int j))=some (.val (.int (i+j))):=Eq.trans rfl rfl
theorem b1O{i j:Str}(h:i.length+j.length<=AK):O7 (.val (.str i)) (.val (.str j))=some (.val (.str (i++j))):=by simp [O7,h]
theorem b58(f:Int->Int->PV)(i j:Int):gI f (.val (.int i)) (.val (.int j))=some (.val (f i j)):=Eq.trans rfl rfl
theorem a3g{C:Int->Int->Prop}[∀i j,Decidable (C i j)](f:Int->Int->PV){i j:Int}(h:C i j):gIc C f (.val (.int i)) (.val (.int j))=some (.val (f i j)):=by
 show(if okC C i j=true then some (d7.val (f i j)) else none)=_
 rw [if_pos (a1L.mpr h)]
theorem b59{i j:Int}(h: -18446744073709551616<i/\i<18446744073709551616):b31 (.val (.int i)) (.val (.int j))=some (.val (.int (i*j))):=a3g _ (.inl (by lia))
theorem b6a{i j:Int}(h: -18446744073709551616<j/\j<18446744073709551616):b31 (.val (.int i)) (.val (.int j))=some (.val (.int (i*j))):=a3g _ (.inr (by lia))
theorem E9{f:Int->Int->PV}{i j:Int}(h:0<j):gIc (fun _ j=>0<j) f (.val (.int i)) (.val (.int j))=some (.val (f i j)):=a3g _ h
theorem a7C{f:Int->Int->PV}{i j:Int}(h:0<j/\j<1073741824):gIc a62 f (.val (.int i)) (.val (.int j))=some (.val (f i j)):=a3g _ h
theorem b1Q{x y:d7}(h:n4 x.rd 50=true/\n4 y.rd 50=true):gEq x y=some (.val (.bool (PyData.eqv x.rd y.rd))):=by simp [gEq,h]
theorem a2d{x y:d7}(h:n4 x.rd 50=true/\n4 y.rd 50=true):gNe x y=some (.val (.bool (!PyData.eqv x.rd y.rd))):=by simp [gNe,h]
theorem a5x(ps:List PV):E8 (.val (.list ps))=some (.val (.int ps.length)):=Eq.trans rfl rfl
theorem b1V(ps:List PV):E8 (.val (.tuple ps))=some (.val (.int ps.length)):=Eq.trans rfl rfl
theorem a3Y(ps:List PV):E8 (.bor ps)=some (.val (.int ps.length)):=Eq.trans rfl rfl
theorem a1x{ps:List PV}{i:Int}{p:PV}(h:L2.atI ps i=some p):t6 (.val (.list ps)) (.val (.int i))=some (.val p):=by simp [t6,d7.rd,M4.rd,PyData.items?,h]
theorem a1y{ps:List PV}{i:Int}{p:PV}(h:L2.atI ps i=some p):t6 (.val (.tuple ps)) (.val (.int i))=some (.val p):=by simp [t6,d7.rd,M4.rd,PyData.items?,h]
theorem U0{ps:List PV}{i:Int}{p:PV}(h:L2.atI ps i=some p):t6 (.bor ps) (.val (.int i))=some (.val p):=by simp [t6,d7.rd,M4.rd,PyData.items?,h]
theorem E7(p:PV)(ps:List PV):t6 (.val (.tuple (p::ps))) (.val (.int 0))=some (.val p):=by
 refine a1y ?_
 have h:(0:Int)<(((p::ps).length:Nat):Int):=by simp only [AT];lia
 unfold L2.atI L2.ixN
 rw [if_pos (by decide),if_pos h]
 rfl
theorem A2(p q:PV)(ps:List PV):t6 (.val (.tuple (p::q::ps))) (.val (.int 1))=some (.val q):=by
 refine a1y ?_
 have h:(1:Int)<(((p::q::ps).length:Nat):Int):=by simp only [AT];lia
 unfold L2.atI L2.ixN
 rw [if_pos (by decide),if_pos h]
 rfl
theorem R9(p q r:PV)(ps:List PV):t6 (.val (.tuple (p::q::r::ps))) (.val (.int 2))=some (.val r):=by
 refine a1y ?_
 have h:(2:Int)<(((p::q::r::ps).length:Nat):Int):=by simp only [AT];lia
 unfold L2.atI L2.ixN
 rw [if_pos (by decide),if_pos h]
 rfl
theorem b1U(p q r t:PV)(ps:List PV):t6 (.val (.tuple (p::q::r::t::ps))) (.val (.int 3))=some (.val t):=by
 refine a1y ?_
 have h:(3:Int)<(((p::q::r::t::ps).length:Nat):Int):=by simp only [AT];lia
 unfold L2.atI L2.ixN
 rw [if_pos (by decide),if_pos h]
 rfl
theorem k9(g:d7->d7->Option d7)(ma mb:M)(ρ:a8):m2 g ma mb ρ=(ma ρ).bind fun x=>(mb ρ).bind fun y=>g x y:=Eq.trans rfl rfl
theorem B0(g:d7->Option d7)(ma:M)(ρ:a8):m1 g ma ρ=(ma ρ).bind g:=Eq.trans rfl rfl
theorem l9(p:PV)(ρ:a8):mC p ρ=some (.val p):=Eq.trans rfl rfl
theorem c9(p:PV)(ρ:a8):a6 0 (some (.val p)::ρ)=some (.val p):=Eq.trans rfl rfl
theorem G8(p:List PV)(ρ:a8):a6 0 (some (.own p)::ρ)=some (.bor p):=Eq.trans rfl rfl
theorem d8(n:Nat)(r:Option d7)(ρ:a8):a6 (n+1) (r::ρ)=a6 n ρ:=Eq.trans rfl rfl
theorem b9(ρ:a8):c8 ρ=some []:=Eq.trans rfl rfl
theorem a9(m:M)(r:MA)(ρ:a8):a5 m r ρ=((m ρ).bind d7.toVal).bind fun p=>(r ρ).bind fun ps=>some (p::ps):=Eq.trans rfl rfl
theorem b0(p:PV):(d7.val p).toVal=some p:=Eq.trans rfl rfl
theorem S7(p:List PV):(d7.own p).toVal=some (.list p):=Eq.trans rfl rfl
theorem l0(m:MA)(ρ:a8):u9 m ρ=(m ρ).bind fun ps=>if ps.length<=AK then some (.val (.tuple ps)) else none:=Eq.trans rfl rfl
theorem v4(m:MA)(ρ:a8):M0 m ρ=(m ρ).bind fun ps=>if ps.length<=AK then some (.own ps) else none:=Eq.trans rfl rfl
theorem f9(g:List PV->Option d7)(m:MA)(ρ:a8):k0 g m ρ=(m ρ).bind g:=Eq.trans rfl rfl
def b3y(i:Nat)(ρ:a8)(r:d7):Option Fl:=if r.nb=true then some (.nx (ρ.set i (some r))) else none
theorem g8(i:Nat)(m:M)(ρ:a8):p5 i m ρ=(m ρ).bind (b3y i ρ):=Eq.trans rfl rfl
theorem n6(i:Nat)(ρ:a8)(p:PV):b3y i ρ (.val p)=some (.nx (ρ.set i (some (.val p)))):=Eq.trans rfl rfl
theorem a3D(i:Nat)(ρ:a8)(p:List PV):b3y i ρ (.own p)=some (.nx (ρ.set i (some (.own p)))):=Eq.trans rfl rfl
def b6T(r:d7):Option Fl:=if r.nb=true then some (.rt r) else none
theorem m5(m:M)(ρ:a8):z8 m ρ=(m ρ).bind b6T:=Eq.trans rfl rfl
theorem x4(p:PV):b6T (.val p)=some (.rt (.val p)):=Eq.trans rfl rfl
theorem a9h(p:List PV):b6T (.own p)=some (.rt (.own p)):=Eq.trans rfl rfl
def b6V(n:MS):Fl->Option Fl
 | .nx ρ=>n ρ
 |f=>some f
theorem f6(m n:MS)(ρ:a8):j7 m n ρ=(m ρ).bind (b6V n):=Eq.trans rfl rfl
theorem g0(n:MS)(ρ:a8):b6V n (.nx ρ)=n ρ:=Eq.trans rfl rfl
theorem a3q(n:MS)(r:d7):b6V n (.rt r)=some (.rt r):=Eq.trans rfl rfl
def ifK(m n:MS)(ρ:a8)(b:Bool):Option Fl:=if b=true then m ρ else n ρ
theorem m4(c:MT)(m n:MS)(ρ:a8):U5 c m n ρ=(c ρ).bind (ifK m n ρ):=Eq.trans rfl rfl
theorem a0D(m n:MS)(ρ:a8):ifK m n ρ true=m ρ:=Eq.trans rfl rfl
theorem S1(m n:MS)(ρ:a8):ifK m n ρ false=n ρ:=Eq.trans rfl rfl
theorem r8(ρ:a8):D8 ρ=some (.nx ρ):=Eq.trans rfl rfl
def b7O:Fl->Option d7
 | .rt r=>some r
 | .nx _=>some (.val .none)
 |_=>none
theorem j8(n:Nat)(b:MS)(ps:List PV):C5 n b ps=(b (ps.map (fun p=>some (d7.val p))++AV n none)).bind b7O:=Eq.trans rfl rfl
theorem m9(r:d7):b7O (.rt r)=some r:=Eq.trans rfl rfl
theorem b4o(m:M)(ρ:a8):mtV m ρ=(m ρ).bind tru:=Eq.trans rfl rfl
theorem m8(m:M)(ρ:a8):S8 m ρ=(m ρ).bind b2Z:=Eq.trans rfl rfl
theorem p6(b:Bool):b2Z (.val (.bool b))=some b:=Eq.trans rfl rfl
theorem b73(b:Bool):tru (.val (.bool b))=some b:=Eq.trans rfl rfl
def orK(d:MT)(ρ:a8)(b:Bool):Option Bool:=if b=true then some true else d ρ
theorem a1J(c d:MT)(ρ:a8):b2t c d ρ=(c ρ).bind (orK d ρ):=Eq.trans rfl rfl
theorem a9V(d:MT)(ρ:a8):orK d ρ false=d ρ:=Eq.trans rfl rfl
def b7C:d7->Option d7
 | .val (.int i)=>some (.val (.int (-i)))
 |_=>none
theorem a7N(m:M)(ρ:a8):a3a m ρ=(m ρ).bind b7C:=Eq.trans rfl rfl
theorem b2u(i:Int):b7C (.val (.int i))=some (.val (.int (-i))):=Eq.trans rfl rfl
theorem a03(p:PV):(d7.val p).rd=p:=Eq.trans rfl rfl
def b70(tbl:List (f8×PV))(r:d7):Option d7:=(a7G r.rd).bind fun k=>(z3 tbl k).map .val
theorem b2p(tbl:List (f8×PV))(m:M)(ρ:a8):b6p tbl m ρ=(m ρ).bind (b70 tbl):=Eq.trans rfl rfl
theorem b64(tbl:List (f8×PV))(x:Str):b70 tbl (.val (.str x))=(z3 tbl (.inr x)).map .val:=Eq.trans rfl rfl
def b5J(tbl:List (List f8×PV)):d7->Option d7
 | .val (.tuple ps)=>(keysOf ps).bind fun k=>(z3 tbl k).map .val
 |_=>none
theorem b0G(tbl:List (List f8×PV))(m:M)(ρ:a8):b2o tbl m ρ=(m ρ).bind (b5J tbl):=Eq.trans rfl rfl
theorem b49(tbl:List (List f8×PV))(ps:List PV):b5J tbl (.val (.tuple ps))=(keysOf ps).bind fun k=>(z3 tbl k).map .val:=Eq.trans rfl rfl
def b74(is:List Nat)(ρ:a8):d7->Option Fl
 | .val (.tuple ps)=>if ps.length=is.length then some (.nx (setAll ρ is (ps.map .val))) else none
 |_=>none
theorem Y6(is:List Nat)(m:M)(ρ:a8):b0H is m ρ=(m ρ).bind (b74 is ρ):=Eq.trans rfl rfl
theorem a42(i j:Nat)(ρ:a8)(p q:PV):b74 [i,j] ρ (.val (.tuple [p,q]))=some (.nx ((ρ.set i (some (.val p))).set j (some (.val q)))):=Eq.trans rfl rfl
theorem j9(it:MI)(tg:PV->a8->Option a8)(body:MS)(ρ:a8):B7 it tg body ρ=(it ρ).bind fun ps=>w4 body tg ps ρ:=Eq.trans rfl rfl
def b5F:List PV->Option (List PV)
 |[.int j]=>if inR j=true then some (G4 0 j) else none
 |_=>none
theorem n5(m:MA)(ρ:a8):D9 m ρ=(m ρ).bind b5F:=Eq.trans rfl rfl
theorem r9{j:Int}(h: -4611686018427387904<=j/\j<4611686018427387904):b5F [.int j]=some (G4 0 j):=by
 show(if inR j=true then some (G4 0 j) else none)=_
 rw [if_pos (a9G.mpr (by lia))]
theorem b1X{p:PV}(h:n4 p 50=true):gNe (.val p) (.val p)=some (.val (.bool false)):=by
 rw [a2d (x:= .val p) (y:= .val p) ⟨h,h⟩,a03,a7y p 50 h]
 rfl
theorem sz(n:Nat):(n<=AK)=(n<=16777216):=by rw [sizeLine_eq]
end PU
namespace L2
open PySem PySem.Spec PyProof.Rows
theorem y0:∀(names:List (Str×NameKind)) (n:Nat) (acc:List (Str×AB)),cellsFrom n names acc=cellsFrom n names []++acc
 |[],_,_=>rfl
 |(x,k)::r,n,acc=>by
  unfold cellsFrom
  split
  ·rw [y0 r (n+1) ((x,n)::acc),y0 r (n+1) [(x,n)],List.append_assoc];rfl
  ·exact y0 r n acc
theorem E5:∀{names:List (Str×NameKind)} {n:Nat} {x:Str} {c:AB},(x,c)∈cellsFrom n names []->n<=c/\(x,NameKind.cell)∈names
 |[],_,_,_,h=>nomatch h
 |(y,k)::r,n,x,c,h=>by
  unfold cellsFrom at h
  split at h
  ·rename_i hk
   rw [y0] at h
   rcases Ap.mp h with h|h
   ·obtain⟨a,b⟩:=E5 h
    exact⟨by lia,Ai _ b⟩
   ·have e:(x,c)=(y,n):=by simpa using h
    cases e
    have:k= .cell:=by simpa using hk
    subst this
    exact⟨AN _,Al⟩
  ·obtain⟨a,b⟩:=E5 h
   exact⟨a,Ai _ b⟩
theorem a4f{α:Type}:∀{l:List (Str×α)} {x:Str},(∀c,(x,c)∉l)->l.lookup x=none:=fun {l x} h=>by
 cases e:l.lookup x with
 |none=>rfl
 |some c=>exact absurd (PySem.mem_of_lookup e) (h c)
theorem a0H{α:Type}:∀{l r:List (Str×α)} {x:Str},l.lookup x=none->(l++r).lookup x=r.lookup x
 |[],_,_,_=>rfl
 |(y,v)::l,r,x,h=>by
  rw [Ao,List.lookup_cons]
  rw [List.lookup_cons] at h
  cases e:x==y with
  |true=>rw [e] at h;cases h
  |false=>rw [e] at h;exact a0H h
def L1(cells:List (Str×AB)):List (Str×NameKind)->List (Str×AB)->List (Str×AB)
 |[],acc=>acc
 |(x,k)::r,acc=>if k== .free then L1 cells r ((x,(cells.lookup x).getD 0)::acc) else L1 cells r acc
theorem a13{cells:List (Str×AB)}:∀{names:List (Str×NameKind)} {acc:List (Str×AB)} {x:Str} {c:AB},(x,c)∈L1 cells names acc->(x,c)∈acc\/((x,NameKind.free)∈names/\c=(cells.lookup x).getD 0)
 |[],_,_,_,h=> .inl h
 |(y,k)::r,acc,x,c,h=>by
  unfold L1 at h
  split at h
  ·rename_i hk
   rcases a13 h with h|⟨h1,h2⟩
   ·rcases Ag.mp h with e|h
    ·cases e
     have:k= .free:=by simpa using hk
     subst this
     exact .inr ⟨Al,rfl⟩
    ·exact .inl h
   ·exact .inr ⟨Ai _ h1,h2⟩
  ·rcases a13 h with h|⟨h1,h2⟩
   ·exact .inl h
   ·exact .inr ⟨Ai _ h1,h2⟩
theorem X6{cells:List (Str×AB)}:∀{names:List (Str×NameKind)} {acc:List (Str×AB)} {x:Str},x∉names.map (·.1)->(L1 cells names acc).lookup x=acc.lookup x
 |[],_,_,_=>rfl
 |(y,k)::r,acc,x,h=>by
  have h':¬(x=y)/\x∉r.map (·.1):=by simpa using h
  unfold L1
  split
  ·rw [X6 h'.2,List.lookup_cons]
   have e:(x==y)=false:=by simpa using h'.1
   rw [e]
  ·exact X6 h'.2
theorem T5{cells:List (Str×AB)}:∀{names:List (Str×NameKind)} {acc:List (Str×AB)} {x:Str},(names.map (·.1)).Nodup->names.lookup x=some .free->(L1 cells names acc).lookup x=some ((cells.lookup x).getD 0)
 |[],_,_,_,h=>by cases h
 |(y,k)::r,acc,x,nd,h=>by
  have nd':y∉r.map (·.1)/\(r.map (·.1)).Nodup:=List.nodup_cons.mp nd
  rw [List.lookup_cons] at h
  unfold L1
  cases e:x==y with
  |true=>
   rw [e] at h
   have hk:k= .free:=by simpa using h
   subst hk
   have exy:x=y:=by simpa using e
   subst exy
   rw [if_pos (show(NameKind.free==NameKind.free)=true from rfl),X6 nd'.1,List.lookup_cons,e]
  |false=>
   rw [e] at h
   split
   ·exact T5 nd'.2 h
   ·exact T5 nd'.2 h
theorem Q0{env:Env}(f:Str×NameKind->List (Str×AB)->Sem (ForInStep (List (Str×AB))))(hf:∀x k cs,f (x,k) cs=if k== .free then(do let c<-cellOf env x;pure (.yield ((x,c)::cs))) else pure (.yield cs)):
 ∀(names:List (Str×NameKind)) (acc:List (Str×AB)),(∀x∈names,x.2= .free->(env.cells.lookup x.1).isSome=true)->forIn names acc f=pure (L1 env.cells names acc)
 |[],acc,_=>rfl
 |(x,k)::r,acc,h=>by
  rw [List.forIn_cons,hf]
  unfold L1
  have hr:=fun y hy=>h y (Ai _ hy)
  split
  ·rename_i hk
   have:=h (x,k) Al (by simpa using hk)
   obtain⟨c,hc⟩:=Option.isSome_iff_exists.mp this
   unfold cellOf
   rw [hc]
   show forIn r ((x,c)::acc) f=_
   exact Q0 f hf r _ hr
  ·exact Q0 f hf r acc hr
theorem a48{scope:Scope}{env:Env}(h:∀x∈scope.names,x.2= .free->(env.cells.lookup x.1).isSome=true):closureFor scope env=pure (L1 env.cells scope.names []):=by
 unfold closureFor
 have e:=Q0 (env:=env) (fun(x:Str×NameKind) (cs:List (Str×AB))=>if x.2== .free then(do let c<-cellOf env x.1;pure (.yield ((x.1,c)::cs))) else pure (.yield cs)) (fun _ _ _=>rfl) scope.names [] h
 show(forIn scope.names [] _>>=fun r=>pure r)=_
 refine Eq.trans (congrArg (· >>=fun r=>pure r) (Eq.trans (congrArg (forIn scope.names []) ?_) e)) rfl
 funext x cs
 cases x with
 |mk n k=>cases k<;>rfl
theorem Z5{env:Env}{x:Str}:∀{names:List (Str×NameKind)},(names.map fun(p:Str×NameKind)=>if(p.2==NameKind.free && env.scope.kind== .function && env.kindOf p.1==some .cell) then(p.1,NameKind.cell) else(p.1,p.2)).lookup x
 =(names.lookup x).map fun k=>if(k==NameKind.free && env.scope.kind== .function && env.kindOf x==some .cell) then NameKind.cell else k
 |[]=>rfl
 |(n,k)::r=>by
  rw [AM]
  have ih:= @Z5 env x r
  show List.lookup x ((if(k==NameKind.free && env.scope.kind== .function && env.kindOf n==some .cell)=true then(n,NameKind.cell) else(n,k))::_)=_
  cases hx:x==n with
  |true=>
   have e:x=n:=by simpa using hx
   subst e
   by_cases c:(k==NameKind.free && env.scope.kind== .function && env.kindOf x==some .cell)=true
   ·rw [if_pos c,List.lookup_cons,hx,List.lookup_cons,hx];exact congrArg some (if_pos c).symm
   ·rw [if_neg c,List.lookup_cons,hx,List.lookup_cons,hx];exact congrArg some (if_neg c).symm
  |false=>
   by_cases c:(k==NameKind.free && env.scope.kind== .function && env.kindOf n==some .cell)=true
   ·rw [if_pos c,List.lookup_cons,hx,List.lookup_cons,hx];exact ih
   ·rw [if_neg c,List.lookup_cons,hx,List.lookup_cons,hx];exact ih
def D5(scope:Scope)(C:AB)(env:Env):Env:=
 {scope:=relabel scope env,locals:=C,globals:=env.globals,cells:=cellsFrom (C+1) scope.names (L1 env.cells scope.names []),qual:=env.qual,func:=none,code:=env.code,frame:=env.frame,builtins:=env.builtins}
def hid(ys:List Str)(x:Str):Str:=if ys.contains x=true then AI "0"++x else x
def M7(X:Cx)(N0:List Str)(scope:Scope)(ys:List Str)(C:AB)(fp:List AB)(pins:List (AB×Obj))(s₃:AC)(H₃:Hp):Cx:=
 {X with N:=N0++ys,s₀:=s₃,H₀:=H₃,env:=D5 scope C X.env,outer:=X.stack,ex:=fp,fn:=fun x=>scope.names.lookup x==some .cell,pn:=X.pn++pins}
theorem M8{scope:Scope}{C:AB}{env:Env}{x:Str}:(D5 scope C env).kindOf x=(scope.names.lookup x).map fun k=>if(k==NameKind.free && env.scope.kind== .function && env.kindOf x==some .cell) then NameKind.cell else k:=
 Z5
structure Q9(N N0 ys:List Str)(env:Env)(scope:Scope):Prop where
 eq:N0=N.map (hid ys)
 kind:scope.kind= .function
 nd:(scope.names.map (·.1)).Nodup
 fr:∀x∈scope.names,x.2= .free->env.kindOf x.1=some .cell\/env.kindOf x.1=some .free
 ou:∀x∈N,(ys.contains x=true->scope.names.lookup (hid ys x)=none)/\(ys.contains x=false->scope.names.lookup x=none\/scope.names.lookup x=some .free\/scope.names.lookup x=some .globalImplicit)
theorem v3{α:Type}:∀{l:List (Str×α)} {x:Str} {v:α},(l.map (·.1)).Nodup->(x,v)∈l->l.lookup x=some v
 |[],_,_,_,h=>nomatch h
 |(y,w)::r,x,v,nd,h=>by
  have nd':y∉r.map (·.1)/\(r.map (·.1)).Nodup:=List.nodup_cons.mp nd
  rw [List.lookup_cons]
  rcases Ag.mp h with e|h
  ·cases e;simp
  ·have:x≠y:=fun e=>nd'.1 (by rw [<-e];exact Aj.mpr ⟨_,h,rfl⟩)
   have e:(x==y)=false:=by simpa using this
   rw [e]
   exact v3 nd'.2 h
section
variable {M:Model}{A:AO}{E:AA->AC->Prop}{s:AC}
theorem a0v{scope:Scope}{globals:AB}{cl:List (Str×AB)}{qual:Str}{env:Env}{builtins:AB}{Q:Env->AC->Prop}
 (h:Q (newEnv scope s.heap.objs.size globals (cellsFrom (s.heap.objs.size+1) scope.names cl) qual none .none (some env) builtins) {s with heap:=pushCells (s.heap.push {cls:= .type "dict",data:= .dict #[]}) scope.names}):
 AG M A (newFunctionEnv scope globals cl [] qual none .none (some env) builtins) Q E s:=by
 simp only [newFunctionEnv,Option.isSome_some,if_true]
 refine AF (wpAny_alloc ?_)
 refine AF (wpAny_layCells _ (fun name kind cells=>by cases hkc:kind==NameKind.cell<;>simp [hkc]) _ _ _ _ ?_)
 rw [show({s with heap:=s.heap.push {cls:= .type "dict",data:= .dict #[]}}:AC).heap.objs.size=s.heap.objs.size+1 from Heap.size_push ..]
 exact AF (AQ (AQ h))
end
section
variable {prog:AL}{w:AJ}{A:AO}{R:Result->AC->Prop}{s:AC}
theorem a0s{elt target iter:AE}{ifs:List AE}{scope:Scope}{pos:Pos}{it acc:AA}{env:Env}(I:Nat->AC->Prop)
 (turn:∀n s,I n s->AG (model prog w) A (pyNext it) (fun r s₁=>match r with
  |none=>R (.ok .next) s₁
  |some v=>AG (model prog w) A (letOwnedTupleGo target it v) (fun _ s₁'=>AG (model prog w) A (assign target env v) (fun _ s₂=>
   AG (model prog w) A (forIn ifs true fun c r=>if r=true then do let ok<-isTrue c env (eval c env);pure (ForInStep.yield ok) else pure (ForInStep.yield r)) (fun ok s₃=>
    if ok=true then AG (model prog w) A (eval elt env) (fun x s₄=>
     AG (model prog w) A (call (.builtin "list.append") [acc,x]) (fun _ s₅=>∃m,m<n/\I m s₅) (fun _ _=>False) s₄) (fun _ _=>False) s₃
    else ∃m,m<n/\I m s₃) (fun _ _=>False) s₂) (fun _ _=>False) s₁') (fun _ _=>False) s₁) (fun _ _=>False) s)
 (n:Nat) (h:I n s):
 codeAny (model prog w) A (.compLoop (.ListComp elt [⟨target,iter,ifs,0⟩] scope pos) 0 it acc env) R s:=by
 refine codeAny_loop rfl I (fun n s hI=> ?_) n h
 show AG _ A ((compTurn (.ListComp elt [⟨target,iter,ifs,0⟩] scope pos) 0 it acc env).onRaise (fun x=>do noteFrame x env;theTreesLotGoes x)) _ _ s
 refine wpAny_noted ?_
 rw [compTurn_list]
 refine AF (wpAny_standAt (AF (wpAny_mono (turn n s hI) (fun r s₁ h₁=> ?_) fun _ _ h'=>h'.elim)))
 cases r with
 |none=>exact AQ h₁
 |some v=>
  refine AF (wpAny_mono h₁ (fun _ s₁' h₁'=> ?_) fun _ _ h'=>h'.elim)
  refine AF (wpAny_mono h₁' (fun _ s₂ h₂=>AF (wpAny_mono h₂ (fun ok s₃ h₃=> ?_) fun _ _ h'=>h'.elim)) fun _ _ h'=>h'.elim)
  cases ok with
  |false=>exact AQ ⟨rfl,h₃⟩
  |true=>
   exact AF (AF (wpAny_mono h₃ (fun x s₄ h₄=>AF (wpAny_mono h₄ (fun _ s₅ h₅=>AQ (AQ ⟨rfl,h₅⟩)) fun _ _ h'=>h'.elim)) fun _ _ h'=>h'.elim))
end
def PCs(X:Cx)(ifs:List AE)(t:TT):Prop:=
 ∀(pins:List (AB×Obj)) (s:AC) (σ:St) (H:Hp) (Q:Bool->Hp->Prop),i2 X pins σ H s->t σ H Q->
  AG (model X.prog X.w) X.A (forIn ifs true fun c r=>if r=true then do let ok<-isTrue c X.env (eval c X.env);pure (ForInStep.yield ok) else pure (ForInStep.yield r)) (TP X pins σ Q) X.xe s
def b7Z:TT:=fun _ H Q=>Q true H
theorem b4D{X:Cx}:PCs X [] b7Z:=fun pins s σ H Q I h=>wpAny_tests_nil ⟨H,I,h⟩
theorem b4E{X:Cx}{c:AE}{t:TT}(h:PT X c t):PCs X [c] t:=fun pins s σ H Q I hq=>wpAny_tests_one (h pins s σ H Q I hq)
def b3f(wi:TI)(g:TG)(tc:TT)(te:TE)(k:Nat):TE:=fun σ H Q=>wi σ H fun J H1=>∀D,H1 D=none->∃W:Nat->Nat->List V->Hp->Prop,(∃m,W 0 m [] (upd H1 D (.lst [])))/\∀i m xs H2,W i m xs H2->H2 D=some (.lst xs)->
 (J.stop i H2/\Q (.ref D) H2)\/(J.go i H2/\∀x H3,J.yld i H2 x H3->g x (σ++AV k none) H3 fun σ4 H4=>(∀(j:Nat) v,(σ++AV k none)[j]?=some (some v)->σ4[j]?=some (some v))/\tc σ4 H4 fun b H5=>if b=true then te σ4 H5 fun v H6=>H6 D=some (.lst xs)/\xs.length<AK/\∃m',m'<m/\W (i+1) m' (xs++[v]) (upd H6 D (.lst (xs++[v])))
  else H5 D=some (.lst xs)/\∃m',m'<m/\W (i+1) m' xs H5)
section
variable {X:Cx}{elt iter tg:AE}{ifs:List AE}{scope:Scope}{N0 ys:List Str}{wi:TI}{g:TG}{tc:TT}{te:TE}{pos:Pos}
theorem U4{pins:List (AB×Obj)}{σ:St}{H:Hp}{s:AC}(I:i2 X pins σ H s)(S:Q9 X.N N0 ys X.env scope){x:Str}(h:(x,NameKind.free)∈scope.names):∃c,X.env.cells.lookup x=some c:=I.ok.has x (S.fr _ h rfl)
theorem a8E{pins:List (AB×Obj)}{σ:St}{H:Hp}{s:AC}{fp:List AB}(S:Q9 X.N N0 ys X.env scope)(I:i2 X pins σ H s)(hf:∀b∈fp,a10 X pins H b)(ho:∀b∈fp,∃o,s.heap.get? b=some o/\∀v,o.data≠.cell v):
 i2 (M7 X N0 scope ys s.heap.objs.size fp pins s H) [] (σ++AV ys.length none) H {s with heap:=pushCells (s.heap.push {cls:= .type "dict",data:= .dict #[]}) scope.names}:=by
 have up:∀b o,s.heap.get? b=some o->(pushCells (s.heap.push {cls:= .type "dict",data:= .dict #[]}) scope.names).get? b=some o:=fun b o e=>pushCells_keeps _ _ b o (Ae _ e)
 have okc:=cellsFrom_ok scope.names (s.heap.push {cls:= .type "dict",data:= .dict #[]}) (s.heap.objs.size+1) [] ⟨fun _ _ hm=>(nomatch hm),List.Pairwise.nil⟩ (by rw [Heap.size_push];exact AN _)
 rw [Heap.size_push] at okc
 have cel:∀x c,(D5 scope s.heap.objs.size X.env).cells.lookup x=some c->((x,c)∈cellsFrom (s.heap.objs.size+1) scope.names []/\(x,NameKind.cell)∈scope.names/\s.heap.objs.size<c)\/(X.env.cells.lookup x=some c/\(x,NameKind.free)∈scope.names):=fun x c e=>by
  have m:=PySem.mem_of_lookup e
  have m:(x,c)∈cellsFrom (s.heap.objs.size+1) scope.names (L1 X.env.cells scope.names []):=m
  rw [y0] at m
  rcases Ap.mp m with m|m
  ·obtain⟨h1,h2⟩:=E5 m
   exact .inl ⟨m,h2,h1⟩
  ·rcases a13 m with m|⟨m,e⟩
   ·exact nomatch m
   ·obtain⟨c',hc'⟩:=U4 I S m
    rw [hc'] at e
    exact .inr ⟨by rw [hc',e];rfl,m⟩
 have celLt:∀x c,X.env.cells.lookup x=some c->c<s.heap.objs.size:=fun x c e=>let ⟨_,h⟩:=I.cell x c e;h.lt
 have fpLt:∀b∈fp,b<s.heap.objs.size:=fun b hb=>let ⟨_,e,_⟩:=ho b hb;AY e
 have cellNo:∀x,(x,NameKind.cell)∉scope.names->(cellsFrom (s.heap.objs.size+1) scope.names []).lookup x=none:=fun x hx=>a4f fun c m=>hx (E5 m).2
 have look:∀x,(x,NameKind.free)∈scope.names->(D5 scope s.heap.objs.size X.env).cells.lookup x=X.env.cells.lookup x:=fun x m=>by
  have hl:=v3 S.nd m
  have hn:(x,NameKind.cell)∉scope.names:=fun z=>by
   have:=v3 S.nd z
   rw [hl] at this;cases this
  show(cellsFrom (s.heap.objs.size+1) scope.names (L1 X.env.cells scope.names [])).lookup x=_
  rw [y0,a0H (cellNo x hn),T5 S.nd hl]
  obtain⟨c,hc⟩:=U4 I S m
  rw [hc];rfl
 have kindF:∀x,scope.names.lookup x=some .free->X.env.kindOf x=some .cell\/X.env.kindOf x=some .free:=fun x h=>S.fr _ (PySem.mem_of_lookup h) rfl
 refine⟨⟨I.mod,S.kind,I.ok.glob,I.ok.blt,AN _,fun x y c h1 h2=> ?_,fun x h=> ?_,fun x c h1 h2=> ?_,I.ok.hd,I.ok.frames,.inl rfl,fun b hb=> ?_,I.bs,Nat.le_trans I.ok.bsz I.sz,fun b o e hb=> ?_,fun b hb hz=> ?_,I.stack,I.stkFree⟩,
  rfl,I.bare,Un.kept up,⟨fun _=>none, ?_,fun i x v h1 h2 h3=> ?_⟩,fun x c e=> ?_,I.hok.fresh (AN _),fun x c e=> ?_,fun p hp=> ?_,I.hok.kept up, ?_⟩
 ·rcases cel x c h1 with⟨a1,b1,c1⟩|⟨a1,b1⟩
  ·rcases cel y c h2 with⟨a2,b2,c2⟩|⟨a2,b2⟩
   ·exact name_of_addr okc.apart a1 a2
   ·exact absurd (Nat.lt_trans c1 (celLt y c a2)) (Nat.lt_irrefl _)
  ·rcases cel y c h2 with⟨a2,b2,c2⟩|⟨a2,b2⟩
   ·exact absurd (Nat.lt_trans c2 (celLt x c a1)) (Nat.lt_irrefl _)
   ·exact I.ok.inj x y c a1 a2
 ·have hk:(D5 scope s.heap.objs.size X.env).kindOf x=some .cell\/(D5 scope s.heap.objs.size X.env).kindOf x=some .free:=h
  rw [M8] at hk
  cases e:scope.names.lookup x with
  |none=>rw [e] at hk;rcases hk with z|z<;>cases z
  |some k=>
   rw [e] at hk
   have hk':k= .cell\/k= .free:=by
    by_cases c:(k==NameKind.free && X.env.scope.kind== .function && X.env.kindOf x==some .cell)=true
    ·have:(k==NameKind.free)=true:=by
      rw [Bool.and_eq_true,Bool.and_eq_true] at c;exact c.1.1
     exact .inr (by simpa using this)
    ·simp only [BF] at hk
     rw [if_neg c] at hk
     rcases hk with z|z
     ·cases z;exact .inl rfl
     ·cases z;exact .inr rfl
   rcases hk' with rfl|rfl
   ·have q:=PySem.W.cellsFrom_some (x:=x) scope.names (s.heap.objs.size+1) (L1 X.env.cells scope.names []) (.inl e)
    exact Option.isSome_iff_exists.mp q
   ·obtain⟨c,hc⟩:=U4 I S (PySem.mem_of_lookup e)
    exact⟨c,by show(D5 scope s.heap.objs.size X.env).cells.lookup x=_;rw [look x (PySem.mem_of_lookup e)];exact hc⟩
 ·rcases cel x c h2 with⟨_,_,c1⟩|⟨_,b1⟩
  ·exact BE c1
  ·have h1':(scope.names.lookup x==some .cell)=true:=h1
   rw [v3 S.nd b1] at h1'
   cases h1'
 ·refine⟨An (fpLt b hb),fun x c e z=> ?_⟩
  rcases cel x c e with⟨_,_,c1⟩|⟨a1,_⟩
  ·rw [z] at c1;exact absurd (Nat.lt_trans c1 (fpLt b hb)) (Nat.lt_irrefl _)
  ·exact(hf b hb).2.2.2.2.1 x c a1 z
 ·have hb:b∈fp:=hb
  rcases(hf b hb).2.2.2.1 with z|z
  ·exact I.ok.noex b o e z
  ·have h1:=(I.ok.bs b o e).1
   have:=AY h1
   exact absurd (BC this z) (Nat.lt_irrefl _)
 ·have hb:b∈fp:=hb
  have hz:b∈frs X.stack:=hz
  rcases Ag.mp (I.stkSub b hz) with z|z
  ·exact(hf b hb).2.1 z
  ·exact(hf b hb).2.2.1 z
 ·exact(Heap.Ns.new s.heap (.type "dict")).keeps (pushCells_keeps _ _)
 ·have h1:(N0++ys)[i]?=some x:=h1
  rw [S.eq] at h1
  have hi:i<σ.length:=by
   by_cases hi:i<σ.length
   ·exact hi
   ·rw [List.getElem?_append_right (by lia),List.getElem?_replicate] at h2
    split at h2<;>cases h2
  rw [BB hi] at h2
  rw [BB (by rw [AU,<-I.len];exact hi),Aq] at h1
  have hvis:Vis (D5 scope s.heap.objs.size X.env).scope x:=h3
  have hkn:scope.names.lookup x=none->False:=fun z=>by
   have hk:∀k,(D5 scope s.heap.objs.size X.env).kindOf x=some k->scope.names.lookup x≠none:=fun k z e=>by
    rw [M8,e] at z;cases z
   rcases hvis with e|e|e<;>exact absurd z (hk _ e)
  have h1:X.N[i]?=some x/\ys.contains x=false:=by
   cases e0:X.N[i]? with
   |none=>rw [e0] at h1;cases h1
   |some x0=>
    rw [e0] at h1
    have h1:hid ys x0=x:=Option.some.inj h1
    have ho:=S.ou x0 (Au e0)
    cases hc:ys.contains x0 with
    |true=>exact(hkn (by rw [<-h1];exact ho.1 hc)).elim
    |false=>
     have hx:x0=x:=by rw [<-h1];unfold hid;rw [if_neg (by rw [hc];exact As)]
     subst hx
     exact⟨rfl,hc⟩
  obtain⟨h1,hys⟩:=h1
  have hfree:scope.names.lookup x=some .free:=by
   have hk:∀k,(D5 scope s.heap.objs.size X.env).kindOf x=some k->scope.names.lookup x≠none:=fun k z e=>by
    rw [M8,e] at z;cases z
   rcases(S.ou x (Au h1)).2 hys with z|z|z
   ·rcases hvis with e|e|e<;>exact absurd z (hk _ e)
   ·exact z
   ·have hg:(D5 scope s.heap.objs.size X.env).kindOf x=some .globalImplicit:=by
     rw [M8,z];rfl
    rcases hvis with e|e|e
    ·have e:(D5 scope s.heap.objs.size X.env).kindOf x=some .local:=e
     rw [hg] at e;cases e
    ·have e:(D5 scope s.heap.objs.size X.env).kindOf x=some .cell:=e
     rw [hg] at e;cases e
    ·have e:(D5 scope s.heap.objs.size X.env).kindOf x=some .free:=e
     rw [hg] at e;cases e
  obtain⟨m,hn,hl⟩:=I.loc
  have hv:Vis X.env.scope x:=by
   rcases kindF x hfree with z|z
   ·exact .inr (.inl z)
   ·exact .inr (.inr z)
  obtain⟨u,r,l⟩:=hl i x v h1 h2 hv
  refine⟨u,r, ?_⟩
  rcases l with⟨k,_⟩|⟨k,c,e,z⟩
  ·rcases kindF x hfree with q|q<;>rw [q] at k<;>cases k
  ·refine .inr ⟨?_,c,by show(D5 scope s.heap.objs.size X.env).cells.lookup x=_;rw [look x (PySem.mem_of_lookup hfree)];exact e,z.keeps up⟩
   show(D5 scope s.heap.objs.size X.env).kindOf x=some .cell\/(D5 scope s.heap.objs.size X.env).kindOf x=some .free
   rw [M8,hfree]
   by_cases cc:((NameKind.free==NameKind.free)&& X.env.scope.kind== .function && X.env.kindOf x==some .cell)=true
   ·exact .inl (congrArg some (if_pos cc))
   ·exact .inr (congrArg some (if_neg cc))
 ·rcases cel x c e with⟨a1,_,_⟩|⟨a1,_⟩
  ·exact⟨none,(okc.empty x c a1).1⟩
  ·obtain⟨v,z⟩:=I.cell x c a1
   exact⟨v,z.keeps up⟩
 ·rcases cel x c e with⟨_,_,c1⟩|⟨a1,_⟩
  ·exact I.hok.fresh (BE c1)
  ·exact I.freeC x c a1
 ·have hp:p∈(X.pn++pins)++[]:=hp
  rw [Am] at hp
  obtain⟨e,n,ne,nf,d⟩:=I.pin p hp
  refine⟨up _ _ e,n,An (AY e),fun hz=> ?_,d⟩
  have hz:p.1∈frs X.stack:=hz
  rcases Ag.mp (I.stkSub p.1 hz) with z|z
  ·exact ne z
  ·exact nf z
 ·show(σ++AV ys.length none).length=(N0++ys).length
  rw [AZ,List.length_replicate,AZ,S.eq,AU,I.len]
end
section
variable {X:Cx}{elt iter tg:AE}{ifs:List AE}{scope:Scope}{N0 ys:List Str}{wi:TI}{g:TG}{tc:TT}{te:TE}{pos:Pos}
def b07(X:Cx)(pins:List (AB×Obj))(C:AB):Prop:=C≠X.env.locals/\X.s₀.heap.objs.size<=C/\(∀x c,X.env.cells.lookup x=some c->c≠C)/\∀p∈X.pn++pins,p.1≠C
theorem b0h{pos':Pos}{use:Option (AA->Sem Unit)}{QQ:AA->AC->Prop}(hx:∀e s,X.xe e s->False)(hc:X.calm=true)(S:Q9 X.N N0 ys X.env scope)(hi:PI X tg iter wi)
 (hg:∀C fp pins s H,PG (M7 X N0 scope ys C fp pins s H) tg g) (ht:∀C fp pins s H,PCs (M7 X N0 scope ys C fp pins s H) ifs tc) (he:∀C fp pins s H,PE (M7 X N0 scope ys C fp pins s H) elt te)
 (hs:∀x,foldedSetIterable iter X.env x=pure x) {pins:List (AB×Obj)} {s:AC} {σ:St} {H:Hp} {Q:VK} (I:i2 X pins σ H s) (h:b3f wi g tc te ys.length σ H Q)
 (fin:∀D C s' H' m,i2 X pins σ H' s'->s'.heap.Ns C m->H' C=none->b07 X pins C->Q (.ref D) H'->compPost (model X.prog X.w) X.A X.xe use QQ (.ref D) C (.ok .next) s'):
 AG (model X.prog X.w) X.A (comprehension (.ListComp elt [⟨tg,iter,ifs,0⟩] scope pos) scope X.env pos' (newList []) false (eval iter X.env) use) QQ X.xe s:=by
 have hcl:closureFor scope X.env=pure (L1 X.env.cells scope.names []):=a48 fun x hx' hk=>by
  obtain⟨c,e⟩:=U4 (ys:=ys) I S (x:=x.1) (by rw [<-hk];exact hx')
  rw [e];rfl
 refine wpAny_comprehension_free (use:=use) rfl hs hcl S.kind (fun x hx' hk=>v3 S.nd (by rw [<-hk];exact hx')) (B8 (hi pins s σ H _ I h) fun v s1 h1=>B8 h1 fun itv s2 h2=> ?_)
 obtain⟨it,fp,tn,J,H2,e,I2,T,st2,f2,hW⟩:=h2
 subst e
 have hfr:=I2.hok.fresh (AN _)
 obtain⟨W,⟨m0,w0⟩,turn⟩:=hW s2.heap.objs.size hfr
 have fpLt:∀b∈fp,b<s2.heap.objs.size:=fun b hb=>let ⟨_,e,_⟩:=T.obj _ _ st2 b hb;AY e
 refine wpAny_newObj_type ?_
 have I3:i2 X pins σ (upd H2 s2.heap.objs.size (.lst [])) {s2 with heap:=s2.heap.push {cls:= .type "list",data:= .seq ([]:List AA).toArray}}:=
  I2.laid (t':=s2.toks) (fun b o e=>Ae _ e) (AN _) ⟨by decide,[],0,.nil,Aw _ rfl⟩
 have up3:∀b o,s2.heap.get? b=some o->(s2.heap.push {cls:= .type "list",data:= .seq ([]:List AA).toArray}).get? b=some o:=fun b o e=>Ae _ e
 have st3:tn 0 (s2.heap.push {cls:= .type "list",data:= .seq ([]:List AA).toArray}):=T.keep _ _ _ st2 fun b _ o e=>up3 b o e
 have f3:∀b∈fp,a10 X pins (upd H2 s2.heap.objs.size (.lst [])) b:=fun b hb=>⟨by rw [g5 (An (fpLt b hb))];exact(f2 b hb).1,(f2 b hb).2⟩
 generalize hs3:({s2 with heap:=s2.heap.push {cls:= .type "list",data:= .seq ([]:List AA).toArray}}:AC)=s3 at I3
 have hs3h:s3.heap=s2.heap.push {cls:= .type "list",data:= .seq ([]:List AA).toArray}:=by rw [<-hs3]
 rw [<-hs3h] at st3 up3
 refine a0v ?_
 have I4:=a8E S I3 f3 (T.obj _ _ st3)
 generalize hs4:({s3 with heap:=pushCells (s3.heap.push {cls:= .type "dict",data:= .dict #[]}) scope.names}:AC)=s4 at I4 ⊢
 have hs4h:s4.heap=pushCells (s3.heap.push {cls:= .type "dict",data:= .dict #[]}) scope.names:=by rw [<-hs4]
 have st4:tn 0 s4.heap:=T.keep _ _ _ st3 fun b _ o e=>by rw [hs4h];exact pushCells_keeps _ _ b o (Ae _ e)
 generalize hX:M7 X N0 scope ys s3.heap.objs.size fp pins s3 (upd H2 s2.heap.objs.size (.lst []))=Y at I4
 have Yp:Y.prog=X.prog:=by rw [<-hX];rfl
 have Yw:Y.w=X.w:=by rw [<-hX];rfl
 have YK:Y.K=X.K:=by rw [<-hX];rfl
 have YA:Y.A=X.A:=by rw [<-hX];rfl
 have Yc:Y.calm=true:=by rw [<-hX];exact hc
 have Yx:Y.xe=X.xe:=by rw [<-hX];rfl
 have YL:Y.env.locals=s3.heap.objs.size:=by rw [<-hX];rfl
 have Yf:Y.fs=frs X.stack:=by rw [<-hX];rfl
 have Ye:Y.ex=fp:=by rw [<-hX];rfl
 have Yn:Y.pn=X.pn++pins:=by rw [<-hX];rfl
 have Ys:Y.s₀=s3:=by rw [<-hX];rfl
 have YH:Y.H₀=upd H2 s2.heap.objs.size (.lst []):=by rw [<-hX];rfl
 have YE:Y.env=D5 scope s3.heap.objs.size X.env:=by rw [<-hX];rfl
 have hgY:PG Y tg g:=by rw [<-hX];exact hg _ _ _ _ _
 have htY:PCs Y ifs tc:=by rw [<-hX];exact ht _ _ _ _ _
 have heY:PE Y elt te:=by rw [<-hX];exact he _ _ _ _ _
 have nlen:(σ++AV ys.length none).length=Y.N.length:=I4.len
 have exf:=I4.ok.exf
 have exfs:=I4.ok.exfs
 have stat:∀{H':Hp},(∀b∈fp,H' b=none)->∀b∈fp,a10 Y [] H' b:=fun {H'} hn b hb=>by
  have hb':b∈Y.ex:=by rw [Ye];exact hb
  refine⟨hn b hb,(exf b hb').1,exfs b hb',.inl hb',(exf b hb').2,fun p hp=> ?_⟩
  rw [Am,Yn] at hp
  exact(f2 b hb).2.2.2.2.2 p hp
 have TY:b0f Y.prog Y.w Y.K tg J fp it tn:=by rw [Yp,Yw,YK];exact T
 have noX:∀e s,Y.xe e s->False:=fun e s h=>hx e s (by rw [<-Yx];exact h)
 have loop:∀R:Result->AC->Prop,(∀s' H' m,i2 X pins σ H' s'->s'.heap.Ns s3.heap.objs.size m->H' s3.heap.objs.size=none->b07 X pins s3.heap.objs.size->Q (.ref s2.heap.objs.size) H'->R (.ok .next) s')->
  codeAny (model X.prog X.w) X.A (.compLoop (.ListComp elt [⟨tg,iter,ifs,0⟩] scope pos) 0 (.ref it) (.ref s2.heap.objs.size) (D5 scope s3.heap.objs.size X.env)) R s4:=by
  intro R hR
  refine a0s (fun n s'=>∃i xs H' σ',i2 Y [] σ' H' s'/\(∀(j:Nat) v,(σ++AV ys.length none)[j]?=some (some v)->σ'[j]?=some (some v))/\tn i s'.heap/\(∀b∈fp,H' b=none)/\H' s2.heap.objs.size=some (.lst xs)/\W i n xs H') ?_ m0
   ⟨0,[],_,_,I4,fun _ _ e=>e,st4,fun b hb=>(f3 b hb).1,i7,w0⟩
  rintro n s5 ⟨i,xs,H5,σ5,I5,k5,st5,fr5,hD5,w5⟩
  have I5:i2 Y [] (σ++AV ys.length none) H5 s5:=I5.weak (by rw [nlen,I5.len]) k5
  rw [<-Yp,<-Yw,<-YA]
  rcases turn i n xs H5 w5 hD5 with⟨stop,q⟩|⟨go,step⟩
  ·refine wpAny_mono (TY.done Y rfl rfl rfl Yc i [] s5 _ H5 (fun _ _=>False) I5 (stat fr5) st5 stop) (fun r s6 ⟨hr,I6⟩=> ?_) fun _ _ z=>z
   subst hr
   obtain⟨m,hn,_⟩:=I6.loc
   have un:=I6.base
   rw [Yf,Ye,Ys,YH] at un
   rw [YL] at hn
   have hfC:=I6.free
   rw [YL] at hfC
   refine hR s6 H5 m (I3.call' (ch:=fp) (by rw [I6.os,Ys]) un (by have z:=I6.hok;rw [Yp,Yw] at z;exact z) I6.bare fun b hb=>⟨(f3 b hb).2.2.2.1,(f3 b hb).2.1,(f3 b hb).2.2.2.2.1,(f3 b hb).2.2.2.2.2⟩) hn hfC ⟨Nat.ne_of_gt I3.lt,I3.sz,fun x c e=> ?_,fun p hp=> ?_⟩ q
   ·obtain⟨v,z⟩:=I3.cell x c e
    exact An z.lt
   ·exact An (AY (I3.pin p hp).1)
  ·refine wpAny_mono (TY.item Y rfl rfl rfl Yc i [] s5 _ H5 (fun _ _=>False) I5 (stat fr5) st5 go) (fun r s6 ⟨u,hr,h6⟩=> ?_) fun _ _ z=>z
   subst hr
   dsimp only
   refine wpAny_mono h6 (fun _ s7 ⟨x,H7,I7,r7,y7,st7,fr7⟩=> ?_) fun _ _ z=>z
   have I7':=I7.pinned (stat fr7) (T.obj _ _ st7)
   rw [<-YE]
   have keepT:∀{σ8:St} {H8:Hp} {s8:AC},i2 Y ([]++a4E fp s7.heap) σ8 H8 s8->tn (i+1) s8.heap/\∀b∈fp,H8 b=none:=fun {σ8 H8 s8} I8=>by
    refine⟨T.keep _ _ _ st7 fun b hb o e=>(I8.pin (b,o) (Av _ (Av _ (U7 hb e)))).1,fun b hb=> ?_⟩
    obtain⟨o,e,d⟩:=T.obj _ _ st7 b hb
    exact(I8.pin (b,o) (Av _ (Av _ (U7 hb e)))).2.1
   refine wpAny_mono (hgY _ s7 _ H7 x u _ I7' r7 (step x H7 y7)) (fun _ s8 ⟨σ8,H8,I8,k8,q8⟩=> ?_) fun e s z=>noX e s z
   refine wpAny_mono (htY _ s8 σ8 H8 _ I8 q8) (fun b s9 ⟨H9,I9,q9⟩=> ?_) fun e s z=>noX e s z
   cases b with
   |false=>
    rw [if_neg As] at q9 ⊢
    obtain⟨hD9,m',lt,w9⟩:=q9
    obtain⟨t9,n9⟩:=keepT I9
    exact⟨m',lt,i+1,xs,H9,σ8,I9.pins_of (fun p hp=>nomatch hp),k8,t9,n9,hD9,w9⟩
   |true=>
    rw [if_pos rfl] at q9 ⊢
    refine wpAny_mono (heY _ s9 σ8 H9 _ I9 q9) (fun y s10 ⟨v,H10,I10,r10,hD10,hz,m',lt,w10⟩=> ?_) fun e s z=>noX e s z
    refine wpAny_mono (a5K _ s10 σ8 H10 (.ref s2.heap.objs.size) [v] (.ref s2.heap.objs.size) [y] (fun _ H'=>H'=upd H10 s2.heap.objs.size (.lst (xs++[v]))) I10 rfl (.cons r10 .nil) ⟨_,xs,v,rfl,rfl,hD10,hz,rfl⟩) (fun _ s11 ⟨_,H11,I11,_,e11⟩=> ?_) fun e s z=>noX e s z
    subst e11
    obtain⟨t11,n11⟩:=keepT I11
    exact⟨m',lt,i+1,xs++[v],_,σ8,I11.pins_of (fun p hp=>nomatch hp),k8,t11,n11,i7,w10⟩
 show codeAny _ _ (.compStart _ 0 _ _ (D5 scope s3.heap.objs.size X.env)) _ _
 refine codeAny_compStart_list (loop _ fun s' H' m a b c d e=>fin _ _ s' H' m a b c d e) (T.self _ 0 _ _ _ st4 (loop _ fun s' H' m a b c d e=>fin _ _ s' H' m a b c d e))
end
section
variable {X:Cx}{elt iter tg:AE}{ifs:List AE}{scope:Scope}{N0 ys:List Str}{wi:TI}{g:TG}{tc:TT}{te:TE}{pos:Pos}
theorem b4G(hx:∀e s,X.xe e s->False)(hc:X.calm=true)(S:Q9 X.N N0 ys X.env scope)(hi:PI X tg iter wi)
 (hg:∀C fp pins s H,PG (M7 X N0 scope ys C fp pins s H) tg g) (ht:∀C fp pins s H,PCs (M7 X N0 scope ys C fp pins s H) ifs tc) (he:∀C fp pins s H,PE (M7 X N0 scope ys C fp pins s H) elt te)
 (hs:∀x,foldedSetIterable iter X.env x=pure x:=by intro _;rfl):PE X (.ListComp elt [⟨tg,iter,ifs,0⟩] scope pos) (b3f wi g tc te ys.length):=by
 intro pins s σ H Q I h
 rw [eval_ListComp]
 refine b0h hx hc S hi hg ht he hs I h fun D C s' H' m I' hn hC gone q=>⟨m,hn,fun h' hs'=>⟨.ref D,H', ?_,rfl,q⟩⟩
 obtain⟨g1,g2,g3,g4⟩:=gone
 exact I'.turned (t':=s'.toks) (fun b o hb e=>hs'.extBut b o hb e) hC g1 (.inr g2) g3 g4
end
end L2
namespace PU
open PySem PySem.Spec PyProof.Rows L2
def a0z(c:MT)(elt:M)(tg:PV->a8->Option a8)(ρ:a8):List PV->Option (List PV)
 |[]=>some []
 |p::ps=>(tg p ρ).bind fun ρ1=>(c ρ1).bind fun b=>if b=true then((elt ρ1).bind d7.toVal).bind fun q=>(a0z c elt tg ρ ps).bind fun r=>some (q::r) else a0z c elt tg ρ ps
def a4l:MT:=fun _=>some true
def a0I(k:Nat)(it:MI)(tg:PV->a8->Option a8)(c:MT)(elt:M):M:=fun ρ=>(it ρ).bind fun ps=>if ps.length<=AK then(a0z c elt tg (ρ++AV k none) ps).bind fun r=>some (.own r) else none
def a7d(K:AD)(n:Nat)(g:TG)(tg:PV->a8->Option a8):Prop:=
 ∀F H σ ρ ρ1 p x (Q:L2.St->Hp->Prop),x6 K F H σ ρ->v6 K F p x->tg p ρ=some ρ1->(∀σ',x6 K F H σ' ρ1->(∀(j:Nat),j<n->σ'[j]?=σ[j]?)->Q σ' H)->g x σ H Q
theorem x6.set{K:AD}{F H:Hp}{σ:L2.St}{ρ:a8}{p:PV}{x:V}(e:x6 K F H σ ρ)(r:v6 K F p x)(i:Nat):x6 K F H (σ.set i (some x)) (ρ.set i (some (.val p))):=by
 refine⟨e.fh,by simp [e.len],fun j q h=> ?_,fun j ps h=> ?_,fun j k ps qs a hjk h1 h2 h3 h4=> ?_⟩
 ·rw [List.getElem?_set] at h ⊢
  by_cases hij:i=j
  ·subst hij
   rw [if_pos rfl] at h ⊢
   rw [e.len]
   split at h
   ·rename_i c;cases h;rw [if_pos c];exact⟨x,rfl,r⟩
   ·cases h
  ·rw [if_neg hij] at h ⊢;exact e.at_ j q h
 ·rw [List.getElem?_set] at h
  by_cases hij:i=j
  ·subst hij
   rw [if_pos rfl] at h
   split at h<;>cases h
  ·rw [if_neg hij] at h;exact e.nb j ps h
 ·have get:∀(j:Nat) (ps:M4),(ρ.set i (some (d7.val p)))[j]?=some (some (d7.ow ps))->i≠j/\ρ[j]?=some (some (d7.ow ps)):=fun j ps h=>by
   rw [List.getElem?_set] at h
   by_cases hij:i=j
   ·subst hij
    rw [if_pos rfl] at h
    split at h<;>cases h
   ·rw [if_neg hij] at h;exact⟨hij,h⟩
  obtain⟨n1,h1⟩:=get j ps h1
  obtain⟨n2,h2⟩:=get k qs h2
  rw [List.getElem?_set_ne n1] at h3
  rw [List.getElem?_set_ne n2] at h4
  exact e.ap j k ps qs a hjk h1 h2 h3 h4
theorem a4Z{K:AD}{n i:Nat}(h:n<=i):a7d K n (a7E i) (f7 i):=fun F H σ ρ ρ1 p x Q e r q k=>by
 cases q
 exact k _ (e.set r i) fun j hj=>by rw [List.getElem?_set_ne (by lia)]
theorem x6.setAll{K:AD}{F H:Hp}{n:Nat}:∀{is:List Nat} {xs:List V} {ps:List PV} {σ:L2.St} {ρ:a8},(∀i∈is,n<=i)->x6 K F H σ ρ->g9 K F ps xs->x6 K F H (PU.setAll σ is xs) (PU.setAll ρ is (ps.map .val))/\∀(j:Nat),j<n->(PU.setAll σ is xs)[j]?=σ[j]?
 |[],xs,ps,σ,ρ,_,s,r=>by
  have e1:PU.setAll σ [] xs=σ:=by cases xs<;>rfl
  have e2:PU.setAll ρ [] (ps.map d7.val)=ρ:=by cases ps<;>rfl
  rw [e1,e2];exact⟨s,fun _ _=>rfl⟩
 |i::is,xs,[],σ,ρ,_,s,r=>by cases r;exact⟨s,fun _ _=>rfl⟩
 |i::is,xs,p::ps,σ,ρ,h,s,⟨v,t,e,rp,rl⟩=>by
  subst e
  obtain⟨h1,h2⟩:=x6.setAll (is:=is) (n:=n) (fun j hj=>h j (Ai _ hj)) (s.set rp i) rl
  refine⟨h1,fun j hj=> ?_⟩
  have hi:=h i Al
  show(PU.setAll (σ.set i (some v)) is t)[j]?=_
  rw [h2 j hj,List.getElem?_set_ne (by lia)]
theorem x6.more{K:AD}{F H:Hp}{σ:L2.St}{ρ:a8}(e:x6 K F H σ ρ)(k:Nat):x6 K F H (σ++AV k none) (ρ++AV k none):=by
 have key:∀(j:Nat) (q:d7),(ρ++AV k none)[j]?=some (some q)->ρ[j]?=some (some q)/\(σ++AV k none)[j]?=σ[j]?:=fun j q h=>by
  by_cases hj:j<ρ.length
  ·rw [BB hj] at h
   rw [BB (by rw [e.len];exact hj)]
   exact⟨h,rfl⟩
  ·rw [List.getElem?_append_right (by lia),List.getElem?_replicate] at h
   split at h<;>cases h
 refine⟨e.fh,by simp [e.len],fun j q h=> ?_,fun j ps h=>e.nb j ps (key j _ h).1,fun j k' ps qs a hjk h1 h2 h3 h4=> ?_⟩
 ·obtain⟨h1,h2⟩:=key j q h
  rw [h2];exact e.at_ j q h1
 ·obtain⟨a1,b1⟩:=key j _ h1
  obtain⟨a2,b2⟩:=key k' _ h2
  rw [b1] at h3
  rw [b2] at h4
  exact e.ap j k' ps qs a hjk a1 a2 h3 h4
def WC(K:AD)(F H:Hp)(D:AB)(c:MT)(elt:M)(tg:PV->a8->Option a8)(ρ:a8)(ps r:List PV)(i m:Nat)(xs:List V)(H':Hp):Prop:=
 ∃F' done B2,i<=ps.length/\m=ps.length - i/\K0 F H F' H'/\F' D=none/\g9 K F' done xs/\done.length<=i/\a0z c elt tg ρ (ps.drop i)=some B2/\done++B2=r
theorem b0j{K:AD}{F H:Hp}{D:AB}{c:MT}{elt:M}{tg:PV->a8->Option a8}{g:TG}{σ:L2.St}{ρ:a8}{k:Nat}{ps r:List PV}{i m:Nat}{xs:List V}{H':Hp}{p:PV}{x:V}
 (T:a7d K ρ.length g tg) (en:x6 K F H σ ρ) (hD:H D=none) (hsz:ps.length<=AK) (W:WC K F H D c elt tg (ρ++AV k none) ps r i m xs H') (hx:H' D=some (.lst xs)) (ep:ps[i]?=some p) (rx:v6 K F p x):
 g x (σ++AV k none) H' fun σ4 H4=>(∀(j:Nat) v,(σ++AV k none)[j]?=some (some v)->σ4[j]?=some (some v))/\tMT K c σ4 H4 fun b H5=>if b=true then tM K elt σ4 H5 fun v H6=>H6 D=some (.lst xs)/\xs.length<AK/\∃m',m'<m/\WC K F H D c elt tg (ρ++AV k none) ps r (i+1) m' (xs++[v]) (upd H6 D (.lst (xs++[v])))
  else H5 D=some (.lst xs)/\∃m',m'<m/\WC K F H D c elt tg (ρ++AV k none) ps r (i+1) m' xs H5:=by
 obtain⟨F',done,B2,hi,hm,ex,fD,rl,dl,hc,hr⟩:=W
 have hk:i<ps.length:=(Ar.mp ep).1
 have hd:ps.drop i=p::ps.drop (i+1):=by
  rw [List.drop_eq_getElem_cons hk]
  congr 1
  exact(Ar.mp ep).2
 rw [hd] at hc
 unfold a0z at hc
 obtain⟨ρ1,e1,hc⟩:=bind_some hc
 obtain⟨b,e2,hc⟩:=bind_some hc
 have en':=(en.ext ex).more k
 refine T F' H' _ _ ρ1 p x _ en' (v6.mono ex.f _ rx) e1 fun σ4 en4 keep=>⟨fun j v e=> ?_, ?_⟩
 ·by_cases hj:j<ρ.length
  ·rw [keep j hj];exact e
  ·rw [List.getElem?_append_right (by rw [en.len];lia),List.getElem?_replicate] at e
   split at e<;>cases e
 refine⟨F',ρ1,b,en4,e2,fun F5 H5 x5=> ?_⟩
 have ex5:=ex.trans x5
 have fD5:F5 D=none:=x5.nw D _ fD hx (fun _ h=>nomatch h)
 cases b with
 |false=>
  rw [if_neg As] at hc
  refine b17 ⟨x5.h _ _ hx,ps.length - (i+1),by lia,F5,done,B2,by lia,rfl,ex5,fD5,g9.mono x5.f _ rl,by lia,hc,hr⟩
 |true=>
  rw [if_pos rfl] at hc
  obtain⟨q,e3,hc⟩:=bind_some hc
  obtain⟨rt,e4,hc⟩:=bind_some hc
  cases hc
  obtain⟨re,e5,e6⟩:=bind_some e3
  refine b18 ⟨F5,ρ1,re,en4.ext x5,e5,fun v F6 H6 o6=> ?_⟩
  obtain⟨F7,o7⟩:=o6.toVal e6
  have hx6:H6 D=some (.lst xs):=o6.x.h _ _ (x5.h _ _ hx)
  have fD7:F7 D=none:=o7.x.nw D _ fD5 (x5.h _ _ hx) (fun _ h=>nomatch h)
  have ex7:=ex5.trans o7.x
  have hlen:=rl.length
  refine⟨hx6,by lia,ps.length - (i+1),by lia,F7,done++[q],rt,by lia,rfl,⟨ex7.f,fun a o z=> ?_,fun a o z=> ?_,ex7.nw,ex7.nf⟩,fD7,g9.append (g9.mono (x5.f.trans o7.x.f) _ rl) ⟨v,[],rfl,o7.rep,rfl⟩,by simp;lia,e4,by rw [List.append_assoc];exact hr⟩
  ·rw [g5 (g6 z hD)];exact ex7.h _ _ z
  ·rw [g5 (g6 z fD7)];exact ex7.fh _ _ z
theorem b1l{K:AD}{F H:Hp}{D:AB}{c:MT}{elt:M}{tg:PV->a8->Option a8}{ρ:a8}{ps r:List PV}{m:Nat}{xs:List V}{H':Hp}(hD:H D=none)(W:WC K F H D c elt tg ρ ps r ps.length m xs H')(hx:H' D=some (.lst xs)):∃F',p8 K F H F' H' (.ref D) (.own r):=by
 obtain⟨F',done,B2,hi,hm,ex,fD,rl,dl,hc,hr⟩:=W
 rw [List.drop_length] at hc
 cases hc
 rw [Am] at hr
 subst hr
 exact⟨F',ex,⟨D,xs,rfl,fD,hx,rl⟩,fun _ _ _ e=>by cases e;exact hD⟩
structure Src(K:AD)(F0 F H:Hp)(J:It)(ps:List PV):Prop where
 st:∀i H',j5 H H'->ps.length<=i->J.stop i H'
 go:∀i p H',j5 H H'->ps[i]?=some p->J.go i H'
 yd:∀i p x H' H'',j5 H H'->ps[i]?=some p->J.yld i H' x H''->H''=H'/\v6 K F p x
def SI(K:AD)(mi:MI)(wi:TI):Prop:=∀F H σ ρ ps (R:It->Hp->Prop),x6 K F H σ ρ->mi ρ=some ps->(∀F1 H1 J,K0 F H F1 H1->Src K F F1 H1 J ps->R J H1)->wi σ H R
abbrev EI(X:Cx)(tg iter:AE)(mi:MI):Prop:=∃wi,PI X tg iter wi/\SI X.K mi wi
section
variable {X:Cx}{tg:AE}
def P5(m:M):MI:=fun ρ=>(m ρ).bind fun r=>PyData.items? r.rd
theorem b1A{l:AE}{m:M}(h:EE X l m):EI X tg l (P5 m):=⟨_,b2O h,fun F H σ ρ ps R en e k=>by
 obtain⟨r,e1,e2⟩:=bind_some e
 refine⟨F,ρ,r,en,e1,fun v F1 H1 o1=> ?_⟩
 obtain⟨a,xs,rfl,hq,rl⟩:=B6 o1.x.fh o1.rep e2
 have hlen:=rl.length
 rcases hq with hq|hq
 ·refine⟨a,rfl,.inl ⟨⟨xs,hq⟩,k F1 H1 _ o1.x ⟨fun i H2 s h=>⟨xs,u4 s hq,by lia⟩,fun i p H2 s h=> ?_,fun i p x H2 H3 s h y=> ?_⟩⟩⟩
  ·obtain⟨v,ev,_⟩:=rl.get h
   exact⟨xs,v,u4 s hq,ev⟩
  ·obtain⟨v,ev,rv⟩:=rl.get h
   obtain⟨e,y⟩:=y
   have:=y xs (u4 s hq)
   rw [ev] at this;cases this
   exact⟨e,rv⟩
 ·refine⟨a,rfl,.inr ⟨⟨xs,hq⟩,k F1 H1 _ o1.x ⟨fun i H2 s h=>⟨xs,o5 s hq,by lia⟩,fun i p H2 s h=> ?_,fun i p x H2 H3 s h y=> ?_⟩⟩⟩
  ·obtain⟨v,ev,_⟩:=rl.get h
   exact⟨xs,v,o5 s hq,ev⟩
  ·obtain⟨v,ev,rv⟩:=rl.get h
   obtain⟨e,y⟩:=y
   have:=y xs (o5 s hq)
   rw [ev] at this;cases this
   exact⟨e,rv⟩⟩
abbrev EC(X:Cx)(ifs:List AE)(c:MT):Prop:=PCs X ifs (tMT X.K c)
theorem b5W:EC X [] a4l:=fun pins s σ H Q I ⟨F,ρ,b,en,e,k⟩=>by
 cases e
 exact b4D pins s σ H Q I (k F H (K0.refl en.fh))
theorem b5X{c:AE}{mc:MT}(h:ET X c mc):EC X [c] mc:=b4E h
theorem b0i{mi:MI}{wi:TI}{g:TG}{c:MT}{elt:M}{t:PV->a8->Option a8}{N:List Str}{k:Nat}(hi:SI X.K mi wi)(T:∀n,n=N.length->a7d X.K n g t){σ:L2.St}{H:Hp}{Q:VK}(hl:σ.length=N.length)(h:tM X.K (a0I k mi t c elt) σ H Q):b3f wi g (tMT X.K c) (tM X.K elt) k σ H Q:=by
 obtain⟨F,ρ,r,en,e,kk⟩:=h
 obtain⟨ps,e1,e⟩:=bind_some e
 split at e
 ·rename_i hsz
  obtain⟨rs,e2,e⟩:=bind_some e
  cases e
  refine hi F H σ ρ ps _ en e1 fun F1 H1 J x1 S D hD=> ?_
  have en1:=en.ext x1
  have T':a7d X.K ρ.length g t:=T _ (by rw [<-en.len,hl])
  refine⟨WC X.K F1 H1 D c elt t (ρ++AV k none) ps rs,⟨ps.length,F1,[],rs,Nat.zero_le _,rfl,K0.layH x1.fh hD,x1.fh.free hD,rfl,AN _,e2,rfl⟩,fun i m xs H2 W hx=> ?_⟩
  have W':=W
  obtain⟨F',done,B2,hi',hm,ex,fD,rl,dl,hc,hr⟩:=W'
  have sF:j5 H1 H2:=ex.h
  by_cases hlt:i<ps.length
  ·refine .inr ⟨S.go i ps[i] H2 sF (by simp [hlt]),fun x H3 y=> ?_⟩
   obtain⟨e3,rx⟩:=S.yd i ps[i] x H2 H3 sF (by simp [hlt]) y
   subst e3
   exact b0j T' en1 hD hsz W hx (by simp [hlt]) rx
  ·have e3:i=ps.length:=by lia
   subst e3
   refine .inl ⟨S.st _ H2 sF (AN _), ?_⟩
   obtain⟨F2,o⟩:=b1l hD W hx
   exact kk _ F2 H2 (p8.trans x1 o)
 ·cases e
theorem a9z{elt iter:AE}{ifs:List AE}{scope:Scope}{N0 ys:List Str}{mi:MI}{g:TG}{c:MT}{m:M}{t:PV->a8->Option a8}{pos:Pos}(hx:∀e s,X.xe e s->False)(hc:X.calm=true)(S:Q9 X.N N0 ys X.env scope)(hi:EI X tg iter mi)
 (hg:∀C fp pins s H,PG (M7 X N0 scope ys C fp pins s H) tg g) (T:∀n,n=X.N.length->a7d X.K n g t) (ht:∀C fp pins s H,EC (M7 X N0 scope ys C fp pins s H) ifs c) (he:∀C fp pins s H,EE (M7 X N0 scope ys C fp pins s H) elt m)
 (hs:∀x,foldedSetIterable iter X.env x=pure x:=by intro _;rfl):EE X (.ListComp elt [⟨tg,iter,ifs,0⟩] scope pos) (a0I ys.length mi t c m):=by
 obtain⟨wi,h1,h2⟩:=hi
 intro pins s σ H Q I h
 exact b4G hx hc S h1 hg ht he hs pins s σ H Q I (b0i (N:=X.N) h2 T I.len h)
end
def a2A:List PV->Option (List Str)
 |[]=>some []
 | .str x::r=>(a2A r).map (x::·)
 |_=>none
theorem a4Y{K:AD}{H:Hp}:∀{ps:List PV} {ys:List Str} {xs:List V} {us:List AA},a2A ps=some ys->g9 K H ps xs->i4 xs us->StrsAre us ys
 |[],_,_,_,h,r,v=>by cases h;cases r;cases v;exact .nil
 |p::ps,ys,_,_,h,⟨x,r,e,hp,t⟩,v=>by
  subst e
  cases p with
  |str z=>
   simp only [a2A] at h
   cases q:a2A ps with
   |none=>rw [q] at h;cases h
   |some zs=>
    rw [q] at h;cases h
    cases hp
    cases v with
    |cons a b=>
     obtain⟨tk,rfl⟩:=a
     exact .cons z tk (a4Y q t b)
  |_=>simp [a2A] at h
section
variable {X:Cx}
end
def cut{α:Type}(xs:List α)(lo hi:Option Int):List α:=(xs.drop (HT.sIx xs.length 0 lo)).take (HT.sIx xs.length xs.length hi - HT.sIx xs.length 0 lo)
theorem a1q(n d:Nat)(hd:d<=n)(o:Option Int):(match o with|none=>(d:Int)|some i=>max 0 (min (if i<0 then i+n else i) n))=((HT.sIx n d o:Nat):Int):=by
 cases o with
 |none=>rfl
 |some i=>unfold HT.sIx;dsimp only;split<;>lia
theorem b3F(n:Nat)(lo hi:Option Int):Builtin.Str.strSliceIndices lo hi 1 n=(AW (HT.sIx n n hi - HT.sIx n 0 lo)).map (HT.sIx n 0 lo+·):=by
 have h1:=a1q n 0 (Nat.zero_le _) lo
 have h2:=a1q n n (AN _) hi
 have key:∀a b:Int,a=((HT.sIx n 0 lo:Nat):Int)->b=((HT.sIx n n hi:Nat):Int)->sliceRange a b 1=(AW (HT.sIx n n hi - HT.sIx n 0 lo)).map (HT.sIx n 0 lo+·):=fun a b ha hb=>by rw [ha,hb,sliceRange_one]
 refine key _ _ ?_ ?_
 ·cases lo with
  |none=>rfl
  |some i=>exact h1
 ·cases hi with
  |none=>rfl
  |some i=>exact h2
theorem b42(z:Str)(lo hi:Option Int):Txt.slice z lo hi=⟨(cut z.cps.toList lo hi).toArray⟩:=by
 have hz:z.cps.toList.length=z.length:=by simp [Str.length]
 unfold Txt.slice
 rw [b3F,pick_run z.cps]
 split
 ·rename_i c
  have c':HT.sIx z.length z.length hi - HT.sIx z.length 0 lo=z.length:=by
   simpa using c
  have hle:=HT.sIx_le z.length z.length (AN _) hi
  unfold cut
  rw [hz,c']
  have:HT.sIx z.length 0 lo=0\/z.length=0:=by lia
  cases z with
  |mk a=>
   congr 1
   rcases this with h|h
   ·rw [h,List.drop_zero]
    have:a.toList.length=(⟨a⟩:Str).length:=hz
    rw [<-this,List.take_length]
   ·have h0:a.toList=[]:=List.length_eq_zero_iff.mp (by rw [<-h];exact hz)
    have:a= #[]:=by
     apply Array.ext'
     rw [h0]
    subst this
    simp
 ·unfold cut
  rw [hz]
theorem a0O(items:Array AA)(lo hi:Option Int):slicePick items lo hi none=(cut items.toList lo hi).toArray:=by
 have hz:items.toList.length=items.size:=by simp
 unfold slicePick cut
 rw [hz]
 have key:∀a b:Int,a=((HT.sIx items.size 0 lo:Nat):Int)->b=((HT.sIx items.size items.size hi:Nat):Int)->(List.filterMap (items[·]?) (sliceRange a b 1)).toArray=((items.toList.drop (HT.sIx items.size 0 lo)).take (HT.sIx items.size items.size hi - HT.sIx items.size 0 lo)).toArray:=fun a b ha hb=>by rw [ha,hb,sliceRange_one,pick_run]
 refine key _ _ ?_ ?_
 ·cases lo with
  |none=>rfl
  |some i=>exact a1q items.size 0 (Nat.zero_le _) (some i)
 ·cases hi with
  |none=>rfl
  |some i=>exact a1q items.size items.size (AN _) (some i)
theorem g9.cut{K:AD}{H:Hp}{ps:List PV}{xs:List V}(r:g9 K H ps xs)(lo hi:Option Int):g9 K H (PU.cut ps lo hi) (PU.cut xs lo hi):=by
 unfold PU.cut
 rw [r.length]
 exact(r.drop _).take _
theorem b3G{α:Type}(xs:List α)(lo hi:Option Int):(cut xs lo hi).length<=xs.length:=by
 unfold cut
 rw [List.length_take,List.length_drop];lia
theorem a0u{prog:AL}{w:AJ}{A:AO}{E:AA->AC->Prop}{s:AC}{t sl:AB}{items:Array AA}{vl vu:AA}{lo hi:Option Int}{Q:AA->AC->Prop}(ht:IsTup s.heap t items)(hs:s.heap.IsSliceOf sl vl vu .none)(pl:IsPart vl lo)(pu:IsPart vu hi)
 (hw:HT.sIx items.size 0 lo=0/\HT.sIx items.size items.size hi=items.size)
 (h:Q (.ref t) s):AG (model prog w) A (getItem (.ref t) (.ref sl)) Q E s:=by
 obtain⟨os,hos,hcs,hds⟩:=id hs
 have hTs:s.TypeIs (.ref sl) "slice":=⟨os,hos,hcs⟩
 unfold getItem
 try with_reducible refine wpAny_holding ?_
 first|refine AF (AQ ?_)|skip
 refine AF (wpAny_sequenceKey ht.typeIs (by decide) ?_)
 refine AF (wpAny_callSpecial?_slot (name:=AI "__getitem__") ht.typeIs PyProof.Rows.slot_tuple_getitem
  (wpAny_call_entry PyProof.Rows.slot_tuple_getitem ht.typeIs entry_tuple_getitem ?_ (args_tuple_getitem _ _)))
 show AG _ _ (Builtin.Tuple.tupleItemsOf (.ref t)>>=_) _ _ s
 refine AF (tupleItemsOf_ ht ?_)
 refine AF (wpAny_typeOf hTs ?_)
 rw [if_pos (by decide)]
 refine AF (HT.sliceApplied_gen hs pl pu ?_)
 have hno:(((HT.sIx items.size 0 lo:Nat):Int)==0 &&(1:Int)==1 &&(HT.sIx items.size items.size hi - HT.sIx items.size 0 lo)==items.size)=true:=by
  rw [hw.1,hw.2];simp
 show AG _ _ (if(((HT.sIx items.size 0 lo:Nat):Int)==0 &&(1:Int)==1 &&(HT.sIx items.size items.size hi - HT.sIx items.size 0 lo)==items.size)=true then _ else _) _ _ s
 rw [if_pos hno]
 refine AF (AF (m:=typeOf (.ref t)) (wpAny_typeOf ht.typeIs (AQ ?_)))
 rw [if_pos (by decide)]
 wp_walk
 exact⟨_,rfl,AQ h⟩
theorem b41{X:Cx}:SlR X (fun x lo hi H Q=>∃a xs,x= .ref a/\V5 X.K H a xs/\(HT.sIx xs.length 0 lo=0/\HT.sIx xs.length xs.length hi=xs.length)/\Q (.ref a) H):=by
 intro pins s σ H x v vl vu lo hi sl Q I rx hs pl pu h
 obtain⟨a,xs,rfl,hx,hw,q⟩:=h
 cases rx
 obtain⟨its,r,ht,hz⟩:=I.tuple hx
 have hlen:its.toArray.size=xs.length:=by rw [Ab];exact r.length.symm
 refine⟨"tuple",_,PyProof.Rows.slot_tuple_getitem.lookup,ht.typeIs, ?_⟩
 exact a0u ht hs pl pu (by rw [hlen];exact hw) ⟨.ref a,H,I,rfl,q⟩
theorem b0k{α:Type}{xs:List α}{lo hi:Option Int}(h:HT.sIx xs.length 0 lo=0/\HT.sIx xs.length xs.length hi=xs.length):cut xs lo hi=xs:=by
 unfold cut
 rw [h.1,h.2,List.drop_zero,Nat.sub_zero,List.take_length]
section
variable {X:Cx}
theorem a8N{h:Heap}{sl:AB}{vl vu:AA}{lo hi:Option Int}(hs:h.IsSliceOf sl vl vu .none)(pl:IsPart vl lo)(pu:IsPart vu hi):∃l u:Option (Int×Tok),h.IsSlice sl l u none/\l.map (·.1)=lo/\u.map (·.1)=hi:=by
 obtain⟨o,ho,hc,hd⟩:=hs
 cases pl with
 |none=>
  cases pu with
  |none=>exact⟨none,none,⟨o,ho,hc,hd⟩,rfl,rfl⟩
  |int j t=>exact⟨none,some (j,t),⟨o,ho,hc,hd⟩,rfl,rfl⟩
 |int i t=>
  cases pu with
  |none=>exact⟨some (i,t),none,⟨o,ho,hc,hd⟩,rfl,rfl⟩
  |int j t'=>exact⟨some (i,t),some (j,t'),⟨o,ho,hc,hd⟩,rfl,rfl⟩
theorem b6X:SlR X (fun x lo hi H Q=>∃z,x= .str z/\z.length<=AK/\Q (.str (Txt.slice z lo hi)) H):=by
 intro pins s σ H x v vl vu lo hi sl Q I rx hs pl pu h
 obtain⟨z,rfl,hz,q⟩:=h
 obtain⟨t,rfl⟩:=rx
 obtain⟨l,u,hs',e1,e2⟩:=a8N hs pl pu
 subst e1 e2
 exact⟨"str",_,PySem.F.slot_str_getitem.lookup,typeIs_str _ _ _,wpAny_getItem_str_slice hs' rfl (post_val_or_str ⟨Nat.le_trans (Txt.slice_le z _ _) hz,fun t' k=>⟨.str _,H,I.tok _,⟨_,rfl⟩,q⟩⟩)⟩
theorem b6W:SlR X (fun x lo hi H Q=>∃a xs,x= .ref a/\M2 X.K H a xs/\∀p,H p=none->Q (.ref p) (upd H p (.lst (PU.cut xs lo hi)))):=by
 intro pins s σ H x v vl vu lo hi sl Q I rx hs pl pu h
 obtain⟨a,xs,rfl,hx,q⟩:=h
 cases rx
 obtain⟨its,r,pl',hz⟩:=I.list hx
 have hlen:=r.length
 refine⟨"list",_,list_getitem_lookup,pl'.isList.typeIs, ?_⟩
 refine wpAny_getItem_list_slice pl'.isList hs pl pu .none (by simp) ?_ (by rw [Ab];lia)
 rw [a0O]
 refine⟨.ref s.heap.objs.size,_,I.laid (t':=s.toks) (o:= .lst (PU.cut xs lo hi)) (fun b ob q=>Ae _ q) (AN _) ?_,rfl,q _ (I.hok.fresh (AN _))⟩
 refine⟨Nat.le_trans (b3G xs lo hi) hz,PU.cut its lo hi,0, ?_,Aw _ rfl⟩
 unfold PU.cut
 rw [hlen]
 exact(r.drop _).take _
def gSl(x:d7)(lo hi:Option Int):Option d7:=match x with
 | .val (.str z)=>if z.length<=AK then some (.val (.str ⟨(cut z.cps.toList lo hi).toArray⟩)) else none
 | .val (.tuple ps)=>some (.val (.tuple (cut ps lo hi)))
 | .val (.list ps)=>some (.own (cut ps lo hi))
 | .ow (.lst ps)=>some (.own (cut ps lo hi))
 | .bo (.lst ps)=>some (.own (cut ps lo hi))
 |_=>none
def rSl(K:AD):V->Option Int->Option Int->Hp->VK->Prop:=fun x lo hi H Q=>∃F rx rz,j5 F H/\P9 K F H x rx/\gSl rx lo hi=some rz/\∀v F' H',p8 K F H F' H' v rz->Q v H'
theorem slm:SlR X (rSl X.K):=by
 intro pins s σ H x v vl vu lo hi sl Q I rx hs pl pu h
 obtain⟨F,ra,rz,s0,h1,h2,k⟩:=h
 have lst:∀ps,PyData.items? ra.rd=some ps->(∃a xs,x= .ref a/\M2 X.K H a xs/\g9 X.K F ps xs)->rz= .own (cut ps lo hi)->∃T id,typeLookup (.type T) "__getitem__"=pure (some (.builtin id))/\s.TypeIs v T/\AG (model X.prog X.w) X.A (getItem v (.ref sl)) (EP X pins σ Q) X.xe s:=fun ps e ⟨a,xs,e1,hq,rl⟩ e2=>by
  subst e2
  exact b6W pins s σ H x v vl vu lo hi sl Q I rx hs pl pu ⟨a,xs,e1,hq,fun p hp=>k _ _ _ (p8.lst s0 hp (rl.cut lo hi))⟩
 unfold gSl at h2
 split at h2
 ·rename_i z
  split at h2
  ·rename_i c
   cases h2
   cases h1
   refine b6X pins s σ H _ v vl vu lo hi sl Q I rx hs pl pu ⟨z,rfl,c, ?_⟩
   rw [b42]
   exact k _ F H (p8.here s0 rfl)
  ·cases h2
 ·rename_i ps
  cases h2
  by_cases c:HT.sIx ps.length 0 lo=0/\HT.sIx ps.length ps.length hi=ps.length
  ·obtain⟨a,xs,rfl,hq,rl⟩:=h1
   have hlen:=rl.length
   refine b41 pins s σ H _ v vl vu lo hi sl Q I rx hs pl pu ⟨a,xs,rfl,o5 s0 hq.sq,by rw [hlen];exact c, ?_⟩
   rw [b0k c] at k
   exact k _ F H (p8.here s0 ⟨a,xs,rfl,hq,rl⟩)
  ·obtain⟨a,xs,rfl,hq,rl⟩:=h1
   have hlen:=rl.length
   refine b6Y pins s σ H _ v vl vu lo hi sl Q I rx hs pl pu ⟨a,xs,rfl,o5 s0 hq.sq,by rw [hlen];exact c,fun p hp=> ?_⟩
   exact k _ _ _ (p8.tup s0 hp (rl.cut lo hi))
 ·rename_i ps
  cases h2
  obtain⟨a,xs,e1,hq,rl⟩:=h1
  exact lst ps rfl ⟨a,xs,e1,u4 s0 hq,rl⟩ rfl
 ·rename_i ps
  cases h2
  obtain⟨a,xs,e1,_,hq,rl⟩:=h1
  exact lst ps rfl ⟨a,xs,e1,M2.of hq,rl⟩ rfl
 ·rename_i ps
  cases h2
  obtain⟨a,xs,e1,_,hq,rl⟩:=h1
  exact lst ps rfl ⟨a,xs,e1,M2.of hq,rl⟩ rfl
 ·cases h2
abbrev MO:=a8->Option (Option Int)
def tMO(K:AD)(m:MO):TO:=fun σ H Q=>∃F ρ o,x6 K F H σ ρ/\m ρ=some o/\∀F' H',K0 F H F' H'->Q o H'
abbrev EO(X:Cx)(e:Option AE)(m:MO):Prop:=PO X e (tMO X.K m)
def a8Y:MO:=fun _=>some none
def a9H:d7->Option (Option Int)
 | .val (.int i)=>some (some i)
 |_=>none
def a8Z(m:M):MO:=fun ρ=>(m ρ).bind a9H
theorem b3P:EO X none a8Y:=fun pins s σ H Q I ⟨F,ρ,o,en,e,k⟩=>by
 cases e
 exact b4M pins s σ H Q I (k F H (K0.refl en.fh))
theorem b3Q{e:AE}{m:M}(h:EE X e m):EO X (some e) (a8Z m):=fun pins s σ H Q I ⟨F,ρ,o,en,e1,k⟩=>by
 obtain⟨r,e2,e3⟩:=bind_some e1
 refine b4N h pins s σ H Q I ⟨F,ρ,r,en,e2,fun v F1 H1 o1=> ?_⟩
 unfold a9H at e3
 split at e3
 ·cases e3
  exact⟨_,o1.rep,k F1 H1 o1.x⟩
 ·cases e3
def a8W(m:M)(lo hi:MO):M:=fun ρ=>(m ρ).bind fun r=>(lo ρ).bind fun l=>(hi ρ).bind fun h=>gSl r l h
theorem b1y{e:AE}{lo hi:Option AE}{m:M}{ml mh:MO}{pos p2:Pos}(he:EE X e m)(hl:EO X lo ml)(hh:EO X hi mh):EE X (.Subscript e (.Slice lo hi none p2) pos) (a8W m ml mh):=
 u8 (b2K slm he hl hh) fun σ H Q ⟨F,ρ,r,en,e,k⟩=>by
  obtain⟨ra,e1,e⟩:=bind_some e
  obtain⟨l,e2,e⟩:=bind_some e
  obtain⟨h,e3,e⟩:=bind_some e
  exact⟨F,ρ,ra,en,e1,fun v F1 H1 o1=>⟨F1,ρ,l,en.ext o1.x,e2,fun F2 H2 x2=>⟨F2,ρ,h,(en.ext o1.x).ext x2,e3,fun F3 H3 x3=>⟨F3,ra,r,x3.fh,(o1.rep.ext x2).ext x3,e,fun z F4 H4 o4=>k z F4 H4 (p8.trans ((o1.x.trans x2).trans x3) o4)⟩⟩⟩⟩
end
def Its(x:Str):It:=⟨fun i _=>i<x.cps.size,fun i H v H'=>H'=H/\∃c,x.cps[i]?=some c/\v= .str ⟨#[c]⟩,fun i _=>x.cps.size<=i⟩
section
variable {X:Cx}{tg:AE}
structure b0e(K:AD)(F:Hp)(J:It)(ps:List PV):Prop where
 st:∀i H',j5 F H'->ps.length<=i->J.stop i H'
 go:∀i p H',j5 F H'->ps[i]?=some p->J.go i H'
 yd:∀i p x H' H'',j5 F H'->ps[i]?=some p->J.yld i H' x H''->H''=H'/\v6 K F p x
def SIF(K:AD)(mi:MI)(wi:TI):Prop:=∀F H σ ρ ps (R:It->Hp->Prop),x6 K F H σ ρ->mi ρ=some ps->(∀F1 H1 J,K0 F H F1 H1->b0e K F1 J ps->R J H1)->wi σ H R
abbrev EIF(X:Cx)(tg iter:AE)(mi:MI):Prop:=∃wi,PI X tg iter wi/\SIF X.K mi wi
theorem EIF.ei{iter:AE}{mi:MI}(h:EIF X tg iter mi):EI X tg iter mi:=by
 obtain⟨wi,h1,h2⟩:=h
 exact⟨wi,h1,fun F H σ ρ ps R en e k=>h2 F H σ ρ ps R en e fun F1 H1 J x S=>k F1 H1 J x ⟨fun i H' s=>S.st i H' (x.fh.trans s),fun i p H' s=>S.go i p H' (x.fh.trans s),fun i p y H' H'' s=>S.yd i p y H' H'' (x.fh.trans s)⟩⟩
end
def a28:d7->d7->Option d7
 | .val (.int i),.val (.int j)=>some (.val (.bool (decide (i<j))))
 | .val (.str i),.val (.str j)=>some (.val (.bool (decide (i.cps.toList<j.cps.toList))))
 |_,_=>none
section
variable {X:Cx}
theorem a6L:OpM X (compareOp .Lt) a28:=by
 intro pins s σ H x y v u Q I rx ry h
 obtain⟨F,ra,rb,rz,s0,h1,h2,h3,k⟩:=h
 unfold a28 at h3
 split at h3
 ·cases h3;cases h1;cases h2
  exact b7G pins s σ H _ _ v u Q I rx ry ⟨_,_,rfl,rfl,k _ F H (p8.here s0 rfl)⟩
 ·cases h3;cases h1;cases h2
  exact b0O pins s σ H _ _ v u Q I rx ry ⟨_,_,rfl,rfl,k _ F H (p8.here s0 rfl)⟩
 ·cases h3
def a2c(neg:Bool)(x y:d7):Option d7:=match x,y with
 | .val (.str i),.val (.str j)=>some (.val (.bool (if neg then !(!(Builtin.Str.occurrences j i 0 j.length 1).isEmpty) else !(Builtin.Str.occurrences j i 0 j.length 1).isEmpty)))
 |x,y=>gIn neg x y
theorem b4A(hu:X.A.units+64<cLine):OpM X (compareOp .In) (a2c false):=by
 intro pins s σ H x y v u Q I rx ry h
 obtain⟨F,ra,rb,rz,s0,h1,h2,h3,k⟩:=h
 unfold a2c at h3
 split at h3
 ·cases h3;cases h1;cases h2
  exact b0N pins s σ H _ _ v u Q I rx ry ⟨_,_,rfl,rfl,k _ F H (p8.here s0 rfl)⟩
 ·exact b6D hu pins s σ H x y v u Q I rx ry ⟨F,_,_,rz,s0,h1,h2,h3,k⟩
theorem a89(hu:X.A.units+64<cLine):OpM X (compareOp .NotIn) (a2c true):=by
 intro pins s σ H x y v u Q I rx ry h
 obtain⟨F,ra,rb,rz,s0,h1,h2,h3,k⟩:=h
 unfold a2c at h3
 split at h3
 ·cases h3;cases h1;cases h2
  exact a6J pins s σ H _ _ v u Q I rx ry ⟨_,_,rfl,rfl,k _ F H (p8.here s0 rfl)⟩
 ·exact b0P hu pins s σ H x y v u Q I rx ry ⟨F,_,_,rz,s0,h1,h2,h3,k⟩
def a7D(neg:Bool)(x y:d7):Option d7:=match x,y with
 | .val (.bool a),.val (.bool b)=>some (.val (.bool (if neg then !(a==b) else a==b)))
 |x,y=>b1T neg x y
theorem b16{a b:Bool}{M:Model}{A:AO}{E:AA->AC->Prop}{s:AC}{Q:AA->AC->Prop}(h:Q (.bool (a==b)) s):AG M A (compareOp .Is (.bool a) (.bool b)) Q E s:=by
 refine wpAny_is_plain (by cases a<;>cases b<;>rfl) ?_
 have e:(Value.bool a==Value.bool b)=(a==b):=by cases a<;>cases b<;>rfl
 rw [e];exact h
theorem a9U:OpM X (compareOp .Is) (a7D false):=by
 intro pins s σ H x y v u Q I rx ry h
 obtain⟨F,ra,rb,rz,s0,h1,h2,h3,k⟩:=h
 unfold a7D at h3
 split at h3
 ·cases h3;cases h1;cases h2;cases rx;cases ry
  exact b16 ⟨.bl _,H,I,rfl,k _ F H (p8.here s0 rfl)⟩
 ·exact b4B pins s σ H x y v u Q I rx ry ⟨F,_,_,rz,s0,h1,h2,h3,k⟩
theorem a7F{a b:Bool}{M:Model}{A:AO}{E:AA->AC->Prop}{s:AC}{Q:AA->AC->Prop}(h:Q (.bool (!(a==b))) s):AG M A (compareOp .IsNot (.bool a) (.bool b)) Q E s:=by
 refine wpAny_isNot_plain (by cases a<;>cases b<;>rfl) ?_
 have e:(Value.bool a==Value.bool b)=(a==b):=by cases a<;>cases b<;>rfl
 first
  |(rw [e];exact h)
  |(have e2:(Value.bool a !=Value.bool b)= !(a==b):=by cases a<;>cases b<;>rfl
    rw [e2];exact h)
theorem b2D:OpM X (compareOp .IsNot) (a7D true):=by
 intro pins s σ H x y v u Q I rx ry h
 obtain⟨F,ra,rb,rz,s0,h1,h2,h3,k⟩:=h
 unfold a7D at h3
 split at h3
 ·cases h3;cases h1;cases h2;cases rx;cases ry
  exact a7F ⟨.bl _,H,I,rfl,k _ F H (p8.here s0 rfl)⟩
 ·exact b2E pins s σ H x y v u Q I rx ry ⟨F,_,_,rz,s0,h1,h2,h3,k⟩
def a30:d7->d7->Option d7
 | .val (.str z),.val (.int k)=>if okC (fun k n=>0<=k/\k<=1000000/\n*k<=16777216) k z.length=true then some (.val (.str ⟨(AV k.toNat z.cps.toList).flatten.toArray⟩)) else none
 | .ow (.lst ps),.val (.int k)=>if okC (fun k n=>0<=k/\k<=1000000/\n*k<=16777216) k ps.length=true then some (.own (AV k.toNat ps).flatten) else none
 |x,y=>b31 x y
theorem a3X(xs:List Nat):∀(m:Nat) (acc:Array Nat),(AV m xs.toArray).foldl (· ++·) acc=acc++(AV m xs).flatten.toArray
 |0,acc=>by simp
 |m+1,acc=>by
  rw [Ac,List.foldl_cons,a3X xs m,Ac,List.flatten_cons]
  apply Array.ext'
  simp
theorem b5f{z:Str}{k:Int}(h0:0<=k):Txt.mul z k=⟨(AV k.toNat z.cps.toList).flatten.toArray⟩:=by
 unfold Txt.mul
 by_cases h1:k<1
 ·have:k=0:=by lia
  subst this
  rfl
 ·rw [if_neg h1]
  by_cases h2:(k==1||z.length==0)=true
  ·rw [if_pos h2]
   rw [Bool.or_eq_true] at h2
   cases z with
   |mk a=>
    rcases h2 with h2|h2
    ·have:k=1:=by simpa using h2
     subst this
     show(⟨a⟩:Str)=_
     congr 1
     apply Array.ext'
     simp
    ·have ha:a.size=0:=by simpa [Str.length] using h2
     have:a= #[]:=Array.eq_empty_of_size_eq_zero ha
     subst this
     congr 1
     apply Array.ext'
     simp
  ·rw [if_neg h2]
   have e:z.cps=z.cps.toList.toArray:=by simp
   congr 1
   rw [e,a3X]
   simp
theorem a4J{K:AD}{H:Hp}{ps:List PV}{xs:List V}(r:g9 K H ps xs):∀m:Nat,g9 K H (AV m ps).flatten (AV m xs).flatten
 |0=>rfl
 |m+1=>by
  rw [Ac,Ac,List.flatten_cons,List.flatten_cons]
  exact r.append (a4J r m)
theorem b2C:OpM X (binaryOp .Mult) a30:=by
 intro pins s σ H x y v u Q I rx ry h
 obtain⟨F,ra,rb,rz,s0,h1,h2,h3,k⟩:=h
 unfold a30 at h3
 split at h3
 ·rename_i z n
  split at h3
  ·rename_i c
   obtain⟨c0,c1,c2⟩:=a1L.mp c
   cases h3;cases h1;cases h2
   obtain⟨t,rfl⟩:=rx
   obtain⟨t',rfl⟩:=ry
   have hz:z.length*n.toNat<=AK:=by
    rw [sizeLine_eq]
    have:((z.length*n.toNat:Nat):Int)=z.length*n:=by rw [Int.natCast_mul,Int.toNat_of_nonneg c0]
    lia
   refine SB.mul ⟨?_,fun h4 h5 h6=> ?_,fun h4 h5=> ?_⟩ fun t' k'=>⟨.str _,H,I.tok _,⟨_,rfl⟩, ?_⟩
   ·have e1:¬n< -(2 ^ 63:Int):=by lia
    have e2:¬n>=2 ^ 63:=by lia
    simp [e1,e2]
    lia
   ·have h7:(2 ^ 63 - 1:Int)/ n<z.length:=h6
    have h8:(2 ^ 63 - 1:Int)<(z.length:Int)*n:=by
     have:=Int.lt_mul_of_ediv_lt (a:=(2 ^ 63 - 1:Int)) (b:=(z.length:Int)) (c:=n) (by lia) h7
     exact this
    lia
   ·unfold Builtin.Str.tooLong
    rw [decide_eq_false (by lia)]
   ·rw [b5f c0]
    exact k _ F H (p8.here s0 rfl)
  ·cases h3
 ·rename_i ps n
  split at h3
  ·rename_i c
   obtain⟨c0,c1,c2⟩:=a1L.mp c
   cases h3;cases h2
   obtain⟨a,xs,rfl,fa,hq,rl⟩:=h1
   have hlen:=rl.length
   have hz:xs.length*n.toNat<=AK:=by
    rw [sizeLine_eq,hlen]
    have:((ps.length*n.toNat:Nat):Int)=ps.length*n:=by rw [Int.natCast_mul,Int.toNat_of_nonneg c0]
    lia
   exact b6B pins s σ H _ _ v u Q I rx ry ⟨a,n,xs,rfl,rfl,hq,by lia,by lia,hz,fun p hp=>k _ _ _ (p8.lst s0 hp (a4J rl _))⟩
  ·cases h3
 ·exact b2B pins s σ H x y v u Q I rx ry ⟨F,_,_,rz,s0,h1,h2,h3,k⟩
def a3Z(x:d7):Option d7:=match x with
 | .val (.str z)=>if z.length<=AK then some (.own (z.cps.toList.map fun c=> .str ⟨#[c]⟩)) else none
 |x=>b1W x
theorem a7l(hc:X.calm=true):E3 X (.type "list") (rC1 X.K a3Z):=by
 intro pins s σ H xs us Q I rv h
 obtain⟨F,x,rx,rz,e0,s0,h1,h2,k⟩:=h
 unfold a3Z at h2
 split at h2
 ·rename_i z
  split at h2
  ·rename_i c
   cases h2
   cases h1
   subst e0
   obtain⟨u,rfl,t,rfl⟩:=a25 rv
   refine call_list_str (I.ok.hd hc) z t (fun h' tk acc' c' kp e ia=> ?_) (by exact c)
   obtain⟨ia1,ia2⟩:=ia
   have hv:i4 (z.cps.toList.map fun c=>V.str ⟨#[c]⟩) acc'.toList:=by
    have key:∀(cs:List Nat) (us:List AA),us.length=cs.length->(∀(i:Nat) v,us[i]?=some v->∃c u,cs[i]?=some c/\v= .str ⟨#[c]⟩ u)->i4 (cs.map fun c=>V.str ⟨#[c]⟩) us:=by
     intro cs
     induction cs with
     |nil=>
      intro us h1 h2
      have:us=[]:=List.length_eq_zero_iff.mp h1
      subst this;exact .nil
     |cons c cs ih=>
      intro us h1 h2
      cases us with
      |nil=>cases h1
      |cons w us=>
       obtain⟨c',u,e1,e2⟩:=h2 0 w rfl
       simp at e1
       subst e1
       exact .cons ⟨u,e2⟩ (ih us (by simpa using h1) fun i v hv=>by simpa using h2 (i+1) v (by simpa using hv))
    refine key _ _ (by simpa using ia1) fun i v hv=> ?_
    have hv':acc'[i]?=some v:=by simpa using hv
    obtain⟨c,u,e1,e2⟩:=ia2 i v hv'
    exact⟨c,u,by simpa using e1,e2⟩
   have hlen:(z.cps.toList.map fun c=>V.str ⟨#[c]⟩).length<=AK:=by rw [AU];simpa [Str.length] using c
   refine⟨.ref s.heap.objs.size,_,I.laid (t':=tk) kp (AN _) (show v7 X.prog X.w _ h' _ (.lst (z.cps.toList.map fun c=>V.str ⟨#[c]⟩)) from⟨hlen,acc'.toList,c',hv,by rw [e]⟩),rfl,k _ _ _ (p8.lst s0 (I.hok.fresh (AN _)) ?_)⟩
   have:∀cs:List Nat,g9 X.K F (cs.map fun c=>PyData.str ⟨#[c]⟩) (cs.map fun c=>V.str ⟨#[c]⟩):=by
    intro cs
    induction cs with
    |nil=>rfl
    |cons c cs ih=>exact⟨_,_,rfl,rfl,ih⟩
   exact this _
  ·cases h2
 ·exact b3D pins s σ H xs us Q I rv ⟨F,x,_,rz,e0,s0,h1,h2,k⟩
theorem g9.set{K:AD}{H:Hp}{p:PV}{v:V}(h:v6 K H p v):∀{ps:List PV} {xs:List V} (j:Nat),g9 K H ps xs->g9 K H (ps.set j p) (xs.set j v)
 |[],_,_,r=>by cases r;exact rfl
 |_::ps,_,0,⟨w,t,e,_,rl⟩=>by subst e;exact⟨v,t,rfl,h,rl⟩
 |q::ps,_,j+1,⟨w,t,e,hq,rl⟩=>by subst e;exact⟨w,_,rfl,hq,g9.set h j rl⟩
end
theorem a2q:fillsNumberSlot (.type "tuple") "mul"=pure false:=
 PySem.fillsNumberSlot_seq (id:="tuple.__mul__") (r:=some (.builtin "tuple.__rmul__")) PySem.F.slot_tuple_mul.lookup (by decide+kernel) PySem.F.slot_tuple_rmul.lookup (by decide+kernel)
theorem a6Q:seqRepeat? (.type "tuple")=pure (some (.builtin "tuple.__mul__")):=by
 unfold seqRepeat?
 rw [PySem.seqSlot_of (T:="tuple") (name:="__mul__") (id:="tuple.__mul__") PySem.F.slot_tuple_mul.lookup (by decide+kernel),PySem.seqSlot_of (T:="tuple") (name:="__rmul__") (id:="tuple.__rmul__") PySem.F.slot_tuple_rmul.lookup (by decide+kernel)]
 rfl
theorem a36(a:Int)(t:Tok)(l:AB)(items:Array AA)(n:Nat)(dd:Option AB)(sl:Array (Option AA)):Meets (Builtin.«int.__rmul__» ⟨[.int a t,.ref l],[]⟩) (fun _ R s=>s.heap.get? l=some {cls:= .type "tuple",dict:=dd,data:= .seq items n,slots:=sl}/\R (.ok (.ret Value.notImplemented)) s):=
 .of_wp fun prog w A R s h=>by obtain⟨hp,g,d,tk,os⟩:=s;obtain⟨hl,h⟩:=h;wp_walk;exact⟨_,rfl,h⟩
theorem a40(l:AB)(items:Array AA)(n:Nat)(dd:Option AB)(sl:Array (Option AA))(x:Int)(u:Tok)(hc0:(decide (x< -(2 ^ 63))||decide (x>=2 ^ 63))=false)(hc1:(items.isEmpty||x==1)=false)(hc2:(decide (x<=0)||items.isEmpty)=false)(hc3:¬(items.size:Int)*x>(2 ^ 63 - 1)/ 8)(hc4:Builtin.Tuple.tupleTooMany ((items.size:Int)*x)=false)(hz:((AV x.toNat items).foldl (· ++·) #[]).size<=AK):
 Meets (Builtin.«tuple.__mul__» ⟨[.ref l,.int x u],[]⟩) (fun _ R s=>s.heap.get? l=some {cls:= .type "tuple",dict:=dd,data:= .seq items n,slots:=sl}/\R (.ok (.ret (Value.ref s.heap.objs.size))) {s with heap:=s.heap.push {cls:=Value.type "tuple",data:=Data.seq ((AV x.toNat items).foldl (· ++·) #[])},toks:=s.toks}):=
 .of_wp fun prog w A R s h=>by
  obtain⟨hp,g,d,tk,os⟩:=s;obtain⟨hl,h⟩:=h
  wp_walk
  have ht:IsTup hp l items:=⟨_,hl,rfl,n,rfl⟩
  rw [if_neg (by rw [hc0];exact As)]
  wp_walk
  rw [if_neg hc3]
  wp_walk
  exact⟨_,rfl,h⟩
section
variable {X:Cx}
theorem b4z:OpR X (binaryOp .Mult) (fun x y H Q=>∃a xs n,x= .ref a/\y= .int n/\V5 X.K H a xs/\xs≠[]/\2<=n/\n<=1000000/\xs.length*n.toNat<=AK/\∀p,H p=none->Q (.ref p) (upd H p (.tup (AV n.toNat xs).flatten))):=by
 intro pins s σ H x y v u Q I rx ry h
 obtain⟨a,xs,n,rfl,rfl,hx,hne,h1,h2,hz,q⟩:=h
 cases rx
 obtain⟨t,rfl⟩:=ry
 obtain⟨its,r,ht,_⟩:=I.tuple hx
 have hlen:its.toArray.size=xs.length:=by rw [Ab];exact r.length.symm
 have hie:its.toArray.isEmpty=false:=by
  cases its with
  |nil=>exact absurd (r.nil_iff.mp rfl) hne
  |cons _ _=>rfl
 have hnew:List.foldl (fun x1 x2=>x1++x2) #[] (AV n.toNat its.toArray)=(AV n.toNat its).flatten.toArray:=by
  have:=a2a its n.toNat []
  rw [Ak] at this
  exact this
 have hc:((xs.length*n.toNat:Nat):Int)=(xs.length:Int)*n:=by rw [Int.natCast_mul,Int.toNat_of_nonneg (by lia)]
 have hsl:=sizeLine_eq
 obtain⟨⟨cls,dd,data,sl⟩,ho,hc',m,hd⟩:=id ht
 simp only at hc' hd
 subst hc' hd
 have hzz:(List.foldl (fun x1 x2=>x1++x2) #[] (AV n.toNat its.toArray)).size<=AK:=by
  rw [hnew,Ab,a6x,Nat.mul_comm,<-r.length];exact hz
 refine wpAny_binaryOp_repeat_ref (T:="tuple") (U:="int") (by decide) ht.typeIs (fun s'=>typeIs_int s' n t) a2q F.fills_int_mul F.slot_int_rmul a6Q F.slot_int_index.lookup
  (call_meets F.slot_int_rmul (typeIs_int s n t) F.entry_int_rmul (F.args_int_rmul_2 _ _) (a36 n t a its.toArray m dd sl)
   ⟨ho,rfl,ht.typeIs,call_meets PySem.F.slot_tuple_mul ht.typeIs PySem.F.entry_tuple_mul (PySem.F.args_tuple_mul_2 _ _) (a40 a its.toArray m dd sl n t ?_ ?_ ?_ ?_ ?_ hzz) ⟨ho, ?_⟩⟩)
 ·have e1:¬n< -(2 ^ 63:Int):=by lia
  have e2:¬n>=2 ^ 63:=by lia
  simp [e1,e2]
  lia
 ·rw [hie]
  have:n≠1:=by lia
  simp [this]
 ·rw [hie]
  have:¬n<=0:=by lia
  simp [this]
 ·rw [hlen,<-hc]
  lia
 ·rw [hlen,<-hc]
  unfold Builtin.Tuple.tupleTooMany
  rw [decide_eq_false (by lia)]
 ·rw [hnew]
  refine⟨.ref s.heap.objs.size,_,I.laid (t':=s.toks) (o:= .tup (AV n.toNat xs).flatten) (fun b ob q=>Ae _ q) (AN _) ?_,rfl,q _ (I.hok.fresh (AN _))⟩
  exact⟨by rw [a6x,Nat.mul_comm];exact hz,_,r.rep n.toNat,IsTup.new _ _⟩
def V9:d7->d7->Option d7
 | .val (.tuple ps),.val (.int k)=>if okC (fun k n=>2<=k/\k<=1000000/\1<=n/\n*k<=16777216) k ps.length=true then some (.val (.tuple (AV k.toNat ps).flatten)) else none
 |x,y=>a30 x y
theorem J8:OpM X (binaryOp .Mult) V9:=by
 intro pins s σ H x y v u Q I rx ry h
 obtain⟨F,ra,rb,rz,s0,h1,h2,h3,k⟩:=h
 unfold V9 at h3
 split at h3
 ·rename_i ps n
  split at h3
  ·rename_i c
   obtain⟨c0,c1,c2,c3⟩:=a1L.mp c
   cases h3;cases h2
   obtain⟨a,xs,rfl,hq,rl⟩:=h1
   have hlen:=rl.length
   have hz:xs.length*n.toNat<=AK:=by
    rw [sizeLine_eq,hlen]
    have:((ps.length*n.toNat:Nat):Int)=ps.length*n:=by rw [Int.natCast_mul,Int.toNat_of_nonneg (by lia)]
    lia
   refine b4z pins s σ H _ _ v u Q I rx ry ⟨a,xs,n,rfl,rfl,o5 s0 hq.sq, ?_,by lia,by lia,hz,fun p hp=>k _ _ _ (p8.tup s0 hp (a4J rl _))⟩
   intro e
   rw [e] at hlen
   simp at hlen
   lia
  ·cases h3
 ·exact b2C pins s σ H x y v u Q I rx ry ⟨F,_,_,rz,s0,h1,h2,h3,k⟩
end
section
variable {prog:AL}{w:AJ}{A:AO}{E:AA->AC->Prop}{s:AC}
end
def b08(h:Heap)(it:AB)(v:AA)(i:Int):Prop:=∃o,h.get? it=some o/\o.cls= .type "reversed"/\o.data= .fields #[v,rawInt i]
theorem b08.typeIs{s:AC}{it:AB}{v:AA}{i:Int}(x:b08 s.heap it v i):s.TypeIs (.ref it) "reversed":=let ⟨o,ho,hc,_⟩:=x;⟨o,ho,hc⟩
theorem b08.at{h h':Heap}{it:AB}{v:AA}{i:Int}(x:b08 h it v i)(e:∀o,h.get? it=some o->h'.get? it=some o):b08 h' it v i:=let ⟨o,ho,r⟩:=x;⟨o,e _ ho,r⟩
section
variable {prog:AL}{w:AJ}{A:AO}{E:AA->AC->Prop}{s:AC}{u:AA}{T gid:String}{fp:List AB}{n:Nat}{P:Nat->AA->Prop}{Sq:Heap->Prop}
end
section
variable {prog:AL}{w:AJ}{A:AO}{E:AA->AC->Prop}{s:AC}{u:AA}{T gid:String}{fp:List AB}{n:Nat}{P:Nat->AA->Prop}{Sq:Heap->Prop}
end
section
variable {prog:AL}{w:AJ}{A:AO}{E:AA->AC->Prop}{s:AC}
end
section
variable {X:Cx}
theorem g9.reverse{K:AD}{H:Hp}:∀{ps:List PV} {xs:List V},g9 K H ps xs->g9 K H ps.reverse xs.reverse
 |[],_,r=>by cases r;exact rfl
 |p::ps,_,⟨x,r,e,hp,t⟩=>by
  subst e
  rw [List.reverse_cons,List.reverse_cons]
  exact(g9.reverse t).append ⟨x,[],rfl,hp,rfl⟩
theorem i4.reverse:∀{xs:List V} {us:List AA},i4 xs us->i4 xs.reverse us.reverse
 |_,_,.nil=> .nil
 |_,_,.cons a b=>by
  rw [List.reverse_cons,List.reverse_cons]
  exact(i4.reverse b).append (.cons a .nil)
end
section
variable {X:Cx}
theorem g9.last{K:AD}{H:Hp}{ps:List PV}{xs:List V}{p:PV}(r:g9 K H ps xs)(h:ps.getLast?=some p):∃v,xs.getLast?=some v/\v6 K H p v:=by
 rw [List.getLast?_eq_getElem?] at h
 obtain⟨v,e,q⟩:=r.get h
 exact⟨v,by rw [List.getLast?_eq_getElem?,r.length];exact e,q⟩
theorem g9.dropLast{K:AD}{H:Hp}{ps:List PV}{xs:List V}(r:g9 K H ps xs):g9 K H ps.dropLast xs.dropLast:=by
 rw [List.dropLast_eq_take,List.dropLast_eq_take,r.length]
 exact r.take _
def a7O(i j:Nat):MS:=fun ρ=>match ρ[j]? with
 |some (some (.ow (.lst ps)))=>ps.getLast?.bind fun p=>some (.nx ((ρ.set j (some (.own ps.dropLast))).set i (some (.val p))))
 |_=>none
theorem b1I(i j:Nat){x y:Str}{p apos cpos pos pos':Pos}(hN:X.N.Nodup)(hx:PE X (.Name x p) (Q6 j))(hi:X.N[i]?=some y:=by rfl)(hy:Loc X.env.scope y:=by exact Or.inl rfl)
 (hbase:attributeBase (.Name x p) "pop" X.env (eval (.Name x p) X.env)=eval (.Name x p) X.env:=by rfl) (hline:(apos.endLine==cpos.line)=true:=by rfl)
 (hsw:swapsWith (.Call (.Attribute (.Name x p) "pop" apos) [] [] cpos) (some (.Name y pos')) pos.line X.env=pure false:=by rfl) (hf:X.fn y=true\/X.env.scope.names.lookup y=some .local:=by first|exact .inl rfl|exact .inr rfl|assumption):
 ES X (.Assign [.Name y pos'] (.Call (.Attribute (.Name x p) "pop" apos) [] [] cpos) pos) (a7O i j):=
 B1 (a9d hN hi hy (b6F PySem.F.plainAttrs_list PySem.F.slot_list_pop PySem.F.type_list_pop b6q hx hbase hline) hsw hf) fun D σ H ⟨F0,H0,F,ρ,fl,so,e,fin⟩=>by
  unfold a7O at e
  split at e
  ·rename_i ps eo
   obtain⟨q,e1,e⟩:=bind_some e
   cases e
   obtain⟨v,h1,a,xs,rfl,fa,ha',rl⟩:=so.e.at_ j _ eo
   obtain⟨w,hw,rw'⟩:=rl.last e1
   have s2:=so.put eo h1 rl.dropLast
   exact⟨.ref a,h1,.inl ⟨rfl,xs,M2.of ha'⟩,a,xs,w,rfl,rfl,ha',by rw [<-List.getLast?_eq_getElem?];exact hw,fin _ F _ (j5.refl F) (s2.set (p8.here s2.e.fh rw') rfl i)⟩
  ·cases e
theorem b2n{i j:Nat}{ρ:a8}{ps:List PV}{p:PV}(h:ρ[j]?=some (some (.own (ps++[p])))):a7O i j ρ=some (.nx ((ρ.set j (some (.own ps))).set i (some (.val p)))):=by
 unfold a7O
 rw [h]
 simp
end
def m6(kvs:List (List f8×PV))(k:List f8):Option PV:=(kvs.find? fun kv=>decide (kv.1=k)).map (·.2)
def M1(kvs:List (List f8×PV))(k:List f8)(v:PV):List (List f8×PV):=
 if(kvs.any fun kv=>decide (kv.1=k))=true then kvs.map (fun kv=>if kv.1=k then(kv.1,v) else kv) else kvs++[(k,v)]
theorem t4.length{K:AD}{H:Hp}:∀{kvs:List (List f8×PV)} {ys:List (List f8×V)},t4 K H kvs ys->ys.length=kvs.length
 |[],_,h=>by cases h;rfl
 |(k,p)::r,_,⟨v,t,e,q,h⟩=>by subst e;rw [AT,AT,t4.length h]
theorem t4.any{K:AD}{H:Hp}{k:List f8}:∀{kvs:List (List f8×PV)} {ys:List (List f8×V)},t4 K H kvs ys->(ys.any fun kv=>decide (kv.1=k))=(kvs.any fun kv=>decide (kv.1=k))
 |[],_,h=>by cases h;rfl
 |(k',p)::r,_,⟨v,t,e,q,h⟩=>by subst e;rw [List.any_cons,List.any_cons,t4.any h]
theorem t4.val{K:AD}{H:Hp}{k:List f8}:∀{kvs:List (List f8×PV)} {ys:List (List f8×V)},t4 K H kvs ys->(∀p,m6 kvs k=some p->∃v,O4 ys k=some v/\v6 K H p v)/\(m6 kvs k=none->O4 ys k=none)
 |[],_,h=>by cases h;exact⟨fun p e=>(nomatch e),fun _=>rfl⟩
 |(k',p)::r,_,⟨v,t,e,q,h⟩=>by
  subst e
  by_cases c:k'=k
  ·have e1:m6 ((k',p)::r) k=some p:=by simp [m6,List.find?_cons,c]
   have e2:O4 ((k',v)::t) k=some v:=a0d c
   rw [e1,e2]
   exact⟨fun p' e'=>(by cases e';exact⟨v,rfl,q⟩),fun e'=>(nomatch e')⟩
  ·have e1:m6 ((k',p)::r) k=m6 r k:=by simp [m6,List.find?_cons,c]
   have e2:O4 ((k',v)::t) k=O4 t k:=a0c c
   rw [e1,e2]
   exact t4.val h
theorem t4.repl{K:AD}{H:Hp}{k:List f8}{p:PV}{v:V}(hp:v6 K H p v):∀{kvs:List (List f8×PV)} {ys:List (List f8×V)},t4 K H kvs ys->t4 K H (kvs.map fun kv=>if kv.1=k then(kv.1,p) else kv) (ys.map fun kv=>if kv.1=k then(kv.1,v) else kv)
 |[],_,h=>by cases h;exact rfl
 |(k',p')::r,_,⟨v',t,e,q,h⟩=>by
  subst e
  by_cases c:k'=k
  ·rw [AM,AM]
   simp only [if_pos c]
   exact⟨v,_,rfl,hp,t4.repl hp h⟩
  ·rw [AM,AM]
   simp only [if_neg c]
   exact⟨v',_,rfl,q,t4.repl hp h⟩
theorem t4.snoc{K:AD}{H:Hp}{k:List f8}{p:PV}{v:V}(hp:v6 K H p v):∀{kvs:List (List f8×PV)} {ys:List (List f8×V)},t4 K H kvs ys->t4 K H (kvs++[(k,p)]) (ys++[(k,v)])
 |[],_,h=>by cases h;exact⟨v,[],rfl,hp,rfl⟩
 |(k',p')::r,_,⟨v',t,e,q,h⟩=>by subst e;exact⟨v',_,rfl,q,t4.snoc hp h⟩
theorem t4.put{K:AD}{H:Hp}{k:List f8}{p:PV}{v:V}{kvs:List (List f8×PV)}{ys:List (List f8×V)}(r:t4 K H kvs ys)(hp:v6 K H p v):t4 K H (M1 kvs k p) (O0 ys k v):=by
 unfold M1 O0
 rw [r.any]
 split
 ·exact r.repl hp
 ·exact r.snoc hp
theorem p8.dct{K:AD}{F H:Hp}{a:AB}(s:j5 F H)(n:H a=none):p8 K F H F (upd H a (.dT [])) (.ref a) (.dct []):=
 ⟨K0.layH s n,⟨a,[],rfl,s.free n,i7,rfl⟩,fun _ _ _ e=>by cases e;exact n⟩
section
variable {X:Cx}
def a9Q:M:=fun _=>some (.dct [])
theorem a9A{pos:Pos}:EE X (.Dict [] [] pos) a9Q:=
 u8 b2J fun σ H Q ⟨F,ρ,r,en,e,k⟩=>by
  cases e
  exact fun d hd=>k _ _ _ (p8.dct en.fh hd)
def a0C(i:Nat)(ρ:a8)(p:PV)(k:List f8):Option Fl:=match ρ[i]? with
 |some (some (.ow (.dct kvs)))=>if kvs.length<AK then some (.nx (ρ.set i (some (.dct (M1 kvs k p))))) else none
 |_=>none
def a9P(i:Nat)(mk:MA)(mv:M):MS:=fun ρ=>((mv ρ).bind d7.toVal).bind fun p=>(mk ρ).bind fun ks=>if ks.length<=AK then(keysOf ks).bind (a0C i ρ p) else none
theorem b3T(i:Nat){x:Str}{p tp tp2 pos:Pos}{es:List AE}{e:AE}{x1}{mk:MA}{mv:M}(hu:X.A.units+64<cLine)(hx:PE X (.Name x p) (Q6 i))(hi:EA X es mk)(he:EE X e mv)
 (hs:swapsWith e (some (.Subscript (.Name x p) (.Tuple es x1 tp) tp2)) pos.line X.env=pure false:=by rfl):ES X (.Assign [.Subscript (.Name x p) (.Tuple es x1 tp) tp2] e pos) (a9P i mk mv):=
 B1 (a3n (by lia) hx (a4D hi) he hs) fun D σ H ⟨F0,H0,F,ρ,fl,so,e,fin⟩=>by
  obtain⟨q,e1,e⟩:=bind_some e
  obtain⟨r,e2,e3⟩:=bind_some e1
  obtain⟨ks,e4,e⟩:=bind_some e
  split at e
  ·rename_i hz
   obtain⟨k,e5,e⟩:=bind_some e
   refine⟨F,ρ,r,so.e,e2,fun v F1 H1 o=> ?_⟩
   obtain⟨F2,o2⟩:=o.toVal e3
   have so2:=so.ext o2.x
   unfold a0C at e
   split at e
   ·rename_i kvs eo
    split at e
    ·rename_i hl
     cases e
     obtain⟨w,hw1,a,xs,rfl,fa,ha',rl⟩:=so2.e.at_ i _ eo
     refine⟨.ref a,hw1,F2,ρ,ks,so2.e,e4,fun vs F3 H3 x3 rl3=>⟨by rw [rl3.length];exact hz,fun b hb=> ?_⟩⟩
     have ev:=A7 e5 rl3
     have so3:=(so2.ext x3).ext (K0.lay (o:= .tup vs) x3.fh hb)
     have ha3:=x3.h _ _ ha'
     have hne:a≠b:=fun h=>by subst h;rw [hb] at ha3;cases ha3
     have ha4:upd H3 b (.tup vs) a=some (.dT xs):=by rw [g5 hne];exact ha3
     refine⟨a,_,rfl,a44.t (k:=k) ha4 (by rw [i7,ev]) (by rw [rl.length];exact hl), ?_⟩
     have up:j5 F2 (upd F3 b (.tup vs)):=x3.f.trans (C6 (x3.fh.free hb))
     exact fin σ _ _ (o2.x.f.trans up) (so3.putD eo hw1 ((t4.mono up _ rl).put (v6.mono up _ o2.rep)))
    ·cases e
   ·cases e
  ·cases e
def a0B(i:Nat)(ρ:a8)(k:List f8):Option d7:=match ρ[i]? with
 |some (some (.ow (.dct kvs)))=>(m6 kvs k).map .val
 |_=>none
def a7L(i:Nat)(mk:MA):M:=fun ρ=>(mk ρ).bind fun ks=>if ks.length<=AK then(keysOf ks).bind (a0B i ρ) else none
theorem b3K(i:Nat){x:Str}{p tp pos:Pos}{es:List AE}{x1}{mk:MA}(hu:X.A.units+64<cLine)(hx:PE X (.Name x p) (Q6 i))(hi:EA X es mk)(hs:a68 (.Tuple es x1 tp):=by intro _ _;rfl):EE X (.Subscript (.Name x p) (.Tuple es x1 tp) pos) (a7L i mk):=
 u8 (a3m (by lia) hx (a4D hi) hs) fun σ H Q ⟨F,ρ,r,en,e,k⟩=>by
  obtain⟨ks,e4,e⟩:=bind_some e
  split at e
  ·rename_i hz
   obtain⟨kk,e5,e⟩:=bind_some e
   unfold a0B at e
   split at e
   ·rename_i kvs eo
    cases hv:m6 kvs kk with
    |none=>rw [hv] at e;cases e
    |some q=>
     rw [hv] at e;cases e
     obtain⟨w,hw1,a,xs,rfl,fa,ha',rl⟩:=en.at_ i _ eo
     obtain⟨y,hy,ry⟩:=(rl.val (k:=kk)).1 q hv
     refine⟨.ref a,hw1,F,ρ,ks,en,e4,fun vs F3 H3 x3 rl3=>⟨by rw [rl3.length];exact hz,fun b hb=> ?_⟩⟩
     have ev:=A7 e5 rl3
     have ha3:=x3.h _ _ ha'
     have hne:a≠b:=fun h=>by subst h;rw [hb] at ha3;cases ha3
     have ha4:upd H3 b (.tup vs) a=some (.dT xs):=by rw [g5 hne];exact ha3
     have xx:=x3.trans (K0.lay (o:= .tup vs) x3.fh hb)
     exact⟨a,y,rfl,by rw [<-hy];exact R5.t ha4 (by rw [i7,ev]),k _ _ _ (p8.val xx (v6.mono xx.f _ ry))⟩
   ·cases e
  ·cases e
end
section
variable {prog:AL}{w:AJ}{A:AO}{E:AA->AC->Prop}{s:AC}
end
section
variable {X:Cx}{pins:List (AB×Obj)}{σ:L2.St}{H:Hp}{s:AC}{a:AB}{A:AO}{E:AA->AC->Prop}
end
section
variable {X:Cx}
end
def b15:AA->Bool
 | .int _ _=>true
 |_=>false
theorem a4e{K:AD}{a:AB}{o:Obj}:K.lookup a=some o->∃b,(b,o)∈K:=by
 induction K with
 |nil=>intro h;cases h
 |cons p r ih=>
  intro h
  obtain⟨b,u⟩:=p
  rw [List.lookup_cons] at h
  split at h
  ·cases h;exact⟨b,Al ..⟩
  ·obtain⟨c,hc⟩:=ih h
   exact⟨c,Ai _ hc⟩
theorem a9t:∀{k:List f8} {us:List AA},i4 (k.map kV) us->k.any Sum.isLeft=true->us.any b15=true
 |[],_,_,h=>by cases h
 |k::ks,_,r,h=>by
  rw [AM] at r
  cases r with
  |cons r1 r2=>
   rw [List.any_cons] at h ⊢
   cases k with
   |inl i=>obtain⟨t,rfl⟩:=(show ∃t,_=Value.int i t from r1);rfl
   |inr x=>
    have:=a9t r2 (by simpa using h)
    rw [this,Bool.or_true]
theorem t4.isSome{K:AD}{H:Hp}{k:List f8}{kvs:List (List f8×PV)}{ys:List (List f8×V)}(r:t4 K H kvs ys):(O4 ys k).isSome=(m6 kvs k).isSome:=by
 cases hv:m6 kvs k with
 |none=>rw [(r.val (k:=k)).2 hv];rfl
 |some p=>
  obtain⟨v,e,_⟩:=(r.val (k:=k)).1 p hv
  rw [e];rfl
section
variable {X:Cx}
def a6g(neg:Bool)(i:Nat)(ρ:a8)(k:List f8):Option d7:=match ρ[i]? with
 |some (some (.ow (.dct kvs)))=>some (.val (.bool (if neg then !(m6 kvs k).isSome else(m6 kvs k).isSome)))
 |_=>none
theorem b5H{t:TE}{m:M}(i:∀σ H Q,tM X.K m σ H Q->t σ H Q){σ:L2.St}{H:Hp}{Q:Bool->Hp->Prop}(h:tMT X.K (S8 m) σ H Q):tB t σ H Q:=by
 obtain⟨F,ρ,b,h1,h2,k⟩:=h
 obtain⟨r,e1,e2⟩:=bind_some h2
 exact i _ _ _ ⟨F,ρ,r,h1,e1,fun v F1 H1 o=>⟨b,a78 o.rep e2,k F1 H1 o.x⟩⟩
def a0G:List Str->List PV->Str->Option PV
 |k::ks,p::ps,x=>if k=x then some p else a0G ks ps x
 |_,_,_=>none
def b39(r:d7):Option Str:=match r with
 | .val (.str x)=>some x
 |_=>none
def a6z(kk:List Str)(ma:MA)(mi:M):M:=fun ρ=>(ma ρ).bind fun ps=>((mi ρ).bind b39).bind fun x=>(a0G kk ps x).map .val
structure EPs(X:Cx)(pos:Pos)(keys:List (Option AE))(values:List AE)(kk:List Str)(ma:MA):Prop where
 ex:∃trs,PPs X pos keys values trs/\∀σ H (Q:List (V×V)->Hp->Prop) F ρ ps,x6 X.K F H σ ρ->ma ρ=some ps->(∀vs F' H',K0 F H F' H'->g9 X.K F' ps vs->ps.length=kk.length->Q ((kk.map V.str).zip vs) H')->a6T trs σ H Q
theorem b3R{pos:Pos}:EPs X pos [] [] [] c8:=
 ⟨[],a9W,fun σ H Q F ρ ps en e k=>by cases e;exact k [] F H (K0.refl en.fh) rfl rfl⟩
theorem J3{pos p:Pos}{x:Str}{j:Nat}{v:AE}{ks:List (Option AE)}{vs:List AE}{kk:List Str}{m:M}{ma:MA}(hv:EE X v m)(hr:EPs X pos ks vs kk ma):
 EPs X pos (some (.Constant (.str x) j p)::ks) (v::vs) (x::kk) (a5 m ma):=by
 obtain⟨trs,h1,h2⟩:=hr.ex
 refine⟨(tC (.str x),tM X.K m)::trs,a73 b2L hv h1,fun σ H Q F ρ ps en e k=> ?_⟩
 obtain⟨q,e1,e⟩:=bind_some e
 obtain⟨r,e1,e2⟩:=bind_some e1
 obtain⟨qs,e3,e⟩:=bind_some e
 cases e
 refine⟨F,ρ,r,en,e1,fun z F1 H1 o1=> ?_⟩
 obtain⟨F2,o2⟩:=o1.toVal e2
 refine h2 σ H1 _ F2 ρ qs (en.ext o2.x) e3 fun ws F3 H3 x3 rl hl=> ?_
 exact k (z::ws) F3 H3 (o2.x.trans x3) ⟨z,ws,rfl,v6.mono x3.f _ o2.rep,rl⟩ (by rw [AT,AT,hl])
theorem a2T:∀(more kvs:List (f8×V)),((kvs++more).map (·.1)).Nodup->Y8 kvs more=kvs++more
 |[],kvs,_=>by rw [Am];rfl
 |(k,v)::r,kvs,h=>by
  have hn:¬(kvs.any fun kv=>decide (kv.1=k))=true:=by
   intro z
   obtain⟨kv,m1,m2⟩:=List.any_eq_true.mp z
   rw [Ax,AM] at h
   have:=(List.nodup_append.mp h).2.2 kv.1 (List.mem_map_of_mem m1) k (Al ..)
   exact this (of_decide_eq_true m2)
  show Y8 (O0 kvs k v) r=_
  have e:O0 kvs k v=kvs++[(k,v)]:=by unfold O0;rw [if_neg hn]
  rw [e,a2T r _ (by rw [List.append_assoc];exact h),List.append_assoc];rfl
theorem b3v:∀(kk:List Str) (vs:List V),(kk.map V.str).zip vs=((kk.map (Sum.inr:Str->f8)).zip vs).map fun kv=>(kV kv.1,kv.2)
 |[],_=>rfl
 |_::_,[]=>rfl
 |k::ks,v::vs=>by
  rw [AM,List.zip_cons_cons,AM,List.zip_cons_cons,AM,b3v ks vs];rfl
theorem a5E{K:AD}{H:Hp}{x:Str}{q:PV}:∀{kk:List Str} {ps:List PV} {vs:List V},g9 K H ps vs->a0G kk ps x=some q->∃v,O4 ((kk.map (Sum.inr:Str->f8)).zip vs) (.inr x)=some v/\v6 K H q v
 |[],_,_,_,h=>by simp [a0G] at h
 |_::_,[],_,_,h=>by simp [a0G] at h
 |k::ks,p::ps,_,⟨v,t,e,r1,r2⟩,h=>by
  subst e
  unfold a0G at h
  rw [AM,List.zip_cons_cons]
  by_cases c:k=x
  ·rw [if_pos c] at h;cases h
   exact⟨v,a0d (by rw [c]),r1⟩
  ·rw [if_neg c] at h
   obtain⟨w,e1,e2⟩:=a5E r2 h
   exact⟨w,by rw [a0c (by intro z;exact c (Sum.inr.inj z))];exact e1,e2⟩
theorem a8p:∀(kk:List Str) (vs:List V),vs.length=kk.length->(((kk.map (Sum.inr:Str->f8)).zip vs).map (·.1))=kk.map Sum.inr
 |[],_,_=>rfl
 |_::_,[],h=>by simp at h
 |k::ks,v::vs,h=>by
  rw [AM,List.zip_cons_cons,AM,a8p ks vs (by simpa using h)]
theorem a5M:∀{kk:List Str},kk.Nodup->(kk.map (Sum.inr:Str->f8)).Nodup
 |[],_=>List.nodup_nil
 |k::ks,h=>by
  rw [AM,List.nodup_cons]
  refine⟨fun z=> ?_,a5M (List.nodup_cons.mp h).2⟩
  obtain⟨y,m1,m2⟩:=Aj.mp z
  cases m2
  exact(List.nodup_cons.mp h).1 m1
theorem b0n{dpos pos:Pos}{keys:List (Option AE)}{values:List AE}{kk:List Str}{ma:MA}{i:AE}{mi:M}(hu:X.A.units+64<cLine)(hp:EPs X dpos keys values kk ma)(hi:EE X i mi)(nd:kk.Nodup)
 (hall:keys.all (·.isSome)=true:=by rfl) (hl:keys.length=values.length:=by rfl) (h0:keys≠[]:=by intro h;cases h) (h15:keys.length<=15:=by decide) (hk15:kk.length<=15:=by decide) (hs:a68 i:=by intro _ _;rfl):
 EE X (.Subscript (.Dict keys values dpos) i pos) (a6z kk ma mi):=by
 obtain⟨trs,g1,g2⟩:=hp.ex
 refine u8 (a3m (by lia) (b4H g1 hall hl h0 h15) hi hs) fun σ H Q ⟨F,ρ,r,en,e,k⟩=> ?_
 obtain⟨ps,e1,e⟩:=bind_some e
 obtain⟨x,e2,e⟩:=bind_some e
 obtain⟨ri,e2,e3⟩:=bind_some e2
 cases e4:a0G kk ps x with
 |none=>rw [e4] at e;cases e
 |some q=>
  rw [e4] at e;cases e
  intro p hp
  have x0:K0 F H F (upd H p (.dK [])):=K0.layH en.fh hp
  refine g2 σ _ _ F ρ ps (en.ext x0) e1 fun vs F1 H1 x1 rl hlen=> ?_
  have hp1:H1 p=some (.dK []):=x1.h _ _ i7
  have fp:F1 p=none:=x1.nw p _ (en.fh.free hp) i7 (fun _ h=>nomatch h)
  have hvl:vs.length=kk.length:=by rw [rl.length,hlen]
  have hkl:((kk.map (Sum.inr:Str->f8)).zip vs).length<=15:=by rw [List.length_zip,AU,hvl,Nat.min_self];exact hk15
  refine⟨hp1,(kk.map (Sum.inr:Str->f8)).zip vs,b3v kk vs,hkl, ?_⟩
  have em:Y8 [] ((kk.map (Sum.inr:Str->f8)).zip vs)=(kk.map (Sum.inr:Str->f8)).zip vs:=by
   rw [a2T _ [] (by rw [Ak,a8p kk vs hvl];exact a5M nd)];rfl
  rw [em]
  have x2:K0 F H F1 (upd H1 p (.dK ((kk.map (Sum.inr:Str->f8)).zip vs))):=
   ⟨x1.f,fun b o z=>by rw [g5 (g6 z hp)];exact x1.h _ _ (by rw [g5 (g6 z hp)];exact z),
    fun b o z=>by rw [g5 (g6 z fp)];exact x1.fh _ _ z,
    fun b o z y t=>x1.nw b o z (by rw [g5 (g6 y hp)];exact y) t,x1.nf⟩
  refine⟨F1,ρ,ri,en.ext x2,e2,fun y F2 H2 o2=> ?_⟩
  unfold b39 at e3
  split at e3
  ·cases e3
   cases(show y=V.str x from o2.rep)
   obtain⟨v,hv,rv⟩:=a5E (x:=x) rl e4
   refine⟨p,v,rfl, ?_,k v F2 H2 (p8.val (x2.trans o2.x) (v6.mono o2.x.f _ rv))⟩
   rw [<-hv]
   exact R5.k (k:= .inr x) (o2.x.h _ _ i7)
  ·cases e3
end
theorem a7M(kk:List Str)(ma:MA)(mi:M)(ρ:a8):a6z kk ma mi ρ=(ma ρ).bind fun ps=>((mi ρ).bind b39).bind fun x=>(a0G kk ps x).map .val:=Eq.trans rfl rfl
theorem b6j(x:Str):b39 (.val (.str x))=some x:=Eq.trans rfl rfl
def b0t(x:Str):List Str->List Str
 |[]=>[x]
 |y::r=>if y.cps.toList<x.cps.toList then y::b0t x r else x::y::r
def a1W:List Str->List Str
 |[]=>[]
 |x::r=>b0t x (a1W r)
theorem a2i(x:Str):∀l:List Str,(b0t x l).Perm (x::l)
 |[]=>List.Perm.refl _
 |y::r=>by
  unfold b0t
  split
  ·exact((a2i x r).cons y).trans (List.Perm.swap x y r)
  ·exact List.Perm.refl _
theorem a1b:∀l:List Str,(a1W l).Perm l
 |[]=>List.Perm.refl _
 |x::r=>(a2i x (a1W r)).trans ((a1b r).cons x)
def leS(a b:Str):Prop:=¬b.cps.toList<a.cps.toList
theorem a7J{a b:Str}(h:leS a b)(g:leS b a):a=b:=by
 have e:a.cps.toList=b.cps.toList:=List.le_antisymm h g
 cases a;cases b
 simp at e ⊢
 exact e
theorem a2l{a b c:Str}(h:leS a b)(g:leS b c):leS a c:=List.le_trans h g
theorem a2N(x:Str):∀{l:List Str},l.Pairwise leS->(b0t x l).Pairwise leS
 |[],_=>List.pairwise_singleton _ _
 |y::r,h=>by
  unfold b0t
  have h':=List.pairwise_cons.mp h
  split
  ·rename_i c
   refine List.pairwise_cons.mpr ⟨fun z hz=> ?_,a2N x h'.2⟩
   rcases Ag.mp ((a2i x r).mem_iff.mp hz) with e|e
   ·subst e;exact List.lt_asymm c
   ·exact h'.1 z e
  ·rename_i c
   refine List.pairwise_cons.mpr ⟨fun z hz=> ?_,h⟩
   rcases Ag.mp hz with e|e
   ·subst e;exact c
   ·exact a2l c (h'.1 z e)
theorem a1X:∀l:List Str,(a1W l).Pairwise leS
 |[]=>List.Pairwise.nil
 |x::r=>a2N x (a1X r)
theorem a23:∀{l m:List Str},l.Pairwise leS->m.Pairwise leS->l.Perm m->l=m
 |[],m,_,_,p=>(List.Perm.nil_eq p)
 |a::l,[],_,_,p=>by have:=p.length_eq;simp at this
 |a::l,b::m,hl,hm,p=>by
  have hl':=List.pairwise_cons.mp hl
  have hm':=List.pairwise_cons.mp hm
  have e:a=b:=by
   have m1:a∈b::m:=p.mem_iff.mp Al
   have m2:b∈a::l:=p.mem_iff.mpr Al
   rcases Ag.mp m1 with e|e
   ·exact e
   ·rcases Ag.mp m2 with g|g
    ·exact g.symm
    ·exact a7J (hl'.1 b g) (hm'.1 a e)
  subst e
  rw [a23 hl'.2 hm'.2 (List.Perm.cons_inv p)]
theorem a5S:∀{p:Str} {l:List Str},risingS p l=true->(p::l).Pairwise leS
 |p,[],_=>List.pairwise_singleton _ _
 |p,x::r,h=>by
  unfold risingS at h
  rw [Bool.and_eq_true] at h
  have ih:=a5S h.2
  have h1:leS p x:=by
   have:=h.1
   rw [ltCps_eq] at this
   unfold leS
   simpa using this
  refine List.pairwise_cons.mpr ⟨fun z hz=> ?_,ih⟩
  rcases Ag.mp hz with e|e
  ·subst e;exact h1
  ·exact a2l h1 ((List.pairwise_cons.mp ih).1 z e)
theorem a9l:∀{l:List Str},sortedS l=true->l.Pairwise leS
 |[],_=>List.Pairwise.nil
 |x::r,h=>a5S h
section
variable {prog:AL}{w:AJ}{A:AO}{E:AA->AC->Prop}{s:AC}
theorem a9o{l:AB}{T:String}{o:Obj}{vs:List AA}{n:Nat}{ss:List Str}{Q:AA->AC->Prop}(hT:T="list"\/T="tuple")(ho:s.heap.get? l=some o)(hc:o.cls= .type T)(hd:o.data= .seq vs.toArray n)(hS:StrsAre vs ss)(h64:vs.length<64)
 (h:∀(h1 h':Heap) (e:Nat) (us:List AA),(∀b o',s.heap.get? b=some o'->h1.get? b=some o')->(∀b o',h1.get? b=some o'->h'.get? b=some o')->StrsAre us (a1W ss)->h'.get? h1.objs.size=some (seqObj "list" us.toArray e)->Q (.ref h1.objs.size) {s with heap:=h'}):
 AG (model prog w) A (call (.builtin "sorted") [.ref l]) Q E s:=by
 refine Calls.call_function_entry kind_sorted plain_sorted entry_sorted (args_sorted1 _) ?_
 unfold Builtin.«sorted»
 refine AF (m:=checkCount "sorted" 1 1 _) (AQ ?_)
 refine AF (wpAny_collect_seq l hT ho hc hd (fun h1 k1=> ?_) (by rw [Ab,sizeLine_eq];lia))
 have ev:vs.toArray.toList=vs:=by simp
 rw [ev]
 refine AF (wpAny_newList ?_)
 have hoL:(h1.push (seqObj "list" vs.toArray 0)).get? h1.objs.size=some (seqObj "list" vs.toArray 0):=Aw _ rfl
 show AG _ _ _ _ _ {s with heap:=h1.push (seqObj "list" vs.toArray 0)}
 refine AF (wpAny_holding (wpAny_call_entry slot_list_sort ⟨_,hoL,rfl⟩ entry_list_sort (list_sort_treeK strKind_oneLt hoL hS.keysOf (fun v₁ v₂ B2 e=>keyKind_strs (by rw [<-e];exact hS)) h64 fun st' a1 a2=>⟨_,rfl, ?_⟩) (args_list_sort _)))
 obtain⟨ss',g1,g2,g3⟩:=sorted_out_str hS a1 a2
 have e1:ss'=a1W ss:=a23 (a9l g3) (a1X ss) (g2.trans (a1b ss).symm)
 subst e1
 obtain⟨e,he⟩:=sortedHeap_at (out:=(arrOf st').map (·.2)) hoL
 refine AQ ⟨_,rfl,h h1 _ e _ k1 (fun b o' hb1=> ?_) g1 (by rw [Array.toArray_toList];exact he)⟩
 have hlt:=AY hb1
 rw [sortedHeap_old (An hlt) (by rw [size_push'];exact Nat.lt_succ_of_lt hlt),Heap.get?_push_ne _ _ _ (An hlt)]
 exact hb1
end
theorem a5W:∀{us:List AA} {ss:List Str},StrsAre us ss->i4 (ss.map V.str) us
 |_,_,.nil=> .nil
 |_,_,.cons x t h=>by rw [AM];exact .cons ⟨t,rfl⟩ (a5W h)
theorem a8f:∀{us:List AA} {ss:List Str},StrsAre us ss->us.length=ss.length
 |_,_,.nil=>rfl
 |_,_,.cons x t h=>by rw [AT,AT,a8f h]
theorem a5R{K:AD}{H:Hp}:∀ss:List Str,g9 K H (ss.map PyData.str) (ss.map V.str)
 |[]=>rfl
 |x::r=>⟨_,_,rfl,rfl,a5R r⟩
def a6n(x:d7):Option d7:=match PyData.items? x.rd with
 |some ps=>(a2A ps).bind fun ss=>if ss.length<64 then some (.own ((a1W ss).map .str)) else none
 |none=>none
section
variable {X:Cx}
theorem b1o:E3 X (.builtin "sorted") (rC1 X.K a6n):=by
 intro pins s σ H xs us Q I rv h
 obtain⟨F,x,rx,rz,rfl,s0,h1,h2,k⟩:=h
 unfold a6n at h2
 split at h2
 ·rename_i ps e
  obtain⟨ss,e1,h2⟩:=bind_some h2
  split at h2
  ·rename_i c
   cases h2
   obtain⟨a,xs,rfl,hq,r⟩:=B6 s0 h1 e
   obtain⟨u,rfl,ru⟩:=a25 rv
   cases ru
   have fin:∀(its:List AA) (T:String) (o:Obj) (n:Nat),(T="list"\/T="tuple")->s.heap.get? a=some o->o.cls= .type T->o.data= .seq its.toArray n->i4 xs its->AG (model X.prog X.w) X.A (call (.builtin "sorted") [.ref a]) (EP X pins σ Q) X.xe s:=by
    intro its T o n hT ho hc hd rvv
    have hS:=a4Y e1 r rvv
    refine a9o hT ho hc hd hS (by rw [a8f hS];exact c) fun hp1 hp2 en us k1 k2 hs he=> ?_
    have I1:i2 X pins σ H {s with heap:=hp1}:=I.kept (t':=s.toks) k1
    have hlen:(a1W ss).length=ss.length:=(a1b ss).length_eq
    have hf:H hp1.objs.size=none:=I1.hok.fresh (AN _)
    refine⟨.ref hp1.objs.size,_,I1.laid (t':=s.toks) (h':=hp2) (o:= .lst ((a1W ss).map V.str)) k2 (AN _) ⟨by rw [AU,hlen,sizeLine_eq];lia,us,en,a5W hs,he⟩,rfl,k _ F _ (p8.lst s0 hf (a5R _))⟩
   rcases hq with hq|hq
   ·obtain⟨its,r',pl,hz⟩:=I.list hq
    obtain⟨o,ho,hc,n,hd⟩:=pl.isList
    exact fin its "list" o n (.inl rfl) ho hc hd r'
   ·obtain⟨its,r',⟨o,ho,hc,n,hd⟩,hz⟩:=I.tuple hq
    exact fin its "tuple" o n (.inr rfl) ho hc hd r'
  ·cases h2
 ·cases h2
end
section
variable {X:Cx}
end
section
variable {prog:AL}{w:AJ}{A:AO}{E:AA->AC->Prop}{s:AC}
theorem a1K{it t:AB}{i:Nat}{items}{x:AA}{Q:AA->AC->Prop}(hit:s.heap.IsTupleIter it t i)(ht:s.heap.IsTuple t items)(hx:items[i]?=some x)
 (hQ:∀h',h'.IsTupleIter it t (i+1)->Heap.SameBut it s.heap h'->Q x {s with heap:=h'}):AG (model prog w) A (Builtin.SmallTypes.nextOf (.ref it)) Q E s:=by
 obtain⟨o,ho,hc,hd⟩:=id hit
 obtain⟨ol,hol,_,nl,hdl⟩:=ht
 unfold Builtin.SmallTypes.nextOf
 refine AF (wpAny_callSpecial?_slot (name:=AI "__next__") hit.typeIs F.slot_tuple_iterator_next
  (wpAny_call_entry F.slot_tuple_iterator_next hit.typeIs F.entry_tuple_iterator_next ?_ (F.args_tuple_iterator_next_1 _)))
 show AG _ _ (field (.ref it) 0>>=_) _ _ s
 refine AF (wpAny_field ho hd (x:= .ref t) rfl ?_)
 show AG _ _ (if(Value.ref t==Value.none)=true then _ else _) _ _ s
 rw [if_neg (show ¬((Value.ref t==Value.none)=true) from As)]
 show AG _ _ (field (.ref it) 1>>=_) _ _ s
 refine AF (wpAny_field ho hd (x:= .int i 0) rfl ?_)
 show AG _ _ (seqItems? (.ref t)>>=_) _ _ s
 refine AF (wpAny_seqItems hol hdl ?_)
 simp only [BG,hx]
 refine AF (wpAny_setField ho hd (by simp) (AQ ⟨x,rfl,AQ (hQ _ ?_ (Heap.SameBut.update ..))⟩))
 exact⟨_,Heap.get?_update_self _ ho (Obj.isFreed_of_fields (Obj.data_mapFields hd _)),(Obj.cls_mapFields ..).trans hc,by
  rw [Obj.data_mapFields hd];simp [rawInt]⟩
theorem S4{it t:AB}{i:Nat}{items}{Q:AA->AC->Prop}(hh:A.handled=none)(hit:s.heap.IsTupleIter it t i)(ht:s.heap.IsTuple t items)(hx:items[i]?=none)
 (hE:∀h' e,Heap.ExtBut it s.heap h'->(∃o,h'.get? e=some o/\o.cls= .type "StopIteration")->E (.ref e) {s with heap:=h'}):AG (model prog w) A (Builtin.SmallTypes.nextOf (.ref it)) Q E s:=by
 obtain⟨o,ho,hc,hd⟩:=id hit
 obtain⟨ol,hol,_,nl,hdl⟩:=ht
 unfold Builtin.SmallTypes.nextOf
 refine AF (wpAny_callSpecial?_slot (name:=AI "__next__") hit.typeIs F.slot_tuple_iterator_next
  (wpAny_call_entry F.slot_tuple_iterator_next hit.typeIs F.entry_tuple_iterator_next ?_ (F.args_tuple_iterator_next_1 _)))
 show AG _ _ (field (.ref it) 0>>=_) _ _ s
 refine AF (wpAny_field ho hd (x:= .ref t) rfl ?_)
 show AG _ _ (if(Value.ref t==Value.none)=true then _ else _) _ _ s
 rw [if_neg (show ¬((Value.ref t==Value.none)=true) from As)]
 show AG _ _ (field (.ref it) 1>>=_) _ _ s
 refine AF (wpAny_field ho hd (x:= .int i 0) rfl ?_)
 show AG _ _ (seqItems? (.ref t)>>=_) _ _ s
 refine AF (wpAny_seqItems hol hdl ?_)
 simp only [BG,hx]
 refine AF (wpAny_rule (AF (wpAny_setField ho hd (by simp) ?_)))
 show AG _ _ (newExc (.type "StopIteration") []>>=_) _ _ _
 refine AF ?_
 simp only [newExc,newTuple]
 refine AF (wpAny_newObj_type ?_ (by size_fits))
 refine AF (m:=firstArgMember _ _) (wpAny_of_eq (a:=Value.none) (by first|rfl|(simp only [firstArgMember];rfl)) ?_)
 refine wpAny_newObj_type ?_ (by size_fits)
 simp only [raiseNew]
 refine AF (wpAny_handled ?_)
 first|rw [show A.in1.handled=none from hh]|rw [hh]
 refine AF (AQ (wpAny_throw ?_))
 exact hE _ _ (((Heap.SameBut.update ..).extBut.push _).push _) ⟨_,Aw _ rfl,rfl⟩
end
theorem a7s{prog:AL}{w:AJ}{A:AO}(hh:A.handled=none)(it l:AB)(hne:l≠it)(items:Array AA):
 Draws prog w A it [it,l] items.size (fun i v=>items[i]?=some v) (fun i h=>h.IsTupleIter it l i/\h.IsTuple l items) where
 live:=fun _ _ st=>let ⟨o,ho,_⟩:=st.1;⟨o,ho⟩
 frame:=fun _ _ _ st hk=>⟨st.1.at fun o e=>hk it (by simp) o e,let ⟨o,e,r⟩:=st.2;⟨o,hk l (by simp) o e,r⟩⟩
 item:=fun i s Q E hi st hQ=>by
  refine a1K st.1 st.2 (x:=items[i]) (by simp [hi]) fun h' hit' hs'=> ?_
  exact hQ _ h' s.toks (by simp [hi]) ⟨hit',let ⟨o,e,r⟩:=st.2;⟨o,(hs'.2 l hne).trans e,r⟩⟩ hs'
 done:=fun s Q E st hE=>S4 hh st.1 st.2 (by simp) hE
theorem Y7(l:AB)(items:Array AA)(n:Nat)(dct:Option AB)(sl:Array (Option AA)):
 Meets (Builtin.«enumerate.__new__» ⟨[.type "enumerate",.ref l],[]⟩) (fun _ R s=>s.heap.get? l=some {cls:= .type "tuple",dict:=dct,data:= .seq items n,slots:=sl}/\
  R (.ok (.ret (.ref (s.heap.push {cls:= .type "tuple_iterator",data:= .fields #[.ref l,.int 0 0]}).objs.size)))
   {s with heap:=(s.heap.push {cls:= .type "tuple_iterator",data:= .fields #[.ref l,.int 0 0]}).push {cls:= .type "enumerate",data:= .fields #[.none,.bool false,.ref s.heap.objs.size,rawInt 0,.none,.none]}}):=
 .of_wp fun prog w A R s h=>by
  obtain⟨hp,g,d,tk,os⟩:=s;obtain⟨hl,h⟩:=h
  have hsub:=sub_enumerate
  have hL:Heap.IsTuple (Shared.heap ⟨hp,g,d,tk,os⟩) l items:=⟨_,hl,rfl,n,rfl⟩
  wp_walk using AutoSeq1.wpAny_loadPart' hl
  refine wpAny_stack_any fun st=>AQ ?_
  split
  ·rename_i c _ _ _ _ _
   cases(c==Value.type "enumerate")
   ·wp_walk using AutoSeq1.wpAny_loadPart' hl,wpAny_pyIter_tuple hL
    exact⟨_,rfl,h⟩
   ·wp_walk using AutoSeq1.wpAny_loadPart' hl,wpAny_pyIter_tuple hL
    exact⟨_,rfl,h⟩
  ·wp_walk using AutoSeq1.wpAny_loadPart' hl,wpAny_pyIter_tuple hL
   exact⟨_,rfl,h⟩
section
variable {prog:AL}{w:AJ}{A:AO}{E:AA->AC->Prop}{s:AC}
theorem X5{l:AB}{items:Array AA}{Q:AA->AC->Prop}(hL:s.heap.IsTuple l items)
 (h:∀h',IsEnum h' (s.heap.objs.size+1) s.heap.objs.size 0 .none->h'.IsTupleIter s.heap.objs.size l 0->h'.objs.size=s.heap.objs.size+2->
  (∀b o,s.heap.get? b=some o->h'.get? b=some o)->Q (.ref (s.heap.objs.size+1)) {s with heap:=h'}):
 AG (model prog w) A (call (.type "enumerate") [.ref l]) Q E s:=by
 obtain⟨⟨c,dct,dt,sl⟩,hl,hc,n,hd⟩:=hL
 replace hc:c= .type "tuple":=hc
 replace hd:dt= .seq items n:=hd
 subst hc hd
 refine callType_new F.called_enumerate (by decide) (F.typeCall_enumerate_1 _) (F.newCall_enumerate_1 _) (fun obj=>F.args_object_init_2 obj _) F.entry_enumerate_new
  (Y7 l items n dct sl) ⟨hl, ?_⟩
 have hz:(s.heap.push {cls:= .type "tuple_iterator",data:= .fields #[.ref l,.int 0 0]}).objs.size=s.heap.objs.size+1:=Heap.size_push ..
 show _/\_
 rw [hz]
 have he:IsEnum ((s.heap.push {cls:= .type "tuple_iterator",data:= .fields #[.ref l,.int 0 0]}).push
  {cls:= .type "enumerate",data:= .fields #[.none,.bool false,.ref s.heap.objs.size,rawInt 0,.none,.none]}) (s.heap.objs.size+1) s.heap.objs.size 0 .none:=by
  have:=Aw (s.heap.push {cls:= .type "tuple_iterator",data:= .fields #[.ref l,.int 0 0]})
   (o:={cls:= .type "enumerate",data:= .fields #[.none,.bool false,.ref s.heap.objs.size,rawInt 0,.none,.none]}) rfl
  rw [hz] at this;exact this
 refine⟨⟨_,he,rfl⟩,h _ he ⟨_,Ae _ (Aw _ rfl),rfl,rfl⟩ (by rw [Heap.size_push,hz]) fun b o x=>Ae _ (Ae _ x)⟩
end
theorem i2.turnedTup{X:Cx}{pins:List (AB×Obj)}{σ:L2.St}{H:Hp}{s:AC}{h':Heap}{t':Nat}{e it:AB}{xs:List V}(I:i2 X pins σ H s)(fe:a10 X pins H e)(fi:a10 X pins H it)
 (k:∀b o,b≠e->b≠it->s.heap.get? b=some o->h'.get? b=some o) (new:v7 X.prog X.w (upd H s.heap.objs.size (.tup xs)) h' s.heap.objs.size (.tup xs)):
 i2 X pins σ (upd H s.heap.objs.size (.tup xs)) {s with heap:=h',toks:=t'}:=by
 have hn:H s.heap.objs.size=none:=I.hok.fresh (AN _)
 have nb:∀b u,H b=some u->b≠e/\b≠it:=fun b u q=>⟨fun z=>(by rw [z,fe.1] at q;cases q),fun z=>(by rw [z,fi.1] at q;cases q)⟩
 refine I.step (g':=s.gens) (d':=s.drawn) (ch:=[e,it]) (fun b hb=> ?_) (fun b o _ _ hc q _=>k b o (fun z=>hc (by simp [z])) (fun z=>hc (by simp [z])) q) (fun b o _ _ hc q _=>⟨o.slots,k b o (fun z=>hc (by simp [z])) (fun z=>hc (by simp [z])) q⟩)
  (fun b o _ q n=>by rw [g5 (An (AY q))];exact n) (fun b o hc q=>⟨o,k b o (fun z=>hc (by simp [z])) (fun z=>hc (by simp [z])) q⟩)
  (fun b xs q=>by rw [g5 (g6 q hn)];exact q) (fun b o u q=>by rw [g5 (g6 q hn)];exact q) (fun b ps q=>⟨#[],by rw [g5 (g6 q hn),q];simp⟩) (fun m hm=> ?_) (fun b u q=> ?_) I.bare
 ·have hb:b=e\/b=it:=by simpa using hb
  rcases hb with rfl|rfl
  ·exact⟨fe.2.2.2.1,fe.2.1,fe.2.2.2.2.1,fe.2.2.2.2.2⟩
  ·exact⟨fi.2.2.2.1,fi.2.1,fi.2.2.2.2.1,fi.2.2.2.2.2⟩
 ·obtain⟨o,es,ep,ho,r⟩:=hm
  exact⟨o,es,ep,k _ o (Ne.symm fe.2.1) (Ne.symm fi.2.1) ho,r⟩
 ·by_cases hb:b=s.heap.objs.size
  ·subst hb
   rw [i7] at q
   cases q
   exact new
  ·rw [g5 hb] at q
   refine(I.hok b u q).stay (fun c v hc y=>k c v ?_ ?_ y) (fun c y=>by rw [g5 (g6 y hn)];exact y) fun c ys y=>by rw [g5 (g6 y hn)];exact y
   ·rcases hc with z|z
    ·rw [z];exact(nb b u q).1
    ·exact(nb c _ z).1
   ·rcases hc with z|z
    ·rw [z];exact(nb b u q).2
    ·exact(nb c _ z).2
def Ite(J:It):It:=⟨J.go,fun i H v H'=>∃x t,J.yld i H x H/\H t=none/\v= .ref t/\H'=upd H t (.tup [.int i,x]),J.stop⟩
structure a66(P:AL)(w:AJ)(K:AD)(J:It)(it:AB)(tn:Nat->Heap->Prop):Prop where
 obj:∀i h,tn i h->∃o,h.get? it=some o/\∀v,o.data≠.cell v
 keep:∀i h h',tn i h->(∀o,h.get? it=some o->h'.get? it=some o)->tn i h'
 item:∀(X:Cx),X.prog=P->X.w=w->X.K=K->X.calm=true->∀(i:Nat) (pins:List (AB×Obj)) (s:AC) (σ:L2.St) (H:Hp),i2 X pins σ H s->a10 X pins H it->tn i s.heap->J.go i H->
  ∃(fp:List AB) (n:Nat) (Pq:Nat->AA->Prop) (St:Nat->Heap->Prop),Draws P w X.A.in1 it fp n Pq St/\St i s.heap/\i<n/\(∀e old,e≠it->IsEnum s.heap e it i old->e∉fp)/\(∀v,Pq i v->∃x,l6 x v/\J.yld i H x H)/\∀h',St (i+1) h'->tn (i+1) h'
 done:∀(X:Cx),X.prog=P->X.w=w->X.K=K->X.calm=true->∀(i:Nat) (pins:List (AB×Obj)) (s:AC) (σ:L2.St) (H:Hp),i2 X pins σ H s->a10 X pins H it->tn i s.heap->J.stop i H->
   ∃(fp:List AB) (n:Nat) (Pq:Nat->AA->Prop) (St:Nat->Heap->Prop),Draws P w X.A.in1 it fp n Pq St/\St n s.heap
theorem b00{P:AL}{w:AJ}{K:AD}{J:It}{e it:AB}{tn:Nat->Heap->Prop}{elts:List AE}{x1}{pos:Pos}(D:a66 P w K J it tn)(hne:e≠it):
 b0f P w K (.Tuple elts x1 pos) (Ite J) [e,it] e (fun i h=>(∃old,IsEnum h e it i old)/\tn i h) where
 mem:=by simp
 obj:=fun i h ⟨⟨old,he⟩,st⟩ b hb=>by
  have hb:b=e\/b=it:=by simpa using hb
  rcases hb with rfl|rfl
  ·exact⟨_,he,fun v z=>by cases z⟩
  ·exact D.obj i h st
 keep:=fun i h h' ⟨⟨old,he⟩,st⟩ k=>⟨⟨old,k e (by simp) _ he⟩,D.keep i h h' st fun o q=>k it (by simp) o q⟩
 item:=by
  intro X hP hw hK hc i pins s σ H E I hf ⟨⟨old,he⟩,st⟩ hg
  have fe:=hf e (by simp)
  have fi:=hf it (by simp)
  obtain⟨fp,n,Pq,St,DD,hst,hlt,hef,hy,hnx⟩:=D.item X hP hw hK hc i pins s σ H I fi st hg
  subst hP hw hK
  refine wpAny_pyNext_enum_itemD DD he hst hlt hne (hef e old hne he) fun u h' tk hPu hout hst' htup hsz hk=>⟨_,rfl, ?_⟩
  obtain⟨x,rx,yx⟩:=hy u hPu
  refine wpAny_letOwnedTupleGo_enum hout fun h2 he2 hs2=> ?_
  have helt:e<s.heap.objs.size:=AY he
  have hilt:it<s.heap.objs.size:=by obtain⟨o,q,_⟩:=D.obj i _ st;exact AY q
  have htup2:h2.get? s.heap.objs.size=some {cls:= .type "tuple",data:= .seq #[.int i tk,u]}:=(hs2.2 _ (Nat.ne_of_gt helt)).trans htup
  have I2:i2 X pins σ (upd H s.heap.objs.size (.tup [.int i,x])) {s with heap:=h2,toks:=tk+1}:=by
   refine i2.turnedTup I fe fi (fun b o hbe hbi q=>(hs2.2 b hbe).trans (hk b o hbe hbi q)) ?_
   exact⟨by rw [sizeLine_eq];simp,[.int i tk,u],.cons ⟨tk,rfl⟩ (.cons rx .nil),⟨_,htup2,rfl,0,rfl⟩⟩
  refine⟨.ref s.heap.objs.size,_,I2,rfl,⟨x,s.heap.objs.size,yx,I.hok.fresh (AN _),rfl,rfl⟩,⟨⟨_,by simpa using he2⟩,D.keep _ _ _ (hnx h' hst') fun o q=>(hs2.2 it (Ne.symm hne)).trans q⟩,fun b hb=> ?_⟩
  have hb:b=e\/b=it:=by simpa using hb
  rcases hb with rfl|rfl
  ·rw [g5 (An helt)];exact fe.1
  ·rw [g5 (An hilt)];exact fi.1
 done:=by
   intro X hP hw hK hc i pins s σ H E I hf ⟨⟨old,he⟩,st⟩ hg
   have fi:=hf it (by simp)
   obtain⟨fp,n,Pq,St,DD,hst⟩:=D.done X hP hw hK hc i pins s σ H I fi st hg
   subst hP hw hK
   exact wpAny_pyNext_enum_endD DD he hst fun h' eb=>⟨rfl,I.turned (t':=s.toks) (fun b o hb q=>eb b o hb q) fi.1 fi.2.1 fi.2.2.2.1 fi.2.2.2.2.1 fi.2.2.2.2.2⟩
 self:=fun _ _ _ _ _ ⟨⟨_,he⟩,_⟩ h=>wpAny_pyIter_enum he h
theorem a18{prog:AL}{w:AJ}{A:AO}{it:AB}{fp:List AB}{i:Nat}{S0:Heap->Prop}(lv:∀h,S0 h->∃o,h.get? it=some o)(fr:∀h h',S0 h->(∀b∈fp,∀o,h.get? b=some o->h'.get? b=some o)->S0 h')
 (en:∀(s:AC) (Q:AA->AC->Prop) (E:AA->AC->Prop),S0 s.heap->(∀h' e,Heap.ExtBut it s.heap h'->(∃o,h'.get? e=some o/\o.cls= .type "StopIteration")->E (.ref e) {s with heap:=h'})->AG (model prog w) A (Builtin.SmallTypes.nextOf (.ref it)) Q E s):
 Draws prog w A it fp i (fun _ _=>True) (fun k h=>k=i/\S0 h) where
 live:=fun _ h st=>lv h st.2
 frame:=fun _ h h' st k=>⟨st.1,fr h h' st.2 k⟩
 item:=fun k s Q E hk st _=>by have:=st.1;lia
 done:=fun s Q E st hE=>en s Q E st.2 hE
theorem a7v{P:AL}{w:AJ}{K:AD}(a it:AB):a66 P w K (Itt K a) it (fun i h=>h.IsTupleIter it a i) where
 obj:=fun i h st=>by
  obtain⟨o,e,c,d⟩:=st
  exact⟨o,e,fun v z=>by rw [d] at z;cases z⟩
 keep:=fun i h h' st k=>st.at fun o e=>k o e
 item:=by
  intro X hP hw hK hc i pins s σ H I fi st hg
  subst hP hw hK
  obtain⟨xs,x,hq,hx⟩:=hg
  obtain⟨its,rv,p,hz⟩:=I.tuple hq
  obtain⟨u,hu,ru⟩:=rv.get hx
  have p':s.heap.IsTuple a its.toArray:=p
  have hai:a≠it:=fun z=>by
   subst z
   obtain⟨o,e,c,_⟩:=p'
   obtain⟨o2,e2,c2,_⟩:=st
   rw [e] at e2;cases e2;rw [c] at c2
   injection c2 with c2
   exact absurd c2 (by decide)
  refine⟨_,_,_,_,a7s (prog:=X.prog) (w:=X.w) (A:=X.A.in1) (show X.A.in1.handled=none from I.ok.hd hc) it a hai its.toArray,⟨st,p'⟩, ?_,fun e old hne he hm=> ?_,fun v hv=> ?_,fun h' z=>z.1⟩
  ·have:=(Ar.mp hu).1
   simpa using this
  ·have hm:e=it\/e=a:=by simpa using hm
   rcases hm with rfl|rfl
   ·exact hne rfl
   ·obtain⟨o,q,c,_⟩:=p'
    rw [he] at q;cases q
    injection c with c
    exact absurd c (by decide)
  ·have hv:its[i]?=some v:=by simpa using hv
   rw [hu] at hv;cases hv
   exact⟨x,ru,rfl,fun ys hy=>by rw [I.tuple_inj hy hq];exact hx⟩
 done:=by
   intro X hP hw hK hc i pins s σ H I fi st hg
   subst hP hw hK
   obtain⟨xs,hq,hx⟩:=hg
   obtain⟨its,rv,p,hz⟩:=I.tuple hq
   have p':s.heap.IsTuple a its.toArray:=p
   have hl:=rv.length
   exact⟨_,_,_,_,a18 (prog:=X.prog) (w:=X.w) (A:=X.A.in1) (it:=it) (fp:=[it,a]) (i:=i) (S0:=fun h=>h.IsTupleIter it a i/\h.IsTuple a its.toArray) (fun h z=>let ⟨o,ho,_⟩:=z.1;⟨o,ho⟩)
    (fun h h' z k=>⟨z.1.at fun o e=>k it (by simp) o e,let ⟨o,e,r⟩:=z.2;⟨o,k a (by simp) o e,r⟩⟩)
    (fun s Q E z hE=>S4 (show X.A.in1.handled=none from I.ok.hd hc) z.1 z.2 (by simp;lia) hE),rfl,st,p'⟩
theorem a8F{P:AL}{w:AJ}{K:AD}(a it:AB):a66 P w K (Itl K a) it (fun i h=>h.IsListIter it a i) where
 obj:=fun i h st=>by
  obtain⟨o,e,c,d⟩:=st
  exact⟨o,e,fun v z=>by rw [d] at z;cases z⟩
 keep:=fun i h h' st k=>st.at fun o e=>k o e
 item:=by
  intro X hP hw hK hc i pins s σ H I fi st hg
  subst hP hw hK
  obtain⟨xs,x,hq,hx⟩:=hg
  obtain⟨its,rv,p,hz⟩:=I.list hq
  obtain⟨u,hu,ru⟩:=rv.get hx
  have p':s.heap.IsList a its.toArray:=p.isList
  have hai:a≠it:=fun z=>by
   subst z
   obtain⟨o,e,c,_⟩:=p'
   obtain⟨o2,e2,c2,_⟩:=st
   rw [e] at e2;cases e2;rw [c] at c2
   injection c2 with c2
   exact absurd c2 (by decide)
  refine⟨_,_,_,_,Draws.list (prog:=X.prog) (w:=X.w) (A:=X.A.in1) (show X.A.in1.handled=none from I.ok.hd hc) it a hai its.toArray,⟨st,p'⟩, ?_,fun e old hne he hm=> ?_,fun v hv=> ?_,fun h' z=>z.1⟩
  ·have:=(Ar.mp hu).1
   simpa using this
  ·have hm:e=it\/e=a:=by simpa using hm
   rcases hm with rfl|rfl
   ·exact hne rfl
   ·obtain⟨o,q,c,_⟩:=p'
    rw [he] at q;cases q
    injection c with c
    exact absurd c (by decide)
  ·have hv:its[i]?=some v:=by simpa using hv
   rw [hu] at hv;cases hv
   exact⟨x,ru,rfl,fun ys hy=>by rw [I.list_inj hy hq];exact hx⟩
 done:=by
   intro X hP hw hK hc i pins s σ H I fi st hg
   subst hP hw hK
   obtain⟨xs,hq,hx⟩:=hg
   obtain⟨its,rv,p,hz⟩:=I.list hq
   have p':s.heap.IsList a its.toArray:=p.isList
   have hl:=rv.length
   exact⟨_,_,_,_,a18 (prog:=X.prog) (w:=X.w) (A:=X.A.in1) (it:=it) (fp:=[it,a]) (i:=i) (S0:=fun h=>h.IsListIter it a i/\h.IsList a its.toArray) (fun h z=>let ⟨o,ho,_⟩:=z.1;⟨o,ho⟩)
    (fun h h' z k=>⟨z.1.at fun o e=>k it (by simp) o e,z.2.at fun o e=>k a (by simp) o e⟩)
    (fun s Q E z hE=>wpAny_nextOf_list_end (show X.A.in1.handled=none from I.ok.hd hc) z.1 z.2 (by simp;lia) hE),rfl,st,p'⟩
theorem b0o{P:AL}{w:AJ}{K:AD}(it:AB)(x:Str)(t:Tok):a66 P w K (Its x) it (fun i h=>h.IsStrIter it (strIterType x) x t i) where
 obj:=fun i h st=>by
  obtain⟨o,e,c,d⟩:=st
  exact⟨o,e,fun v z=>by rw [d] at z;cases z⟩
 keep:=fun i h h' st k=>let ⟨o,e,r⟩:=st;⟨o,k o e,r⟩
 item:=by
  intro X hP hw hK hc i pins s σ H I fi st hg
  subst hP hw hK
  have hg:i<x.cps.size:=hg
  have yl:∀v,(∃c u,x.cps[i]?=some c/\v=Value.str ⟨#[c]⟩ u)->∃y,l6 y v/\(Its x).yld i H y H:=fun v ⟨c,u,h1,h2⟩=>⟨.str ⟨#[c]⟩,⟨u,h2⟩,rfl,c,h1,rfl⟩
  cases ha:x.cps.all (· <128) with
  |true=>
   have et:strIterType x="str_ascii_iterator":=by simp [strIterType,ha]
   rw [et] at st ⊢
   exact⟨_,_,_,_,Draws.strAscii (prog:=X.prog) (w:=X.w) (A:=X.A.in1) (show X.A.in1.handled=none from I.ok.hd hc) it x t,st,hg,fun e old hne he hm=>hne (by simpa using hm),yl,fun h' z=>z⟩
  |false=>
   have et:strIterType x="str_iterator":=by simp [strIterType,ha]
   rw [et] at st ⊢
   exact⟨_,_,_,_,Draws.strWide (prog:=X.prog) (w:=X.w) (A:=X.A.in1) (show X.A.in1.handled=none from I.ok.hd hc) it x t,st,hg,fun e old hne he hm=>hne (by simpa using hm),yl,fun h' z=>z⟩
 done:=by
   intro X hP hw hK hc i pins s σ H I fi st hg
   subst hP hw hK
   have hg:x.cps.size<=i:=hg
   have hx:x.cps[i]?=none:=by simp [hg]
   refine⟨_,_,_,_,a18 (prog:=X.prog) (w:=X.w) (A:=X.A.in1) (it:=it) (fp:=[it]) (i:=i) (S0:=fun h=>h.IsStrIter it (strIterType x) x t i) (fun h z=>let ⟨o,ho,_⟩:=z;⟨o,ho⟩)
    (fun h h' z k=>let ⟨o,e,r⟩:=z;⟨o,k it (by simp) o e,r⟩) (fun s Q E z hE=> ?_),rfl,st⟩
   cases ha:x.cps.all (· <128) with
   |true=>
    have et:strIterType x="str_ascii_iterator":=by simp [strIterType,ha]
    rw [et] at z
    exact wpAny_nextOf_ascii_end (show X.A.in1.handled=none from I.ok.hd hc) z hx hE
   |false=>
    have et:strIterType x="str_iterator":=by simp [strIterType,ha]
    rw [et] at z
    exact wpAny_nextOf_wide_end (show X.A.in1.handled=none from I.ok.hd hc) z hx hE
theorem a3K:bootBuiltins "enumerate"=some (.type "enumerate"):=by decide+kernel
section
variable {X:Cx}
def iEn(K:AD)(ta:TA):TI:=fun σ H R=>ta σ H fun vs H1=>(∃a xs,vs=[.ref a]/\V5 K H1 a xs/\R (Ite (Itt K a)) H1)\/(∃a xs,vs=[.ref a]/\M2 K H1 a xs/\R (Ite (Itl K a)) H1)\/∃z,vs=[.str z]/\R (Ite (Its z)) H1
theorem b1E{tg:AE}{pins:List (AB×Obj)}{σ:L2.St}{H:Hp}{s:AC}{R:It->Hp->Prop}{E:AA->AC->Prop}{J:It}{h':Heap}{tn:Nat->Heap->Prop}{elts:List AE}{x1}{tpos:Pos}(htg:tg= .Tuple elts x1 tpos)(I:i2 X pins σ H s)(D:a66 X.prog X.w X.K J s.heap.objs.size tn)
 (he:IsEnum h' (s.heap.objs.size+1) s.heap.objs.size 0 .none) (st:tn 0 h') (hk:∀b o,s.heap.get? b=some o->h'.get? b=some o) (q:R (Ite J) H):
 AG (model X.prog X.w) X.A (pyIter (.ref (s.heap.objs.size+1))) (PIE X pins σ tg R) E {s with heap:=h'}:=by
 subst htg
 refine wpAny_pyIter_enum (s:={s with heap:=h'}) he ?_
 refine⟨s.heap.objs.size+1,[s.heap.objs.size+1,s.heap.objs.size],_,_,H,rfl,I.kept (t':=s.toks) hk,b00 D (Nat.succ_ne_self _),⟨⟨_,he⟩,st⟩,fun b hb=> ?_,q⟩
 have hb:b=s.heap.objs.size+1\/b=s.heap.objs.size:=by simpa using hb
 rcases hb with rfl|rfl
 ·exact I.fpOk (Nat.le_succ _) (I.hok.fresh (Nat.le_succ _))
 ·exact I.fpOk (AN _) (I.hok.fresh (AN _))
theorem b4J{a:AE}{ta:TA}{p pos tpos:Pos}{elts:List AE}{x1}(hg:Gl X "enumerate")(hm:X.mg "enumerate"=none)(ha:PA X [a] ta)(hs:AX [a] X.env=[(false,eval a X.env)]:=by rfl):
 PI X (.Tuple elts x1 tpos) (.Call (.Name "enumerate" p) [a] [] pos) (iEn X.K ta):=by
 intro pins s σ H R I h
 refine Call_ (a6w I hg hm a3K (PyProof.Rows.callWith_type1 (B8 (ha pos pins s σ H _ I h) fun us s1 ⟨vs,H1,I1,r1,q1⟩=> ?_) hs rfl))
 rcases q1 with⟨b,xs,rfl,hq,q⟩|⟨b,xs,rfl,hq,q⟩|⟨z,rfl,q⟩
 ·cases r1 with
  |cons r rr=>
   cases rr
   cases r
   obtain⟨its,rv,p',hz⟩:=I1.tuple hq
   exact X5 (show s1.heap.IsTuple b its.toArray from p') fun h' he hit hsz hk=>b1E rfl I1 (a7v b _) he hit hk q
 ·cases r1 with
  |cons r rr=>
   cases rr
   cases r
   obtain⟨its,rv,p',hz⟩:=I1.list hq
   exact call_enumerate_list p'.isList fun h' he hit hsz hk=>b1E rfl I1 (a8F b _) he hit hk q
 ·cases r1 with
  |cons r rr=>
   cases rr
   obtain⟨t,rfl⟩:=r
   exact call_enumerate_str fun h' he hit hsz hk=>b1E rfl I1 (b0o _ z t) he hit hk q
def J2(ps:List PV):List PV:=ps.zipIdx.map fun q=> .tuple [.int ((q.2:Nat):Int),q.1]
theorem a5t(ps:List PV)(k:Nat):(J2 ps)[k]?=ps[k]?.map fun p=> .tuple [.int ((k:Nat):Int),p]:=by
 unfold J2
 rw [Aq,List.getElem?_zipIdx]
 cases ps[k]? with
 |none=>rfl
 |some p=>simp
theorem a5u(ps:List PV):(J2 ps).length=ps.length:=by unfold J2;simp
def b19(p:PV):Option (List PV):=match p with
 | .str z=>some (z.cps.toList.map fun c=> .str ⟨#[c]⟩)
 |p=>PyData.items? p
def b2l(m:MA):MI:=fun ρ=>(m ρ).bind fun as=>match as with
 |[p]=>(b19 p).map J2
 |_=>none
theorem a8S{K:AD}{F0 H0 F1:Hp}{body:MS}{tg:PV->a8->Option a8}{g:TG}{ps:List PV}{fl:Fl}{D:L4}{k:Nat}{p:PV}{x:V}{t:AB}{σ:L2.St}{H:Hp}(T:a7c K g tg)(fin:Fin K F0 H0 F1 D fl)(ep:ps[k]?=some p)
 (hp:PvL K F0 H0 F1 body tg (J2 ps) fl k σ H) (hn:H t=none) (rx:v6 K F1 p x):
 g (.ref t) σ (upd H t (.tup [.int k,x])) fun σ2 H2=>tMS K body {D with nx:=PvL K F0 H0 F1 body tg (J2 ps) fl (k+1),ct:=PvL K F0 H0 F1 body tg (J2 ps) fl (k+1),bk:=D.nx} σ2 H2:=by
 obtain⟨F,ρ,s,so,e⟩:=hp
 have eq:(J2 ps)[k]?=some (.tuple [.int ((k:Nat):Int),p]):=by rw [a5t,ep];rfl
 have hk:k<(J2 ps).length:=(Ar.mp eq).1
 have hd:(J2 ps).drop k= .tuple [.int ((k:Nat):Int),p]::(J2 ps).drop (k+1):=by
  rw [List.drop_eq_getElem_cons hk]
  congr 1
  exact(Ar.mp eq).2
 rw [hd] at e
 obtain⟨ρ1,f1,e1,e2,e3⟩:=a5v e
 have xl:K0 F H (upd F t (.tup [.int k,x])) (upd H t (.tup [.int k,x])):=K0.lay so.e.fh hn
 have up:j5 F1 (upd F t (.tup [.int k,x])):=s.trans xl.f
 refine T F0 H0 _ _ σ ρ ρ1 _ (.ref t) _ (so.ext xl) (show v6 K (upd F t (.tup [.int k,x])) (.tuple [.int ((k:Nat):Int),p]) (.ref t) from⟨t,[.int k,x],rfl,TqT.of i7,⟨_,_,rfl,rfl,⟨_,_,rfl,v6.mono up _ rx,rfl⟩⟩⟩) e1 fun σ' so'=>⟨F0,H0,_,ρ1,f1,so',e2, ?_⟩
 cases f1 with
 |nx ρ'=>exact fun σ2 F2 H2 s2 so2=>⟨F2,ρ',up.trans s2,so2,e3⟩
 |ct ρ'=>exact fun σ2 F2 H2 s2 so2=>⟨F2,ρ',up.trans s2,so2,e3⟩
 |bk ρ'=>cases e3;exact fun σ2 F2 H2 s2 so2=>fin σ2 F2 H2 (up.trans s2) so2
 |rt r=>cases e3;exact fin
theorem b1L{K:AD}{F0 H0 F1:Hp}{body:MS}{tg:PV->a8->Option a8}{g:TG}{ps:List PV}{fl:Fl}{D:L4}{σ:L2.St}{H:Hp}{J:It}(S:b0e K F1 J ps)(T:a7c K g tg)(fin:Fin K F0 H0 F1 D fl)(h0:PvL K F0 H0 F1 body tg (J2 ps) fl 0 σ H):
 ∃W:Nat->Nat->L2.St->Hp->Prop,(∃m,W 0 m σ H)/\∀i m σ H,W i m σ H->
  ((Ite J).stop i H/\D.nx σ H)\/((Ite J).go i H/\∃N:L2.St->Hp->Prop,(∀σ' H',N σ' H'->∃m',m'<m/\W (i+1) m' σ' H')/\∀x H',(Ite J).yld i H x H'->g x σ H' fun σ2 H2=>tMS K body {D with nx:=N,ct:=N,bk:=D.nx} σ2 H2):=by
 refine⟨fun i m σ H=>m=ps.length - i/\i<=ps.length/\PvL K F0 H0 F1 body tg (J2 ps) fl i σ H,⟨ps.length,by simp,Nat.zero_le _,h0⟩, ?_⟩
 rintro i m σ H ⟨rfl,hi,pv⟩
 have sm:j5 F1 H:=let ⟨_,_,s,so,_⟩:=pv;s.trans so.e.fh
 by_cases hlt:i<ps.length
 ·have ep:ps[i]?=some ps[i]:=by simp [hlt]
  refine .inr ⟨S.go i _ H sm ep,PvL K F0 H0 F1 body tg (J2 ps) fl (i+1),fun σ' H' p'=>⟨ps.length - (i+1),by lia,rfl,hlt,p'⟩,fun v H' y=> ?_⟩
  obtain⟨x,t,yx,hn,rfl,rfl⟩:=y
  exact a8S T fin ep pv hn (S.yd i _ x H H sm ep yx).2
 ·have ei:i=ps.length:=by lia
  refine .inl ⟨S.st i H sm (by lia), ?_⟩
  rw [ei,<-a5u ps] at pv
  exact a1F fin pv
theorem b3e{F1:Hp}{a:AB}{xs:List V}{ps:List PV}(hq:V5 X.K F1 a xs)(rl:g9 X.K F1 ps xs):b0e X.K F1 (Itt X.K a) ps:=by
 have hlen:=rl.length
 refine⟨fun i H2 s h=>⟨xs,o5 s hq,by lia⟩,fun i p H2 s h=> ?_,fun i p x H2 H3 s h y=> ?_⟩
 ·obtain⟨v,ev,_⟩:=rl.get h
  exact⟨xs,v,o5 s hq,ev⟩
 ·obtain⟨e,y⟩:=y
  have:=y xs (o5 s hq)
  obtain⟨v,ev,rv⟩:=rl.get h
  rw [this] at ev;cases ev
  exact⟨e,rv⟩
theorem b3c{F1:Hp}{a:AB}{xs:List V}{ps:List PV}(hq:M2 X.K F1 a xs)(rl:g9 X.K F1 ps xs):b0e X.K F1 (Itl X.K a) ps:=by
 have hlen:=rl.length
 refine⟨fun i H2 s h=>⟨xs,u4 s hq,by lia⟩,fun i p H2 s h=> ?_,fun i p x H2 H3 s h y=> ?_⟩
 ·obtain⟨v,ev,_⟩:=rl.get h
  exact⟨xs,v,u4 s hq,ev⟩
 ·obtain⟨e,y⟩:=y
  have:=y xs (u4 s hq)
  obtain⟨v,ev,rv⟩:=rl.get h
  rw [this] at ev;cases ev
  exact⟨e,rv⟩
theorem b3d{F1:Hp}(z:Str):b0e X.K F1 (Its z) (z.cps.toList.map fun c=> .str ⟨#[c]⟩):=by
 refine⟨fun i H2 s h=> ?_,fun i p H2 s h=> ?_,fun i p x H2 H3 s h y=> ?_⟩
 ·have h:z.cps.size<=i:=by simpa using h
  exact h
 ·have:=(Ar.mp h).1
  have h:i<z.cps.size:=by simpa using this
  exact h
 ·obtain⟨e,c,hc,rfl⟩:=y
  refine⟨e, ?_⟩
  rw [Aq,Array.getElem?_toList,hc] at h
  cases h
  rfl
theorem b3U{a:AE}{body:List Stmt}{m:MA}{g:TG}{t:PV->a8->Option a8}{b:MS}{p rp pos tpos:Pos}{elts:List AE}{x1}(hp:PassesOwn (model X.prog X.w) X.A X.env X.xe)(hc:X.calm=true)(hgl:Gl X "enumerate")(hm:X.mg "enumerate"=none)(ha:EA X [a] m)(hg:PG X (.Tuple elts x1 tpos) g)(T:a7c X.K g t)(hb:ESs X body b)
 (hst:AX [a] X.env=[(false,eval a X.env)]:=by rfl) (hs:∀x,foldedSetIterable (.Call (.Name "enumerate" p) [a] [] rp) X.env x=pure x:=by intro _;rfl):ES X (.For (.Tuple elts x1 tpos) (.Call (.Name "enumerate" p) [a] [] rp) body [] pos) (B7 (b2l m) t b):=
 B1 (a9b hp hc (b4J hgl hm ha hst) hg hb hs) fun D σ H ⟨F0,H0,F,ρ,fl,so,e,fin⟩=>by
  obtain⟨es,e1,e⟩:=bind_some e
  obtain⟨as,e1,e2⟩:=bind_some e1
  split at e2
  ·rename_i q
   refine⟨F,ρ,_,so.e,e1,fun vs F1 H1 x rl=> ?_⟩
   obtain⟨v,r,rfl,rq,rr⟩:=rl
   cases rr
   have fin1:=fin.later x.f
   cases hi:b19 q with
   |none=>rw [hi] at e2;cases e2
   |some ps=>
    rw [hi] at e2
    cases e2
    have core:∀J,b0e X.K F1 J ps->_:=fun J S=>b1L (g:=g) (σ:=σ) (H:=H1) S T fin1 ⟨F1,ρ,PU.j5.refl F1,so.ext x,e⟩
    cases q with
    |tuple qs=>
     cases hi
     obtain⟨a,xs,rfl,hq,rl⟩:=rq
     exact .inl ⟨a,xs,rfl,o5 x.fh hq.sq,core _ (b3e hq.sq rl)⟩
    |list qs=>
     cases hi
     obtain⟨a,xs,rfl,hq,rl⟩:=rq
     exact .inr (.inl ⟨a,xs,rfl,u4 x.fh hq,core _ (b3c hq rl)⟩)
    |str z=>
     cases hi
     cases rq
     exact .inr (.inr ⟨z,rfl,core _ (b3d z)⟩)
    |_=>cases hi
  ·cases e2
end
def a46(A:AO)(s:AC)(u v:AA)(b:Bool):Prop:=∀(prog:AL) (w:AJ) (E:AA->AC->Prop) (Q:AA->AC->Prop),Q (.bool b) s->AG (model prog w) A (richCompare .Lt u v) Q E s
section
open AutoSeq1 (wpAny_loadPart')
theorem a6U(l b:AB)(xs ys:Array AA)(n n2:Nat)(dd dd2:Option AB)(sl sl2:Array (Option AA))(e:Nat->Bool)(c:Bool):
 Meets (Builtin.«tuple.__lt__» ⟨[.ref l,.ref b],[]⟩)
  (fun A R s=>(s.heap.get? l=some {cls:= .type "tuple",dict:=dd,data:= .seq xs n,slots:=sl}/\s.heap.get? b=some {cls:= .type "tuple",dict:=dd2,data:= .seq ys n2,slots:=sl2})/\
   (∀j (h1:j<xs.size) (h2:j<ys.size),SeqAt.EqAt A.in1 s xs[j] ys[j] (e j))/\(∀j (h1:j<xs.size) (h2:j<ys.size),(∀k,k<j->e k=true)->e j=false->a46 A.in1 s xs[j] ys[j] c)/\
   ((∀k,k<min xs.size ys.size->e k=true)->c=decide (xs.size<ys.size))/\R (.ok (.ret (.bool c))) s):=
 .of_wp fun prog w A R s h=>by
  obtain⟨hp,g,d,tk,os⟩:=s
  obtain⟨⟨hl,hb⟩,he,hlt,hce,h⟩:=h
  have f2:=AutoSeq1.sub_tuple_tuple
  have hZ:(xs.toList.zip ys.toList).length=min xs.size ys.size:=by simp
  wp_walk using wpAny_loadPart' hl,wpAny_loadPart' hb,wpAny_forIn_list _ (fun B2 b s'=>b.1=none/\s'=⟨hp,g,d,tk,os⟩/\∃i,i<=min xs.size ys.size/\B2=(xs.toList.zip ys.toList).drop i/\∀k,k<i->e k=true) _
  case turn=>
   rintro⟨y,x⟩ B2 b s' ⟨hb',rfl,i,hi,hz,hR⟩
   have hlt':i<(xs.toList.zip ys.toList).length:=by
    rcases Nat.lt_or_ge i (xs.toList.zip ys.toList).length with h'|h'
    ·exact h'
    ·rw [List.drop_of_length_le h'] at hz;cases hz
   have hm:i<min xs.size ys.size:=by lia
   have h1:i<xs.size:=by lia
   have h2:i<ys.size:=by lia
   rw [List.drop_eq_getElem_cons hlt'] at hz
   injection hz with hyx hrest
   have hy:y=xs[i]:=by simpa using congrArg Prod.fst hyx
   have hx:x=ys[i]:=by simpa using congrArg Prod.snd hyx
   subst hy hx
   refine AF (he i h1 h2 prog w _ _ ?_)
   cases hq:e i with
   |true=>
    wp_walk
    exact⟨rfl,rfl,i+1,by lia,hrest,fun k hk=>by
     rcases Nat.lt_or_ge k i with h'|h'
     ·exact hR k h'
     ·rw [show k=i by lia];exact hq⟩
   |false=>
    have hl3:=hlt i h1 h2 hR hq
    show AG _ A.in1 (rule _>>=fun _=>richCompare .Lt xs[i] ys[i]>>=fun v=>ret v>>=fun q=>pure (ForInStep.done (some q,()))) _ _ _
    refine AF (wpAny_rule ?_)
    refine AF (hl3 prog w _ _ ?_)
    refine AF (AQ ?_)
    refine AQ ?_
    exact AQ ⟨_,rfl,h⟩
  case fin=>
   rintro⟨b1,b2⟩ s' ⟨hb',rfl,i,hi,hz,hR⟩
   simp only at hb'
   subst hb'
   have hge:min xs.size ys.size<=i:=by
    rcases Nat.lt_or_ge i (xs.toList.zip ys.toList).length with h'|h'
    ·rw [List.drop_eq_getElem_cons h'] at hz;cases hz
    ·lia
   wp_walk
   refine⟨_,rfl, ?_⟩
   rw [hce fun k hk=>hR k (by lia)] at h
   exact h
  case h=>
   exact⟨rfl,rfl,0,by lia,rfl,fun k hk=>by lia⟩
variable {A:AO}{s:AC}
theorem a46.tuples{l b:AB}{xs ys:Array AA}{e:Nat->Bool}{c:Bool}(hl:s.heap.IsTuple l xs)(hb:s.heap.IsTuple b ys)(hu:A.units<cLine)
 (he:∀j (h1:j<xs.size) (h2:j<ys.size),SeqAt.EqAt A.in1 s xs[j] ys[j] (e j)) (hlt:∀j (h1:j<xs.size) (h2:j<ys.size),(∀k,k<j->e k=true)->e j=false->a46 A.in1 s xs[j] ys[j] c)
 (hce:(∀k,k<min xs.size ys.size->e k=true)->c=decide (xs.size<ys.size)):a46 A s (.ref l) (.ref b) c:=fun prog w E Q h=>by
 obtain⟨⟨c1,d1,t1,s1⟩,o1,e1,n1,k1⟩:=id hl
 obtain⟨⟨c2,d2,t2,s2⟩,o2,e2,n2,k2⟩:=id hb
 simp only at e1 k1 e2 k2
 subst e1 k1 e2 k2
 exact richCompare_meets_room (op:= .Lt) ⟨_,o1,rfl⟩ ⟨_,o2,rfl⟩ F.slot_tuple_lt F.entry_tuple_lt (F.args_tuple_lt_2 _ _) (a6U l b xs ys n1 n2 d1 d2 s1 s2 e c)
  ⟨⟨o1,o2⟩,he,hlt,hce,show Value.bool c≠Value.notImplemented/\Q (.bool c) s from⟨(fun x=>nomatch x),h⟩⟩ hu
theorem a46.ints(a b:Int)(t u:Tok):a46 A s (.int a t) (.int b u) (decide (a<b)):=fun prog w E Q h=>wpAny_lt_int h
theorem a46.strs(a b:Str)(t u:Tok):a46 A s (.str a t) (.str b u) (decide (a.cps.toList<b.cps.toList)):=fun prog w E Q h=>lt_str h
end
section
variable {X:Cx}{pins:List (AB×Obj)}{σ:L2.St}{H:Hp}{s:AC}
end
section
variable {X:Cx}
end
section
variable {prog:AL}{w:AJ}{A:AO}{R:Result->AC->Prop}{I:AB}{fp wr:List AB}{n:Nat}{P:Nat->AA->Prop}{St:Nat->Heap->Prop}
end
section
variable {prog:AL}{w:AJ}{A:AO}{E:AA->AC->Prop}{s:AC}
end
section
variable {X:Cx}
end
end PU
namespace TS
open PySem PyProof.Rows
abbrev SM(α:Type):=StateT SortSt Sem α
def g(a:Array Keyed)(i:Nat):Keyed:=(a[i]?).getD (Value.none,Value.none)
theorem a8L{a:Array Keyed}{i:Nat}(h:i<a.size):a[i]?=some (g a i):=by
 unfold g;rw [getElem?_pos a i h];rfl
theorem b10{a b:Array Keyed}{i j:Nat}(h:a[i]?=b[j]?):g a i=g b j:=by unfold g;rw [h]
theorem b5x{a:Array Keyed}{i:Nat}(h:i<a.size):g a i∈a.toList:=by
 have:=a8L h
 exact Array.mem_toList_iff.mpr (Array.mem_of_getElem? this)
theorem N4{a:Array Keyed}{i:Nat}(h:i<a.size):a.toList[i]?=some (g a i):=by
 rw [Array.getElem?_toList];exact a8L h
section
variable {prog:AL}{w:AJ}{A:AO}{E:AA->AC->Prop}{s:AC}
structure Q8(prog:AL)(w:AJ)(A:AO)(E:AA->AC->Prop)(s:AC)(κ:SortKind)(S:Keyed->Prop)(R:Keyed->Keyed->Bool):Prop where
 lt:∀x y,S x->S y->∀(st:SortSt) (Q:Option Bool->SortSt->Prop),kindOf st=κ->Q (some (R x y)) st->wpS (model prog w) A E s (lt' x y) Q st
 tr:∀x y z,S x->S y->S z->R y x=false->R z y=false->R z x=false
 as:∀x y,S x->S y->R x y=true->R y x=false
variable {κ:SortKind}{S:Keyed->Prop}{R:Keyed->Keyed->Bool}
theorem Q8.rfl'(C:Q8 prog w A E s κ S R){x:Keyed}(hx:S x):R x x=false:=by
 by_cases h:R x x=true
 ·exact C.as x x hx hx h
 ·exact eq_false_of_ne_true h
theorem o8{a:Array Keyed}{i:Nat}(h:i<a.size){Q:Keyed->SortSt->Prop}{st:SortSt}(hq:Q (g a i) st):wpS (model prog w) A E s (elem' a i) Q st:=by
 rw [elem'_eq,a8L h];exact wpS_pure hq
def gal:Bool->Keyed->Array Keyed->Nat->Nat->Nat->SM (Option Nat):=sortPriv% PySem.Builtin.gallop
def byd(left:Bool)(key:Keyed)(arr:Array Keyed)(base i:Nat):SM (Option Bool):=do
 let x<-elem' arr (base+i)
 if left then lt' x key else return (<-lt' key x).map (!·)
theorem b6d(lf:Bool)(ky:Keyed)(ar:Array Keyed)(bs m ht:Nat):gal lf ky ar bs m ht=(do
 let mut p:=0
 let mut q:=1
 let mut u:=0
 let mut v:=0
 let some r0<-byd lf ky ar bs ht|return none
 if r0 then
  let top:=m - ht
  for _ in [0:m] do
   if q>=top then break
   let some t<-byd lf ky ar bs (ht+q)|return none
   if !t then break
   p:=q
   q:=2*q+1
  u:=ht+p+1
  v:=ht+min q top
 else
  let top:=ht+1
  for _ in [0:m] do
   if q>=top then break
   let some t<-byd lf ky ar bs (ht - q)|return none
   if t then break
   p:=q
   q:=2*q+1
  u:=ht+1 - min q top
  v:=ht - p
 for _ in [0:m] do
  if u>=v then break
  let h:=u+(v - u)/ 2
  let some t<-byd lf ky ar bs h|return none
  if t then u:=h+1 else v:=h
 return some v):=rfl
def bb(R:Keyed->Keyed->Bool)(left:Bool)(key x:Keyed):Bool:=if left then R x key else !R key x
theorem a6Z(C:Q8 prog w A E s κ S R){left:Bool}{key:Keyed}{arr:Array Keyed}{base i:Nat}{st:SortSt}{Q:Option Bool->SortSt->Prop}(hk:kindOf st=κ)(hi:base+i<arr.size)(hS:S (g arr (base+i)))(hy:S key)
 (h:Q (some (bb R left key (g arr (base+i)))) st):wpS (model prog w) A E s (byd left key arr base i) Q st:=by
 unfold byd
 refine wpS_bind (o8 hi ?_)
 cases left
 ·exact wpS_bind (C.lt _ _ hy hS st _ hk (wpS_pure h))
 ·exact C.lt _ _ hS hy st _ hk h
theorem b3n(C:Q8 prog w A E s κ S R){left:Bool}{key:Keyed}{arr:Array Keyed}{base n hint:Nat}{st:SortSt}{Q:Option Nat->SortSt->Prop}(hk:kindOf st=κ)(hn:base+n<=arr.size)(hh:hint<n)
 (hS:∀i,i<n->S (g arr (base+i))) (hy:S key)
 (mono:∀i j,i<=j->j<n->bb R left key (g arr (base+j))=true->bb R left key (g arr (base+i))=true)
 (h:∀k,k<=n->(∀i,i<k->bb R left key (g arr (base+i))=true)->(∀i,k<=i->i<n->bb R left key (g arr (base+i))=false)->Q (some k) st):
 wpS (model prog w) A E s (gal left key arr base n hint) Q st:=by
 rw [b6d]
 have mono':∀i j,i<=j->j<n->bb R left key (g arr (base+i))=false->bb R left key (g arr (base+j))=false:=fun i j a b c=>by
  cases d:bb R left key (g arr (base+j))
  ·rfl
  ·exact absurd ((mono i j a b d).symm.trans c) (by decide)
 have last:∀u v,u<=v->v<=n->(∀i,i<u->bb R left key (g arr (base+i))=true)->(∀i,v<=i->i<n->bb R left key (g arr (base+i))=false)->
  wpS (model prog w) A E s (forIn [0:n] ((none,u,v):Option (Option Nat)×Nat×Nat) fun _ c=>
   if c.2.1>=c.2.2 then pure (ForInStep.done (none,c.2.1,c.2.2)) else do
    let t<-byd left key arr base (c.2.1+(c.2.2 - c.2.1)/ 2)
    match t with
    |some t=>if t=true then pure (ForInStep.yield (none,c.2.1+(c.2.2 - c.2.1)/ 2+1,c.2.2)) else pure (ForInStep.yield (none,c.2.1,c.2.1+(c.2.2 - c.2.1)/ 2))
    |_=>pure (ForInStep.done (some none,c.2.1,c.2.2)))
   (fun c st'=>st'=st/\∃k,c=(none,k,k)/\k<=n/\(∀i,i<k->bb R left key (g arr (base+i))=true)/\(∀i,k<=i->i<n->bb R left key (g arr (base+i))=false)) st:=by
  intro u v huv hvn h1 h2
  refine wpS_forRange (I:=fun x c st'=>st'=st/\∃u v,c=(none,u,v)/\u<=v/\v<=n/\v - u+x<=n/\(∀i,i<u->bb R left key (g arr (base+i))=true)/\(∀i,v<=i->i<n->bb R left key (g arr (base+i))=false)) ?_ ?_ ⟨rfl,u,v,rfl,huv,hvn,by lia,h1,h2⟩
  ·rintro x c st' _ hx ⟨rfl,u,v,rfl,huv,hvn,hux,h1,h2⟩
   dsimp only
   by_cases huv':u>=v
   ·rw [if_pos huv']
    have:u=v:=by lia
    subst this
    exact wpS_pure ⟨rfl,u,rfl,hvn,h1,h2⟩
   ·rw [if_neg huv']
    obtain⟨c,hc,c1,c2⟩:∃c,u+(v - u)/ 2=c/\u<=c/\c<v:=⟨_,rfl,by lia,by lia⟩
    rw [hc]
    refine wpS_bind (a6Z C hk (by lia) (hS _ (by lia)) hy ?_)
    cases hb:bb R left key (g arr (base+c))
    ·simp only [At,if_false]
     exact wpS_pure ⟨rfl,u,_,rfl,by lia,by lia,by lia,h1,fun i a b=>mono' _ _ a b hb⟩
    ·simp only [if_true]
     exact wpS_pure ⟨rfl,_,v,rfl,by lia,by lia,by lia,fun i a=>mono _ _ (by lia) (by lia) hb,h2⟩
  ·rintro c st' ⟨rfl,u,v,rfl,huv,hvn,hux,h1,h2⟩
   have:u=v:=by lia
   subst this
   exact⟨rfl,u,rfl,hvn,h1,h2⟩
 refine wpS_bind (a6Z C hk (by lia) (hS _ hh) hy ?_)
 cases hb:bb R left key (g arr (base+hint))
 ·dsimp only
  simp only [At,if_false]
  refine wpS_bind (wpS_mono (wpS_forRange (I:=fun x c st'=>st'=st/\∃p q,c=(none,p,q)/\p<q/\p<=hint/\x+1<=q/\bb R left key (g arr (base+(hint - p)))=false)
   (Q:=fun c st'=>st'=st/\∃p q,c=(none,p,q)/\p<q/\p<=hint/\bb R left key (g arr (base+(hint - p)))=false/\(q>=hint+1\/(q<=hint/\bb R left key (g arr (base+(hint - q)))=true))) ?_ ?_ ⟨rfl,0,1,rfl,by lia,by lia,by lia,hb⟩) ?_)
  ·rintro x c st' _ hx ⟨rfl,p,q,rfl,hpq,hp,hxq,hbp⟩
   dsimp only
   by_cases hq:q>=hint+1
   ·rw [if_pos hq]
    exact wpS_pure ⟨rfl,p,q,rfl,hpq,hp,hbp,.inl hq⟩
   ·rw [if_neg hq]
    refine wpS_bind (a6Z C hk (by lia) (hS _ (by lia)) hy ?_)
    cases hb':bb R left key (g arr (base+(hint - q)))
    ·simp only [At,if_false]
     exact wpS_pure ⟨rfl,q,_,rfl,by lia,by lia,by lia,hb'⟩
    ·simp only [if_true]
     exact wpS_pure ⟨rfl,p,q,rfl,hpq,hp,hbp,.inr ⟨by lia,hb'⟩⟩
  ·rintro c st' ⟨rfl,p,q,rfl,hpq,hp,hxq,hbp⟩
   exact⟨rfl,p,q,rfl,hpq,hp,hbp,.inl (by lia)⟩
  ·rintro c st' ⟨rfl,p,q,rfl,hpq,hp,hbp,ho⟩
   dsimp only
   refine wpS_bind (wpS_mono (last _ _ ?_ ?_ ?_ ?_) ?_)
   rotate_left 4
   ·rintro c st'' ⟨rfl,k,rfl,hk1,hk2,hk3⟩
    exact wpS_pure (h k hk1 hk2 hk3)
   rotate_left 1
   ·lia
   rotate_left 2
   ·lia
   ·intro i hi
    rcases ho with ho|⟨ho,hb'⟩
    ·lia
    ·exact mono i _ (by lia) (by lia) hb'
   ·exact fun i a b=>mono' _ _ a b hbp
 ·dsimp only
  simp only [if_true]
  refine wpS_bind (wpS_mono (wpS_forRange (I:=fun x c st'=>st'=st/\∃p q,c=(none,p,q)/\p<q/\hint+p<n/\x+1<=q/\bb R left key (g arr (base+(hint+p)))=true)
   (Q:=fun c st'=>st'=st/\∃p q,c=(none,p,q)/\p<q/\hint+p<n/\bb R left key (g arr (base+(hint+p)))=true/\(q>=n - hint\/(hint+q<n/\bb R left key (g arr (base+(hint+q)))=false))) ?_ ?_ ⟨rfl,0,1,rfl,by lia,by lia,by lia,hb⟩) ?_)
  ·rintro x c st' _ hx ⟨rfl,p,q,rfl,hpq,hp,hxq,hbp⟩
   dsimp only
   by_cases hq:q>=n - hint
   ·rw [if_pos hq]
    exact wpS_pure ⟨rfl,p,q,rfl,hpq,hp,hbp,.inl hq⟩
   ·rw [if_neg hq]
    refine wpS_bind (a6Z C hk (by lia) (hS _ (by lia)) hy ?_)
    cases hb':bb R left key (g arr (base+(hint+q)))
    ·simp only [Bool.not_false,if_true]
     exact wpS_pure ⟨rfl,p,q,rfl,hpq,hp,hbp,.inr ⟨by lia,hb'⟩⟩
    ·simp only [Bool.not_true,At,if_false]
     exact wpS_pure ⟨rfl,q,_,rfl,by lia,by lia,by lia,hb'⟩
  ·rintro c st' ⟨rfl,p,q,rfl,hpq,hp,hxq,hbp⟩
   exact⟨rfl,p,q,rfl,hpq,hp,hbp,.inl (by lia)⟩
  ·rintro c st' ⟨rfl,p,q,rfl,hpq,hp,hbp,ho⟩
   dsimp only
   refine wpS_bind (wpS_mono (last _ _ ?_ ?_ ?_ ?_) ?_)
   rotate_left 4
   ·rintro c st'' ⟨rfl,k,rfl,hk1,hk2,hk3⟩
    exact wpS_pure (h k hk1 hk2 hk3)
   rotate_left 1
   ·lia
   rotate_left 2
   ·lia
   ·exact fun i hi=>mono i _ (by lia) (by lia) hbp
   ·intro i a b
    rcases ho with ho|⟨ho,hb'⟩
    ·lia
    ·exact mono' _ _ (by lia) b hb'
end
def Seg(R:Keyed->Keyed->Bool)(a:Array Keyed)(lo hi:Nat):Prop:=∀i j,lo<=i->i<=j->j<hi->R (g a j) (g a i)=false
def Ges(R:Keyed->Keyed->Bool)(a:Array Keyed)(lo hi:Nat):Prop:=∀i j,lo<=i->i<=j->j<hi->R (g a i) (g a j)=false
def Fix(lo:Nat)(a b:Array Keyed):Prop:=∀i,i<lo->g b i=g a i
theorem Fix.refl{lo:Nat}{a:Array Keyed}:Fix lo a a:=fun _ _=>rfl
theorem Fix.trans{lo:Nat}{a b c:Array Keyed}(h:Fix lo a b)(k:Fix lo b c):Fix lo a c:=fun i hi=>(k i hi).trans (h i hi)
theorem Y3{a:Array Keyed}{i j:Nat}(hj:j<=a.size)(k:Nat):g (mirror a i j ((j - i)/ 2)) k=if i<=k/\k<j then g a (i+j - 1 - k) else g a k:=by
 have e:=getElem?_mirror_all (i:=i) hj k
 by_cases h:i<=k/\k<j
 ·rw [if_pos h] at e ⊢;exact b10 e
 ·rw [if_neg h] at e ⊢;exact b10 e
theorem a32{a:Array Keyed}{src d:Nat}(hs:src<a.size)(hd:d<=src)(k:Nat):g (bubble a src d) k=if k=src - d then g a src else if src - d<k/\k<=src then g a (k - 1) else g a k:=by
 have e:=getElem?_bubble hs d hd k
 by_cases h:k=src - d
 ·rw [if_pos h] at e ⊢;exact b10 e
 ·rw [if_neg h] at e ⊢
  by_cases h2:src - d<k/\k<=src
  ·rw [if_pos h2] at e ⊢;exact b10 e
  ·rw [if_neg h2] at e ⊢;exact b10 e
structure B(κ:SortKind)(a₀:Array Keyed)(st:SortSt):Prop where
 perm:(arrOf st).Perm a₀
 kind:kindOf st=κ
 failed:failedOf st=none
section
variable {prog:AL}{w:AJ}{A:AO}{E:AA->AC->Prop}{s:AC}
variable {κ:SortKind}{S:Keyed->Prop}{R:Keyed->Keyed->Bool}{a₀:Array Keyed}
theorem B.size{st:SortSt}(h:B κ a₀ st):(arrOf st).size=a₀.size:=h.perm.size_eq
theorem B.set{st:SortSt}(h:B κ a₀ st){xs:Array Keyed}(hp:xs.Perm (arrOf st)):B κ a₀ (setArr st xs):=⟨hp.trans h.perm,h.kind,h.failed⟩
theorem B.sg{st:SortSt}(h:B κ a₀ st)(hS:∀p∈a₀.toList,S p){i:Nat}(hi:i<a₀.size):S (g (arrOf st) i):=
 hS _ ((Array.perm_iff_toList_perm.mp h.perm).mem_iff.mp (b5x (by rw [h.size];exact hi)))
theorem a1Z(C:Q8 prog w A E s κ S R)(hS:∀p∈a₀.toList,S p){st:SortSt}(hB:B κ a₀ st){i j:Nat}{Q:Option Bool->SortSt->Prop}(hi:i<a₀.size)(hj:j<a₀.size)
 (h:Q (some (R (g (arrOf st) i) (g (arrOf st) j))) st):wpS (model prog w) A E s (ltAt' i j) Q st:=by
 rw [ltAt'_eq]
 refine wpS_bind (wpS_get ?_)
 exact wpS_bind (o8 (by rw [hB.size];exact hi) (wpS_bind (o8 (by rw [hB.size];exact hj) (C.lt _ _ (hB.sg hS hi) (hB.sg hS hj) st Q hB.kind h))))
theorem a43{st:SortSt}{i j:Nat}{Q:Unit->SortSt->Prop}(h:Q () (setArr st (mirror (arrOf st) i j ((j - i)/ 2)))):wpS (model prog w) A E s (reverseSlice' i j) Q st:=by
 rw [reverseSlice'_eq];exact wpS_modify h
def up(lo a nrem:Nat):SM (Option (Option Nat)×Nat):=
 forIn [a:nrem] ((none,a):Option (Option Nat)×Nat) fun _ c=>do
  let t<-ltAt' (lo+c.2) (lo+c.2 - 1)
  match t with
  |some b=>if b=true then pure (.done (none,c.2)) else pure (.yield (none,c.2+1))
  |_=>pure (.done (some none,c.2))
theorem b5K(C:Q8 prog w A E s κ S R)(hS:∀p∈a₀.toList,S p){st:SortSt}{lo a nrem:Nat}{Q:Option (Option Nat)×Nat->SortSt->Prop}(hB:B κ a₀ st)(hn:lo+nrem<=a₀.size)(ha:1<=a)(han:a<=nrem)
 (hs:Seg R (arrOf st) lo (lo+a))
 (h:∀n,a<=n->n<=nrem->Seg R (arrOf st) lo (lo+n)->(n=nrem\/R (g (arrOf st) (lo+n)) (g (arrOf st) (lo+n - 1))=true)->Q (none,n) st):
 wpS (model prog w) A E s (up lo a nrem) Q st:=by
 unfold up
 refine wpS_forRange (I:=fun x c st'=>st'=st/\c=(none,x)/\Seg R (arrOf st) lo (lo+x)) ?_ ?_ ⟨rfl,rfl,hs⟩
 ·rintro x c st' hax hxn ⟨rfl,rfl,hs'⟩
  dsimp only
  refine wpS_bind (a1Z C hS hB (by lia) (by lia) ?_)
  cases hl:R (g (arrOf st') (lo+x)) (g (arrOf st') (lo+x - 1))
  ·simp only [At,if_false]
   refine wpS_pure ⟨rfl,rfl,fun i j hi hij hj=> ?_⟩
   by_cases hjx:j<lo+x
   ·exact hs' i j hi hij hjx
   ·have:j=lo+x:=by lia
    subst this
    by_cases hi':i=lo+x
    ·subst hi';exact C.rfl' (hB.sg hS (by lia))
    ·exact C.tr _ (g (arrOf st') (lo+x - 1)) _ (hB.sg hS (by lia)) (hB.sg hS (by lia)) (hB.sg hS (by lia)) (hs' i (lo+x - 1) hi (by lia) (by lia)) hl
  ·simp only [if_true]
   exact wpS_pure (h x hax (by lia) hs' (.inr hl))
 ·rintro c st' ⟨rfl,rfl,hs'⟩
  rw [show max a nrem=nrem by lia] at hs' ⊢
  exact h nrem han (AN _) hs' (.inl rfl)
def dn(lo n nrem:Nat):SM (Option (Option Nat)×Nat×Nat):=
 forIn [n:nrem] ((none,n,0):Option (Option Nat)×Nat×Nat) fun _ c=>do
  let t<-ltAt' (lo+c.2.1) (lo+c.2.1 - 1)
  match t with
  |some b=>
   if b=true then
    if c.2.2>0 then do
     reverseSlice' (lo+c.2.1 - (c.2.2+1)) (lo+c.2.1)
     pure (.yield (none,c.2.1+1,0))
    else pure (.yield (none,c.2.1+1,0))
   else do
    let t<-ltAt' (lo+c.2.1 - 1) (lo+c.2.1)
    match t with
    |some b=>if b=true then pure (.done (none,c.2.1,c.2.2)) else pure (.yield (none,c.2.1+1,c.2.2+1))
    |_=>pure (.done (some none,c.2.1,c.2.2))
  |_=>pure (.done (some none,c.2.1,c.2.2))
theorem U3(C:Q8 prog w A E s κ S R)(hS:∀p∈a₀.toList,S p){st:SortSt}(hB:B κ a₀ st){lo hi i j:Nat}(hh:hi<=a₀.size)(hg:Ges R (arrOf st) lo hi)(h1:lo<=i)(h2:j<=hi)(hij:i<j)
 (he:∀k,i<=k->k<j->R (g (arrOf st) (j - 1)) (g (arrOf st) k)=false):Ges R (mirror (arrOf st) i j ((j - i)/ 2)) lo hi:=by
 have hsz:j<=(arrOf st).size:=by rw [hB.size];lia
 intro k l hk hkl hl
 rw [Y3 hsz,Y3 hsz]
 split
 ·split
  ·rename_i p q
   refine C.tr _ (g (arrOf st) (j - 1)) _ (hB.sg hS (by lia)) (hB.sg hS (by lia)) (hB.sg hS (by lia)) (he _ (by lia) (by lia)) (hg _ _ (by lia) (by lia) (by lia))
  ·exact hg _ _ (by lia) (by lia) (by lia)
 ·split
  ·exact hg _ _ (by lia) (by lia) (by lia)
  ·exact hg _ _ (by lia) (by lia) (by lia)
theorem N1{a:Array Keyed}{lo i j:Nat}(hj:j<=a.size)(h:lo<=i):Fix lo a (mirror a i j ((j - i)/ 2)):=fun k hk=>by
 rw [Y3 hj,if_neg (by lia)]
theorem b75(C:Q8 prog w A E s κ S R)(hS:∀p∈a₀.toList,S p){st:SortSt}{lo n nrem:Nat}{Q:Option (Option Nat)×Nat×Nat->SortSt->Prop}(hB:B κ a₀ st)(hn:lo+nrem<=a₀.size)(h1:1<=n)(hnn:n<=nrem)
 (hs:Ges R (arrOf st) lo (lo+n))
 (h:∀m e st',B κ a₀ st'->pendingOf st'=pendingOf st->Fix lo (arrOf st) (arrOf st')->n<=m->m<=nrem->Ges R (arrOf st') lo (lo+m)->e+1<=m->
  (∀i,lo+m - (e+1)<=i->i<lo+m->R (g (arrOf st') (lo+m - 1)) (g (arrOf st') i)=false)->Q (none,m,e) st'):
 wpS (model prog w) A E s (dn lo n nrem) Q st:=by
 unfold dn
 refine wpS_forRange (I:=fun x c st'=>∃e,c=(none,x,e)/\B κ a₀ st'/\pendingOf st'=pendingOf st/\Fix lo (arrOf st) (arrOf st')/\Ges R (arrOf st') lo (lo+x)/\e+1<=x/\
  (∀i,lo+x - (e+1)<=i->i<lo+x->R (g (arrOf st') (lo+x - 1)) (g (arrOf st') i)=false)) ?_ ?_
  ⟨0,rfl,hB,rfl,Fix.refl,hs,by lia,fun i a b=>by rw [show i=lo+n - 1 by lia];exact C.rfl' (hB.sg hS (by lia))⟩
 ·rintro x c st' hax hxn ⟨e,rfl,hB',hp,hf,hg,he,hq⟩
  dsimp only
  have hsz:lo+x<=(arrOf st').size:=by rw [hB'.size];lia
  refine wpS_bind (a1Z C hS hB' (by lia) (by lia) ?_)
  cases hl:R (g (arrOf st') (lo+x)) (g (arrOf st') (lo+x - 1))
  ·simp only [At,if_false]
   refine wpS_bind (a1Z C hS hB' (by lia) (by lia) ?_)
   cases hm:R (g (arrOf st') (lo+x - 1)) (g (arrOf st') (lo+x))
   ·simp only [At,if_false]
    refine wpS_pure ⟨e+1,rfl,hB',hp,hf,fun i j hi hij hj=> ?_,by lia,fun i h1 h2=> ?_⟩
    ·by_cases hjx:j<lo+x
     ·exact hg i j hi hij hjx
     ·have:j=lo+x:=by lia
      subst this
      by_cases hi':i=lo+x
      ·subst hi';exact C.rfl' (hB'.sg hS (by lia))
      ·exact C.tr _ (g (arrOf st') (lo+x - 1)) _ (hB'.sg hS (by lia)) (hB'.sg hS (by lia)) (hB'.sg hS (by lia)) hm (hg i (lo+x - 1) hi (by lia) (by lia))
    ·rw [show lo+(x+1) - 1=lo+x by lia]
     by_cases hi':i=lo+x
     ·subst hi';exact C.rfl' (hB'.sg hS (by lia))
     ·exact C.tr _ (g (arrOf st') (lo+x - 1)) _ (hB'.sg hS (by lia)) (hB'.sg hS (by lia)) (hB'.sg hS (by lia)) (hq i (by lia) (by lia)) hl
   ·simp only [if_true]
    exact wpS_pure (h x e st' hB' hp hf hax (by lia) hg he hq)
  ·simp only [if_true]
   have hg1:Ges R (arrOf st') lo (lo+(x+1)):=by
    intro i j hi hij hj
    by_cases hjx:j<lo+x
    ·exact hg i j hi hij hjx
    ·have:j=lo+x:=by lia
     subst this
     by_cases hi':i=lo+x
     ·subst hi';exact C.rfl' (hB'.sg hS (by lia))
     ·exact C.tr _ (g (arrOf st') (lo+x - 1)) _ (hB'.sg hS (by lia)) (hB'.sg hS (by lia)) (hB'.sg hS (by lia)) (C.as _ _ (hB'.sg hS (by lia)) (hB'.sg hS (by lia)) hl) (hg i (lo+x - 1) hi (by lia) (by lia))
   by_cases he0:e>0
   ·rw [if_pos he0]
    have hB2:B κ a₀ (setArr st' (mirror (arrOf st') (lo+x - (e+1)) (lo+x) ((lo+x - (lo+x - (e+1)))/ 2))):=hB'.set (mirror_perm _ _ _ _)
    refine wpS_bind (a43 (wpS_pure ⟨0,rfl,hB2,hp,hf.trans (N1 hsz (by lia)),U3 C hS hB' (by lia) hg1 (by lia) (by lia) (by lia) hq,by lia,fun i a b=> ?_⟩))
    rw [show i=lo+(x+1) - 1 by lia];exact C.rfl' (hB2.sg hS (by lia))
   ·rw [if_neg he0]
    refine wpS_pure ⟨0,rfl,hB',hp,hf,hg1,by lia,fun i a b=> ?_⟩
    rw [show i=lo+(x+1) - 1 by lia];exact C.rfl' (hB'.sg hS (by lia))
 ·rintro c st' ⟨e,rfl,hB',hp,hf,hg,he,hq⟩
  rw [show max n nrem=nrem by lia] at hg he hq ⊢
  exact h nrem e st' hB' hp hf hnn (AN _) hg he hq
theorem b7a(C:Q8 prog w A E s κ S R)(hS:∀p∈a₀.toList,S p){st:SortSt}{lo nrem:Nat}{Q:Option Nat->SortSt->Prop}(hB:B κ a₀ st)(hn:lo+nrem<=a₀.size)(h1:1<=nrem)
 (h:∀m st',B κ a₀ st'->pendingOf st'=pendingOf st->Fix lo (arrOf st) (arrOf st')->1<=m->m<=nrem->Seg R (arrOf st') lo (lo+m)->Q (some m) st'):
 wpS (model prog w) A E s (countRun' lo nrem) Q st:=by
 rw [countRun'_eq]
 have one:Seg R (arrOf st) lo (lo+1):=fun i j hi hij hj=>by
  have:i=j:=by lia
  subst this;exact C.rfl' (hB.sg hS (by lia))
 have tail:∀m st',B κ a₀ st'->pendingOf st'=pendingOf st->Fix lo (arrOf st) (arrOf st')->1<=m->m<=nrem->Ges R (arrOf st') lo (lo+m)->
  wpS (model prog w) A E s (reverseSlice' lo (lo+m)) (fun _ st2=>wpS (model prog w) A E s (up lo m nrem) (fun c st3=>c.1=none/\Q (some c.2) st3) st2) st':=by
  intro m st' hB' hp hf hm1 hm2 hg
  have hsz:lo+m<=(arrOf st').size:=by rw [hB'.size];lia
  have hB2:B κ a₀ (setArr st' (mirror (arrOf st') lo (lo+m) ((lo+m - lo)/ 2))):=hB'.set (mirror_perm _ _ _ _)
  refine a43 (b5K C hS hB2 hn hm1 hm2 ?_ fun n a b c _=>⟨rfl,h n _ hB2 hp (hf.trans (N1 hsz (AN _))) (by lia) b c⟩)
  intro i j hi hij hj
  show R (g (mirror (arrOf st') lo (lo+m) ((lo+m - lo)/ 2)) j) (g (mirror (arrOf st') lo (lo+m) ((lo+m - lo)/ 2)) i)=false
  rw [Y3 hsz,Y3 hsz,if_pos (by lia),if_pos (by lia)]
  exact hg _ _ (by lia) (by lia) (by lia)
 have desc:∀n st',B κ a₀ st'->pendingOf st'=pendingOf st->Fix lo (arrOf st) (arrOf st')->n+1<=nrem->Ges R (arrOf st') lo (lo+(n+1))->
  wpS (model prog w) A E s (dn lo (n+1) nrem) (fun c st2=>c.1=none/\c.2.1<=nrem/\1<=c.2.1/\B κ a₀ st2/\pendingOf st2=pendingOf st/\Fix lo (arrOf st) (arrOf st2)/\c.2.2+1<=c.2.1/\Ges R (arrOf st2) lo (lo+c.2.1)/\
   (∀i,lo+c.2.1 - (c.2.2+1)<=i->i<lo+c.2.1->R (g (arrOf st2) (lo+c.2.1 - 1)) (g (arrOf st2) i)=false)) st':=by
  intro n st' hB' hp hf hnn hg
  exact b75 C hS hB' hn (by lia) hnn hg fun m e st2 b1 b2 b3 b4 b5 b6 b7 b8=>⟨rfl,b5,(by lia:1<=m),b1,b2.trans hp,hf.trans b3,b7,b6,b8⟩
 refine wpS_bind (b5K C hS hB hn (AN 1) h1 one fun n hn1 hn2 hsn ho=> ?_)
 dsimp only
 by_cases hnn:n=nrem
 ·rw [if_pos (by simpa using hnn)]
  exact wpS_pure (h n st hB rfl Fix.refl hn1 hn2 hsn)
 ·rw [if_neg (by simpa using hnn)]
  have hlt:=ho.resolve_left hnn
  have hl':R (g (arrOf st) (lo+n - 1)) (g (arrOf st) (lo+n))=false:=C.as _ _ (hB.sg hS (by lia)) (hB.sg hS (by lia)) hlt
  have hsz:lo+n<=(arrOf st).size:=by rw [hB.size];lia
  have ges:R (g (arrOf st) lo) (g (arrOf st) (lo+n - 1))=false->Ges R (arrOf st) lo (lo+(n+1)):=by
   intro hr i j hi hij hj
   have toi:∀i,lo<=i->i<lo+n->R (g (arrOf st) i) (g (arrOf st) (lo+n - 1))=false:=fun i hi hj=>
    C.tr _ (g (arrOf st) lo) _ (hB.sg hS (by lia)) (hB.sg hS (by lia)) (hB.sg hS (by lia)) hr (hsn lo i (AN _) hi hj)
   by_cases hjn:j<lo+n
   ·exact C.tr _ (g (arrOf st) (lo+n - 1)) _ (hB.sg hS (by lia)) (hB.sg hS (by lia)) (hB.sg hS (by lia)) (hsn j (lo+n - 1) (by lia) (by lia) (by lia)) (toi i hi (by lia))
   ·have:j=lo+n:=by lia
    subst this
    by_cases hi':i=lo+n
    ·subst hi';exact C.rfl' (hB.sg hS (by lia))
    ·exact C.tr _ (g (arrOf st) (lo+n - 1)) _ (hB.sg hS (by lia)) (hB.sg hS (by lia)) (hB.sg hS (by lia)) hl' (toi i hi (by lia))
  by_cases hgt:n>1
  ·rw [if_pos hgt]
   refine wpS_bind (a1Z C hS hB (by lia) (by lia) ?_)
   cases hr:R (g (arrOf st) lo) (g (arrOf st) (lo+n - 1))
   ·simp only [At,if_false]
    have hB2:B κ a₀ (setArr st (mirror (arrOf st) lo (lo+n) ((lo+n - lo)/ 2))):=hB.set (mirror_perm _ _ _ _)
    refine wpS_bind (a43 (wpS_bind (wpS_lift (wpAny_rule ⟨rfl, ?_⟩))))
    refine wpS_bind (wpS_mono (desc n _ hB2 rfl (N1 hsz (AN _)) (by lia) (U3 C hS hB (by lia) (ges hr) (AN _) (by lia) (by lia) fun k a b=>hsn k (lo+n - 1) a (by lia) (by lia))) ?_)
    rintro⟨c,m,e⟩ st2 ⟨rfl,b1,b2,b3,b4,b5,b6,b7,b8⟩
    dsimp only at*
    by_cases he:e>0
    ·rw [if_pos he]
     have hsz2:lo+m<=(arrOf st2).size:=by rw [b3.size];lia
     refine wpS_bind (a43 (wpS_bind (wpS_mono (tail m _ (b3.set (mirror_perm _ _ _ _)) b4 (b5.trans (N1 hsz2 (by lia))) b2 b1 (U3 C hS b3 (by lia) b7 (by lia) (by lia) (by lia) b8)) fun _ st3 q=>wpS_bind (wpS_mono q ?_))))
     rintro⟨c,n'⟩ st4 ⟨rfl,q⟩
     exact wpS_pure q
    ·rw [if_neg he]
     refine wpS_bind (wpS_mono (tail m _ b3 b4 b5 b2 b1 b7) fun _ st3 q=>wpS_bind (wpS_mono q ?_))
     rintro⟨c,n'⟩ st4 ⟨rfl,q⟩
     exact wpS_pure q
   ·simp only [if_true]
    exact wpS_pure (h n st hB rfl Fix.refl hn1 hn2 hsn)
  ·rw [if_neg hgt]
   have:n=1:=by lia
   subst this
   refine wpS_bind (wpS_lift (wpAny_rule ⟨rfl, ?_⟩))
   refine wpS_bind (wpS_mono (desc 1 _ hB rfl Fix.refl (by lia) (ges (by rw [show lo+1 - 1=lo by lia];exact C.rfl' (hB.sg hS (by lia))))) ?_)
   rintro⟨c,m,e⟩ st2 ⟨rfl,b1,b2,b3,b4,b5,b6,b7,b8⟩
   dsimp only at*
   by_cases he:e>0
   ·rw [if_pos he]
    have hsz2:lo+m<=(arrOf st2).size:=by rw [b3.size];lia
    refine wpS_bind (a43 (wpS_bind (wpS_mono (tail m _ (b3.set (mirror_perm _ _ _ _)) b4 (b5.trans (N1 hsz2 (by lia))) b2 b1 (U3 C hS b3 (by lia) b7 (by lia) (by lia) (by lia) b8)) fun _ st3 q=>wpS_bind (wpS_mono q ?_))))
    rintro⟨c,n'⟩ st4 ⟨rfl,q⟩
    exact wpS_pure q
   ·rw [if_neg he]
    refine wpS_bind (wpS_mono (tail m _ b3 b4 b5 b2 b1 b7) fun _ st3 q=>wpS_bind (wpS_mono q ?_))
    rintro⟨c,n'⟩ st4 ⟨rfl,q⟩
    exact wpS_pure q
theorem a9k(C:Q8 prog w A E s κ S R){a:Array Keyed}{lo k l:Nat}(hS:∀i,i<=lo+k->S (g a i))(hks:lo+k<a.size)(hlk:l<=k)(hs:Seg R a lo (lo+k))
 (hlo:∀i,i<l->R (g a (lo+k)) (g a (lo+i))=false) (hhi:∀i,l<=i->i<k->R (g a (lo+k)) (g a (lo+i))=true):Seg R (bubble a (lo+k) (lo+k - (lo+l))) lo (lo+(k+1)):=by
 intro i j hi hij hj
 rw [a32 hks (by lia),a32 hks (by lia),show lo+k - (lo+k - (lo+l))=lo+l by lia]
 have low:∀i,lo<=i->i<lo+l->R (g a (lo+k)) (g a i)=false:=fun i x y=>by
  have:=hlo (i - lo) (by lia);rwa [show lo+(i - lo)=i by lia] at this
 have high:∀i,lo+l<=i->i<lo+k->R (g a i) (g a (lo+k))=false:=fun i x y=>by
  have:=hhi (i - lo) (by lia) (by lia);rw [show lo+(i - lo)=i by lia] at this
  exact C.as _ _ (hS _ (AN _)) (hS _ (BE y)) this
 by_cases e1:i=lo+l
 ·subst e1
  rw [if_pos rfl]
  by_cases e2:j=lo+l
  ·rw [if_pos e2];exact C.rfl' (hS _ (AN _))
  ·rw [if_neg e2,if_pos (by lia)];exact high _ (by lia) (by lia)
 ·rw [if_neg e1]
  by_cases e3:lo+l<i
  ·rw [if_neg (by lia),if_pos (by lia),if_pos (by lia)];exact hs _ _ (by lia) (by lia) (by lia)
  ·rw [if_neg (c:=lo+l<i/\i<=lo+k) (by lia)]
   by_cases e2:j=lo+l
   ·rw [if_pos e2];exact low _ hi (by lia)
   ·rw [if_neg e2]
    by_cases e4:lo+l<j
    ·rw [if_pos (by lia)];exact hs _ _ hi (by lia) (by lia)
    ·rw [if_neg (by lia)];exact hs _ _ hi hij (by lia)
theorem b69(C:Q8 prog w A E s κ S R)(hS:∀p∈a₀.toList,S p){st:SortSt}{lo n ok:Nat}{Q:Bool->SortSt->Prop}(hB:B κ a₀ st)(hn:lo+n<=a₀.size)(hok:ok<=n)(h1:1<=n)(hs:Seg R (arrOf st) lo (lo+ok))
 (h:∀st',B κ a₀ st'->pendingOf st'=pendingOf st->Fix lo (arrOf st) (arrOf st')->Seg R (arrOf st') lo (lo+n)->Q true st'):
 wpS (model prog w) A E s (binarySort' lo n ok) Q st:=by
 rw [binarySort'_eq]
 refine wpS_bind (wpS_mono (wpS_forRange (I:=fun k c st'=>c=(none,())/\B κ a₀ st'/\pendingOf st'=pendingOf st/\Fix lo (arrOf st) (arrOf st')/\Seg R (arrOf st') lo (lo+k))
  (Q:=fun c st'=>c=(none,())/\B κ a₀ st'/\pendingOf st'=pendingOf st/\Fix lo (arrOf st) (arrOf st')/\Seg R (arrOf st') lo (lo+n)) ?_ ?_ ⟨rfl,hB,rfl,Fix.refl, ?_⟩) ?_)
 ·rintro k c st' hk1 hk2 ⟨rfl,hB',hp,hf,hs'⟩
  dsimp only
  refine wpS_bind (wpS_mono (wpS_forRange (I:=fun x c st2=>st2=st'/\∃l r,c=(none,l,r)/\l<=r/\r<=k/\r - l+x<=k/\
   (∀i,i<l->R (g (arrOf st') (lo+k)) (g (arrOf st') (lo+i))=false)/\(∀i,r<=i->i<k->R (g (arrOf st') (lo+k)) (g (arrOf st') (lo+i))=true))
   (Q:=fun c st2=>st2=st'/\∃l,c=(none,l,l)/\l<=k/\
    (∀i,i<l->R (g (arrOf st') (lo+k)) (g (arrOf st') (lo+i))=false)/\(∀i,l<=i->i<k->R (g (arrOf st') (lo+k)) (g (arrOf st') (lo+i))=true)) ?_ ?_ ⟨rfl,0,k,rfl,by lia,by lia,by lia,fun i a=>by lia,fun i a b=>by lia⟩) ?_)
  ·rintro x c st2 _ hx ⟨rfl,l,r,rfl,hlr,hrk,hm,hlo,hhi⟩
   dsimp only
   by_cases hge:l>=r
   ·rw [if_pos hge]
    have:l=r:=by lia
    subst this
    exact wpS_pure ⟨rfl,l,rfl,hrk,hlo,hhi⟩
   ·rw [if_neg hge]
    obtain⟨c,hc,c1,c2⟩:∃c,(l+r)/ 2=c/\l<=c/\c<r:=⟨_,rfl,by lia,by lia⟩
    rw [hc]
    refine wpS_bind (a1Z C hS hB' (by lia) (by lia) ?_)
    cases hl:R (g (arrOf st2) (lo+k)) (g (arrOf st2) (lo+c))
    ·simp only [At,if_false]
     refine wpS_pure ⟨rfl,c+1,r,rfl,by lia,by lia,by lia,fun i a=> ?_,hhi⟩
     exact C.tr _ (g (arrOf st2) (lo+c)) _ (hB'.sg hS (by lia)) (hB'.sg hS (by lia)) (hB'.sg hS (by lia)) (hs' _ _ (by lia) (by lia) (by lia)) hl
    ·simp only [if_true]
     refine wpS_pure ⟨rfl,l,c,rfl,by lia,by lia,by lia,hlo,fun i a b=> ?_⟩
     cases hi:R (g (arrOf st2) (lo+k)) (g (arrOf st2) (lo+i))
     ·exact absurd (C.tr _ (g (arrOf st2) (lo+i)) _ (hB'.sg hS (by lia)) (hB'.sg hS (by lia)) (hB'.sg hS (by lia)) (hs' (lo+c) (lo+i) (by lia) (by lia) (by lia)) hi) (by rw [hl];decide)
     ·rfl
  ·rintro c st2 ⟨rfl,l,r,rfl,hlr,hrk,hm,hlo,hhi⟩
   have:l=r:=by lia
   subst this
   exact⟨rfl,l,rfl,hrk,hlo,hhi⟩
  ·rintro c st2 ⟨rfl,l,rfl,hlk,hlo,hhi⟩
   dsimp only
   rw [moveDown'_eq]
   have hks:lo+k<(arrOf st2).size:=by rw [hB'.size];lia
   refine wpS_bind (wpS_modify (wpS_pure ⟨rfl,hB'.set (bubble_perm _ _ _),hp,hf.trans ?_, ?_⟩))
   ·intro i hi
    show g (bubble (arrOf st2) (lo+k) (lo+k - (lo+l))) i=_
    rw [a32 hks (by lia),if_neg (by lia),if_neg (by lia)]
   ·exact a9k C (fun i hi=>hB'.sg hS (by lia)) hks hlk hs' hlo hhi
 ·rintro c st' ⟨rfl,hB',hp,hf,hs'⟩
  rw [show max (max ok 1) n=n by lia] at hs'
  exact⟨rfl,hB',hp,hf,hs'⟩
 ·by_cases hk:ok=0
  ·subst hk
   intro i j hi hij hj
   have:i=j:=by lia
   subst this;exact C.rfl' (hB.sg hS (by lia))
  ·rw [show max ok 1=ok by lia];exact hs
 ·rintro c st' ⟨rfl,hB',hp,hf,hs'⟩
  exact wpS_pure (h st' hB' hp hf hs')
end
def le(R:Keyed->Keyed->Bool)(x y:Keyed):Prop:=R y x=false
def Mg(R:Keyed->Keyed->Bool)(W out la lb:List Keyed):Prop:=(out++la).Pairwise (le R)/\(out++lb).Pairwise (le R)/\(out++(la++lb)).Perm W
section
variable {R:Keyed->Keyed->Bool}{W out la lb xs:List Keyed}
theorem Mg.takeA(h:Mg R W out (xs++la) lb)(k:∀x∈xs,∀y∈lb,le R x y):Mg R W (out++xs) la lb:=by
 obtain⟨h1,h2,h3⟩:=h
 have e1:=List.pairwise_append.mp (show((out++xs)++la).Pairwise (le R) by rw [List.append_assoc];exact h1)
 have e2:=List.pairwise_append.mp h2
 refine⟨by rw [List.append_assoc];exact h1,List.pairwise_append.mpr ⟨e1.1,e2.2.1,fun x hx y hy=> ?_⟩,by rw [List.append_assoc,<-List.append_assoc xs];exact h3⟩
 rcases Ap.mp hx with hx|hx
 ·exact e2.2.2 x hx y hy
 ·exact k x hx y hy
theorem Mg.swap(h:Mg R W out la lb):Mg R W out lb la:=⟨h.2.1,h.1,(List.Perm.append_left out List.perm_append_comm).trans h.2.2⟩
theorem Mg.takeB(h:Mg R W out la (xs++lb))(k:∀x∈xs,∀y∈la,le R x y):Mg R W (out++xs) la lb:=(h.swap.takeA k).swap
def P8(R:Keyed->Keyed->Bool)(W r:List Keyed):Prop:=r.Pairwise (le R)/\r.Perm W
theorem Mg.doneB(h:Mg R W out la []):P8 R W (out++la):=⟨h.1,by have:=h.2.2;rwa [Am] at this⟩
theorem Mg.doneA(h:Mg R W out [] lb):P8 R W (out++lb):=⟨h.2.1,h.2.2⟩
theorem Mg.last{x:Keyed}(h:Mg R W out [x] lb)(k:∀y∈lb,le R y x):P8 R W ((out++lb)++[x]):=by
 obtain⟨h1,h2,h3⟩:=h
 have e1:=List.pairwise_append.mp h1
 refine⟨List.pairwise_append.mpr ⟨h2,e1.2.1,fun y hy z hz=> ?_⟩, ?_⟩
 ·cases List.mem_singleton.mp hz
  rcases Ap.mp hy with hy|hy
  ·exact e1.2.2 y hy x (List.mem_singleton.mpr rfl)
  ·exact k y hy
 ·rw [List.append_assoc]
  exact(List.Perm.append_left out List.perm_append_comm).trans h3
end
theorem a0f{a:Array Keyed}{i:Nat}(h:i<a.size):a.toList.drop i=g a i::a.toList.drop (i+1):=by
 have h':i<a.toList.length:=h
 rw [List.drop_eq_getElem_cons h']
 congr 1
 have:=N4 h
 rw [BA h'] at this
 exact Option.some.inj this
theorem a4n{a:Array Keyed}{i:Nat}{x:Keyed}(h:x∈a.toList.drop i):∃j,i<=j/\j<a.size/\x=g a j:=by
 obtain⟨k,hk,e⟩:=List.mem_iff_getElem.mp h
 have hk':i+k<a.size:=by rw [List.length_drop] at hk;have:a.toList.length=a.size:=rfl;lia
 refine⟨i+k,by lia,hk', ?_⟩
 have e2:=N4 hk'
 rw [List.getElem_drop] at e
 rw [BA (show i+k<a.toList.length from hk')] at e2
 exact e.symm.trans (Option.some.inj e2)
theorem N7{a:Array Keyed}{i k:Nat}{x:Keyed}(h:x∈(a.toList.drop i).take k)(hk:i+k<=a.size):∃j,j<k/\x=g a (i+j):=by
 obtain⟨q,hq,e⟩:=List.mem_iff_getElem.mp h
 rw [List.length_take,List.length_drop] at hq
 rw [List.getElem_take,List.getElem_drop] at e
 refine⟨q,by lia, ?_⟩
 have hk':i+q<a.size:=by lia
 have e2:=N4 hk'
 rw [BA (show i+q<a.toList.length from hk')] at e2
 exact e.symm.trans (Option.some.inj e2)
theorem x8(a:Array Keyed)(i j:Nat):(a.extract i j).toList=(a.toList.drop i).take (j - i):=by
 rw [Array.toList_extract,List.extract_eq_take_drop]
theorem a3f{a:Array Keyed}{i:Nat}:(a.extract i a.size).toList=a.toList.drop i:=by
 rw [x8,List.take_of_length_le]
 rw [List.length_drop];exact AN _
section
variable {prog:AL}{w:AJ}{A:AO}{E:AA->AC->Prop}{s:AC}
variable {κ:SortKind}{S:Keyed->Prop}{R:Keyed->Keyed->Bool}
theorem a60(C:Q8 prog w A E s κ S R){key:Keyed}{arr:Array Keyed}{base n hint:Nat}{st:SortSt}{Q:Option Nat->SortSt->Prop}(hk:kindOf st=κ)(hn:base+n<=arr.size)(hh:hint<n)
 (hS:∀i,i<n->S (g arr (base+i))) (hy:S key) (hs:Seg R arr base (base+n))
 (h:∀k,k<=n->(∀i,i<k->le R (g arr (base+i)) key)->(∀i,k<=i->i<n->R key (g arr (base+i))=true)->Q (some k) st):
 wpS (model prog w) A E s (gal false key arr base n hint) Q st:=by
 refine b3n C hk hn hh hS hy (fun i j hij hj e=> ?_) fun k k1 k2 k3=>h k k1 (fun i hi=> ?_) (fun i a b=> ?_)
 ·have e':R key (g arr (base+j))=false:=by simpa [bb] using e
  have:R key (g arr (base+i))=false:=C.tr _ (g arr (base+j)) _ (hS _ (by lia)) (hS _ hj) hy (hs _ _ (by lia) (by lia) (by lia)) e'
  simpa [bb] using this
 ·exact(by simpa [bb] using k2 i hi:R key (g arr (base+i))=false)
 ·simpa [bb] using k3 i a b
theorem a61(C:Q8 prog w A E s κ S R){key:Keyed}{arr:Array Keyed}{base n hint:Nat}{st:SortSt}{Q:Option Nat->SortSt->Prop}(hk:kindOf st=κ)(hn:base+n<=arr.size)(hh:hint<n)
 (hS:∀i,i<n->S (g arr (base+i))) (hy:S key) (hs:Seg R arr base (base+n))
 (h:∀k,k<=n->(∀i,i<k->R (g arr (base+i)) key=true)->(∀i,k<=i->i<n->le R key (g arr (base+i)))->Q (some k) st):
 wpS (model prog w) A E s (gal true key arr base n hint) Q st:=by
 refine b3n C hk hn hh hS hy (fun i j hij hj e=> ?_) fun k k1 k2 k3=>h k k1 (fun i hi=> ?_) (fun i a b=> ?_)
 ·have e':R (g arr (base+j)) key=true:=by simpa [bb] using e
  cases hi:R (g arr (base+i)) key
  ·have:=C.tr _ (g arr (base+i)) _ hy (hS _ (by lia)) (hS _ hj) hi (hs _ _ (by lia) (by lia) (by lia))
   rw [this] at e';cases e'
  ·simpa [bb] using hi
 ·simpa [bb] using k2 i hi
 ·exact(by simpa [bb] using k3 i a b:R (g arr (base+i)) key=false)
structure Sm(st st':SortSt):Prop where
 k:kindOf st'=kindOf st
 a:arrOf st'=arrOf st
 p:pendingOf st'=pendingOf st
 f:failedOf st'=failedOf st
theorem Sm.refl{st:SortSt}:Sm st st:=⟨rfl,rfl,rfl,rfl⟩
def b0W:Nat->SM Unit:=sortPriv% PySem.Builtin.setMinGallop
theorem b40(k:Nat):b0W k=modify fun st=>SortSt.mk' (kindOf st) (arrOf st) (pendingOf st) k (failedOf st):=rfl
theorem a3r{k:Nat}{st₀ st:SortSt}{Q:Unit->SortSt->Prop}(m:Sm st₀ st)(h:∀st',Sm st₀ st'->Q () st'):wpS (model prog w) A E s (b0W k) Q st:=by
 rw [b40];exact wpS_modify (h _ ⟨m.k,m.a,m.p,m.f⟩)
def mLo:Array Keyed->Array Keyed->SM (Array Keyed):=sortPriv% PySem.Builtin.mergeLo
def mHi:Array Keyed->Array Keyed->SM (Array Keyed):=sortPriv% PySem.Builtin.mergeHi
def rs(a b o:Array Keyed)(i j:Nat):Array Keyed:=o++a.extract i a.size++b.extract j b.size
def D(R:Keyed->Keyed->Bool)(a b o:Array Keyed)(i j:Nat):Prop:=Mg R (a.toList++b.toList) o.toList (a.toList.drop i) (b.toList.drop j)
structure Two(S:Keyed->Prop)(R:Keyed->Keyed->Bool)(a b:Array Keyed):Prop where
 Sa:∀i,i<a.size->S (g a i)
 Sb:∀i,i<b.size->S (g b i)
 sa:Seg R a 0 a.size
 sb:Seg R b 0 b.size
 pa:0<a.size
 pb:0<b.size
 lo:∀i,i<a.size->le R (g b 0) (g a i)
 hi:∀j,j<b.size->le R (g b j) (g a (a.size - 1))
theorem D.takeAk(C:Q8 prog w A E s κ S R){a b o:Array Keyed}{i j k:Nat}(T:Two S R a b)(h:D R a b o i j)(hk:i+k<=a.size)(hj:j<b.size)(q:∀l,l<k->le R (g a (i+l)) (g b j)):
 D R a b (o++a.extract i (i+k)) (i+k) j:=by
 unfold D at h ⊢
 rw [Array.toList_append,x8,show i+k - i=k by lia]
 refine Mg.takeA (by rw [<-List.drop_drop,List.take_append_drop];exact h) fun x hx y hy=> ?_
 obtain⟨l,hl,rfl⟩:=N7 hx hk
 obtain⟨m,hm,hm2,rfl⟩:=a4n hy
 exact C.tr _ (g b j) _ (T.Sa _ (by lia)) (T.Sb _ hj) (T.Sb _ hm2) (q l hl) (T.sb j m (by lia) hm hm2)
theorem D.takeBk(C:Q8 prog w A E s κ S R){a b o:Array Keyed}{i j k:Nat}(T:Two S R a b)(h:D R a b o i j)(hk:j+k<=b.size)(hi:i<a.size)(q:∀l,l<k->le R (g b (j+l)) (g a i)):
 D R a b (o++b.extract j (j+k)) i (j+k):=by
 unfold D at h ⊢
 rw [Array.toList_append,x8,show j+k - j=k by lia]
 refine Mg.takeB (by rw [<-List.drop_drop,List.take_append_drop];exact h) fun x hx y hy=> ?_
 obtain⟨l,hl,rfl⟩:=N7 hx hk
 obtain⟨m,hm,hm2,rfl⟩:=a4n hy
 exact C.tr _ (g a i) _ (T.Sb _ (by lia)) (T.Sa _ hi) (T.Sa _ hm2) (q l hl) (T.sa i m (by lia) hm hm2)
theorem a4F{o a:Array Keyed}{i:Nat}(h:i<a.size):o.push (g a i)=o++a.extract i (i+1):=by
 apply Array.toList_inj.mp
 rw [Array.toList_push,Array.toList_append,x8,a0f h,show i+1 - i=1 by lia]
 rfl
theorem D.takeA(C:Q8 prog w A E s κ S R){a b o:Array Keyed}{i j:Nat}(T:Two S R a b)(h:D R a b o i j)(hi:i<a.size)(hj:j<b.size)(q:le R (g a i) (g b j)):D R a b (o.push (g a i)) (i+1) j:=by
 rw [a4F hi]
 exact h.takeAk C T (by lia) hj fun l hl=>by rw [show i+l=i by lia];exact q
theorem D.takeB(C:Q8 prog w A E s κ S R){a b o:Array Keyed}{i j:Nat}(T:Two S R a b)(h:D R a b o i j)(hi:i<a.size)(hj:j<b.size)(q:le R (g b j) (g a i)):D R a b (o.push (g b j)) i (j+1):=by
 rw [a4F hj]
 exact h.takeBk C T (by lia) hi fun l hl=>by rw [show j+l=j by lia];exact q
theorem D.done{a b o:Array Keyed}{i j:Nat}(h:D R a b o i j)(e:i=a.size\/j=b.size):P8 R (a.toList++b.toList) (rs a b o i j).toList:=by
 unfold rs
 rw [Array.toList_append,Array.toList_append,a3f,a3f]
 unfold D at h
 have nil:∀c:Array Keyed,c.toList.drop c.size=[]:=fun c=>List.drop_eq_nil_of_le (AN _)
 rcases e with rfl|rfl
 ·rw [nil] at h ⊢;rw [Am];exact h.doneA
 ·rw [nil] at h ⊢;rw [Am];exact h.doneB
theorem D.last{a b o:Array Keyed}{i j:Nat}(T:Two S R a b)(h:D R a b o i j)(e:i+1=a.size):P8 R (a.toList++b.toList) (rs b a o j i).toList:=by
 unfold rs
 rw [Array.toList_append,Array.toList_append,a3f,a3f]
 unfold D at h
 have e1:a.toList.drop i=[g a (a.size - 1)]:=by
  rw [a0f (by lia),e,show i=a.size - 1 by lia]
  congr 1
  exact List.drop_eq_nil_of_le (AN _)
 rw [e1] at h ⊢
 exact h.last fun y hy=>by
  obtain⟨m,hm,hm2,rfl⟩:=a4n hy
  exact T.hi m hm2
abbrev LoT:=Option (Array Keyed)×Array Keyed×Nat×Nat×Nat×Nat×Nat
def loC(a b o:Array Keyed)(i j mg u v:Nat):StateT SortSt Sem (ForInStep LoT):=do
 let y<-elem' a i
 if i+1+1==a.size then
  pure (.done (some (rs b a (o.push y) j (i+1)),o.push y,i+1,j,mg,u,v))
 else if u<7 && v<7 then
  pure (.done (none,o.push y,i+1,j,mg,u,v))
 else
  pure (.yield (none,o.push y,i+1,j,mg,u,v))
def loB(a b o:Array Keyed)(i j mg u v:Nat):StateT SortSt Sem (ForInStep LoT):=do
 let x<-elem' b j
 if j+1==b.size then
  pure (.done (some (rs a b (o.push x) i (j+1)),o.push x,i,j+1,mg,u,v))
 else do
  let y<-elem' a i
  let z<-gal true y b (j+1) (b.size - (j+1)) 0
  match z with
  |some k=>
   if k>0 then
    if j+1+k==b.size then
     pure (.done (some (rs a b (o.push x++b.extract (j+1) (j+1+k)) i (j+1+k)),o.push x++b.extract (j+1) (j+1+k),i,j+1+k,mg,u,k))
    else loC a b (o.push x++b.extract (j+1) (j+1+k)) i (j+1+k) mg u k
   else loC a b (o.push x) i (j+1) mg u k
  |_=>pure (.done (some (rs a b (o.push x) i (j+1)),o.push x,i,j+1,mg,u,v))
def loA(a b o:Array Keyed)(i j mg u v:Nat):StateT SortSt Sem (ForInStep LoT):=do
 b0W mg
 let x<-elem' b j
 let z<-gal false x a i (a.size - i) 0
 match z with
 |some k=>
  if k>0 then
   if i+k+1==a.size then
    pure (.done (some (rs b a (o++a.extract i (i+k)) j (i+k)),o++a.extract i (i+k),i+k,j,mg,k,v))
   else if i+k==a.size then
    pure (.done (some (rs a b (o++a.extract i (i+k)) (i+k) j),o++a.extract i (i+k),i+k,j,mg,k,v))
   else loB a b (o++a.extract i (i+k)) (i+k) j mg k v
  else loB a b o i j mg k v
 |_=>pure (.done (some (rs a b o i j),o,i,j,mg,u,v))
def LoQ(R:Keyed->Keyed->Bool)(a b:Array Keyed)(st:SortSt)(x₀ x:Nat):ForInStep LoT->SortSt->Prop:=fun r st'=>match r with
 | .done c=>Sm st st'/\((∃r,c.1=some r/\P8 R (a.toList++b.toList) r.toList)\/(c.1=none/\D R a b c.2.1 c.2.2.1 c.2.2.2.1/\c.2.2.1+1<a.size/\c.2.2.2.1<b.size/\x₀+1<=c.2.2.1+c.2.2.2.1))
 | .yield c=>c.1=none/\Sm st st'/\D R a b c.2.1 c.2.2.1 c.2.2.2.1/\c.2.2.1+1<a.size/\c.2.2.2.1<b.size/\x₀+(x+1)<=c.2.2.1+c.2.2.2.1
section
variable {a b o:Array Keyed}{st st':SortSt}{i j mg u v x₀ x:Nat}
theorem b3t(C:Q8 prog w A E s κ S R)(T:Two S R a b)(m:Sm st st')(d:D R a b o i j)(hi:i+1<a.size)(hj:j<b.size)(q:le R (g a i) (g b j))(hp:x₀+x<=i+j):wpS (model prog w) A E s (loC a b o i j mg u v) (LoQ R a b st x₀ x) st':=by
 unfold loC
 refine wpS_bind (o8 (by lia) ?_)
 have d4:=D.takeA C T d (by lia) hj q
 by_cases e6:i+1+1=a.size
 ·rw [if_pos (by simpa using e6)]
  exact wpS_pure ⟨m,.inl ⟨_,rfl,d4.last T e6⟩⟩
 rw [if_neg (by simpa using e6)]
 split
 ·exact wpS_pure ⟨m,.inr ⟨rfl,d4,(show i+1+1<a.size by lia),hj,(show x₀+1<=i+1+j by lia)⟩⟩
 ·exact wpS_pure ⟨rfl,m,d4,(show i+1+1<a.size by lia),hj,(show x₀+(x+1)<=i+1+j by lia)⟩
theorem b3s(C:Q8 prog w A E s κ S R)(T:Two S R a b)(hk:kindOf st=κ)(m:Sm st st')(d:D R a b o i j)(hi:i+1<a.size)(hj:j<b.size)(q:le R (g b j) (g a i))(hp:x₀+x<=i+j):wpS (model prog w) A E s (loB a b o i j mg u v) (LoQ R a b st x₀ x) st':=by
 unfold loB
 have d3:=D.takeB C T d (by lia) hj q
 refine wpS_bind (o8 hj ?_)
 by_cases e5:j+1=b.size
 ·rw [if_pos (by simpa using e5)]
  exact wpS_pure ⟨m,.inl ⟨_,rfl,d3.done (.inr e5)⟩⟩
 rw [if_neg (by simpa using e5)]
 refine wpS_bind (o8 (by lia) ?_)
 refine wpS_bind (a61 C (m.k.trans hk) (by lia) (by lia) (fun l hl=>T.Sb _ (by lia)) (T.Sa _ (by lia)) (fun p q h1 h2 h3=>T.sb p q (by lia) h2 (by lia)) fun k' q1 q2 q3=> ?_)
 dsimp only
 by_cases hk':k'>0
 ·rw [if_pos hk']
  have d5:=d3.takeBk C T (k:=k') (by lia) (by lia) fun l hl=>C.as _ _ (T.Sb _ (by lia)) (T.Sa _ (by lia)) (q2 l hl)
  by_cases e7:j+1+k'=b.size
  ·rw [if_pos (by simpa using e7)]
   exact wpS_pure ⟨m,.inl ⟨_,rfl,d5.done (.inr e7)⟩⟩
  rw [if_neg (by simpa using e7)]
  exact b3t C T m d5 hi (by lia) (q3 k' (AN _) (by lia)) (by lia)
 ·rw [if_neg hk']
  exact b3t C T m d3 hi (by lia) (by have:=q3 0 (by lia) (by lia);rwa [Nat.add_zero] at this) (by lia)
theorem b3r(C:Q8 prog w A E s κ S R)(T:Two S R a b)(hk:kindOf st=κ)(m:Sm st st')(d:D R a b o i j)(hi:i+1<a.size)(hj:j<b.size)(hp:x₀+x<=i+j):wpS (model prog w) A E s (loA a b o i j mg u v) (LoQ R a b st x₀ x) st':=by
 unfold loA
 refine wpS_bind (a3r m fun st3 m3=> ?_)
 refine wpS_bind (o8 hj ?_)
 refine wpS_bind (a60 C (m3.k.trans hk) (by lia) (by lia) (fun l hl=>T.Sa _ (by lia)) (T.Sb _ hj) (fun p q h1 h2 h3=>T.sa p q (by lia) h2 (by lia)) fun k k1 k2 k3=> ?_)
 dsimp only
 by_cases hk0:k>0
 ·rw [if_pos hk0]
  have d2:=d.takeAk C T (k:=k) (by lia) hj k2
  by_cases e3:i+k+1=a.size
  ·rw [if_pos (by simpa using e3)]
   exact wpS_pure ⟨m3,.inl ⟨_,rfl,d2.last T e3⟩⟩
  rw [if_neg (by simpa using e3)]
  by_cases e4:i+k=a.size
  ·rw [if_pos (by simpa using e4)]
   exact wpS_pure ⟨m3,.inl ⟨_,rfl,d2.done (.inl e4)⟩⟩
  rw [if_neg (by simpa using e4)]
  exact b3s C T hk m3 d2 (by lia) hj (C.as _ _ (T.Sb _ hj) (T.Sa _ (by lia)) (k3 k (AN _) (by lia))) (by lia)
 ·rw [if_neg hk0]
  exact b3s C T hk m3 d hi hj (C.as _ _ (T.Sb _ hj) (T.Sa _ (by lia)) (by have:=k3 0 (by lia) (by lia);rwa [Nat.add_zero] at this)) hp
end
abbrev LoV:=Option (Array Keyed)×Array Keyed×Nat×Nat×Nat×Nat
abbrev LoU:=Option (Array Keyed)×Array Keyed×Nat×Nat×Nat
def loS(a b:Array Keyed)(mg:Nat)(c:LoV):StateT SortSt Sem (ForInStep LoV):=do
 let y<-elem' b c.2.2.2.1
 let x<-elem' a c.2.2.1
 let t<-lt' y x
 match t with
 |some t=>
  if t then
   let z<-elem' b c.2.2.2.1
   if c.2.2.2.1+1==b.size then
    pure (.done (some (rs a b (c.2.1.push z) c.2.2.1 (c.2.2.2.1+1)),c.2.1.push z,c.2.2.1,c.2.2.2.1+1,0,c.2.2.2.2.2+1))
   else if c.2.2.2.2.2+1>=mg then
    pure (.done (none,c.2.1.push z,c.2.2.1,c.2.2.2.1+1,0,c.2.2.2.2.2+1))
   else pure (.yield (none,c.2.1.push z,c.2.2.1,c.2.2.2.1+1,0,c.2.2.2.2.2+1))
  else
   let z<-elem' a c.2.2.1
   if c.2.2.1+1+1==a.size then
    pure (.done (some (rs b a (c.2.1.push z) c.2.2.2.1 (c.2.2.1+1)),c.2.1.push z,c.2.2.1+1,c.2.2.2.1,c.2.2.2.2.1+1,0))
   else if c.2.2.2.2.1+1>=mg then
    pure (.done (none,c.2.1.push z,c.2.2.1+1,c.2.2.2.1,c.2.2.2.2.1+1,0))
   else pure (.yield (none,c.2.1.push z,c.2.2.1+1,c.2.2.2.1,c.2.2.2.2.1+1,0))
 |_=>pure (.done (some (rs a b c.2.1 c.2.2.1 c.2.2.2.1),c.2.1,c.2.2.1,c.2.2.2.1,c.2.2.2.2.1,c.2.2.2.2.2))
def loG(a b:Array Keyed)(c:LoT):StateT SortSt Sem (ForInStep LoT):=
 if c.2.2.2.2.1>1 then loA a b c.2.1 c.2.2.1 c.2.2.2.1 (c.2.2.2.2.1 - 1) c.2.2.2.2.2.1 c.2.2.2.2.2.2 else loA a b c.2.1 c.2.2.1 c.2.2.2.1 c.2.2.2.2.1 c.2.2.2.2.2.1 c.2.2.2.2.2.2
def loT(a b:Array Keyed)(c:LoU):StateT SortSt Sem (ForInStep LoU):=do
 let r<-forIn [0:a.size+b.size] ((none,c.2.1,c.2.2.1,c.2.2.2.1,0,0):LoV) fun _ r=>loS a b c.2.2.2.2 r
 match r.1 with
 |none=>do
  rule "list.sort.gallop"
  let q<-forIn [0:a.size+b.size] ((none,r.2.1,r.2.2.1,r.2.2.2.1,c.2.2.2.2+1,r.2.2.2.2.1,r.2.2.2.2.2):LoT) fun _ q=>loG a b q
  match q.1 with
  |none=>do
   b0W (q.2.2.2.2.1+1)
   pure (.yield (none,q.2.1,q.2.2.1,q.2.2.2.1,q.2.2.2.2.1+1))
  |some x=>pure (.done (some x,q.2.1,q.2.2.1,q.2.2.2.1,q.2.2.2.2.1))
 |some x=>pure (.done (some x,r.2.1,r.2.2.1,r.2.2.2.1,c.2.2.2.2))
theorem b6o(p q:Array Keyed):mLo p q=(do
 rule "list.sort.merge-lo"
 let x<-elem' q 0
 if 1==q.size then
  pure (rs p q #[x] 0 1)
 else if 0+1==p.size then
  pure (rs q p #[x] 1 0)
 else do
  let z<-get
  let r<-forIn [0:p.size+q.size] ((none, #[x],0,1,gallopOf z):LoU) fun _ c=>loT p q c
  match r.1 with
  |none=>unsupported "internal:list.sort.merge-bound"
  |some v=>pure v):=by kernel_rfl
abbrev LoI(R:Keyed->Keyed->Bool)(a b:Array Keyed)(st:SortSt)(k:Nat)(c:Option (Array Keyed))(o:Array Keyed)(i j:Nat)(st':SortSt):Prop:=c=none/\Sm st st'/\D R a b o i j/\i+1<a.size/\j<b.size/\k<=i+j
abbrev LoE(R:Keyed->Keyed->Bool)(a b:Array Keyed)(st:SortSt)(k:Nat)(c:Option (Array Keyed))(o:Array Keyed)(i j:Nat)(st':SortSt):Prop:=Sm st st'/\((∃r,c=some r/\P8 R (a.toList++b.toList) r.toList)\/(c=none/\D R a b o i j/\i+1<a.size/\j<b.size/\k<=i+j))
section
variable {a b:Array Keyed}{st st':SortSt}{x₀ x mg:Nat}
theorem b7f(C:Q8 prog w A E s κ S R)(T:Two S R a b)(hk:kindOf st=κ){c:LoV}(h:LoI R a b st x₀ c.1 c.2.1 c.2.2.1 c.2.2.2.1 st'):wpS (model prog w) A E s (loS a b mg c) (fun r st'=>match r with| .done c'=>LoE R a b st x₀ c'.1 c'.2.1 c'.2.2.1 c'.2.2.2.1 st'| .yield c'=>LoI R a b st x₀ c'.1 c'.2.1 c'.2.2.1 c'.2.2.2.1 st') st':=by
 obtain⟨c,o,i,j,u,v⟩:=c
 obtain⟨hc,m,d,hi,hj,hp⟩:=h
 dsimp only at*
 unfold loS
 dsimp only
 refine wpS_bind (o8 hj (wpS_bind (o8 (by lia) (wpS_bind (C.lt _ _ (T.Sb _ hj) (T.Sa _ (by lia)) st' _ (m.k.trans hk) ?_)))))
 dsimp only
 cases hl:R (g b j) (g a i)
 ·simp only [At,if_false]
  refine wpS_bind (o8 (by lia) ?_)
  have d2:=D.takeA C T d (by lia) hj hl
  by_cases e3:i+1+1=a.size
  ·rw [if_pos (by simpa using e3)]
   exact wpS_pure ⟨m,.inl ⟨_,rfl,d2.last T e3⟩⟩
  rw [if_neg (by simpa using e3)]
  split
  ·exact wpS_pure ⟨m,.inr ⟨rfl,d2,(show i+1+1<a.size by lia),hj,(show x₀<=i+1+j by lia)⟩⟩
  ·exact wpS_pure ⟨rfl,m,d2,(show i+1+1<a.size by lia),hj,(show x₀<=i+1+j by lia)⟩
 ·simp only [if_true]
  refine wpS_bind (o8 hj ?_)
  have d2:=D.takeB C T d (by lia) hj (C.as _ _ (T.Sb _ hj) (T.Sa _ (by lia)) hl)
  by_cases e3:j+1=b.size
  ·rw [if_pos (by simpa using e3)]
   exact wpS_pure ⟨m,.inl ⟨_,rfl,d2.done (.inr e3)⟩⟩
  rw [if_neg (by simpa using e3)]
  split
  ·exact wpS_pure ⟨m,.inr ⟨rfl,d2,hi,(show j+1<b.size by lia),(show x₀<=i+(j+1) by lia)⟩⟩
  ·exact wpS_pure ⟨rfl,m,d2,hi,(show j+1<b.size by lia),(show x₀<=i+(j+1) by lia)⟩
theorem b7e(C:Q8 prog w A E s κ S R)(T:Two S R a b)(hk:kindOf st=κ){c:LoT}(h:LoI R a b st (x₀+x) c.1 c.2.1 c.2.2.1 c.2.2.2.1 st'):wpS (model prog w) A E s (loG a b c) (fun r st'=>match r with| .done c'=>LoE R a b st (x₀+1) c'.1 c'.2.1 c'.2.2.1 c'.2.2.2.1 st'| .yield c'=>LoI R a b st (x₀+(x+1)) c'.1 c'.2.1 c'.2.2.1 c'.2.2.2.1 st') st':=by
 obtain⟨hc,m,d,hi,hj,hp⟩:=h
 unfold loG
 split
 ·exact b3r C T hk m d hi hj hp
 ·exact b3r C T hk m d hi hj hp
theorem b7g(C:Q8 prog w A E s κ S R)(T:Two S R a b)(hk:kindOf st=κ){c:LoU}(h:LoI R a b st x₀ c.1 c.2.1 c.2.2.1 c.2.2.2.1 st'):wpS (model prog w) A E s (loT a b c) (fun r st'=>match r with| .done c'=>Sm st st'/\∃r,c'.1=some r/\P8 R (a.toList++b.toList) r.toList| .yield c'=>LoI R a b st (x₀+1) c'.1 c'.2.1 c'.2.2.1 c'.2.2.2.1 st') st':=by
 obtain⟨hc,h⟩:=h
 unfold loT
 refine wpS_bind (wpS_mono (wpS_forRange (I:=fun _ c st'=>LoI R a b st x₀ c.1 c.2.1 c.2.2.1 c.2.2.2.1 st') (Q:=fun c st'=>LoE R a b st x₀ c.1 c.2.1 c.2.2.1 c.2.2.2.1 st') (fun _ _ _ _ _ h=>wpS_mono (b7f C T hk h) fun r _ q=>by cases r<;>exact q) (fun c st' ⟨h1,h2,h3⟩=>⟨h2,.inr ⟨h1,h3⟩⟩) ⟨rfl,h⟩) ?_)
 rintro r st2 ⟨m,⟨y,e,gd⟩|⟨e,h⟩⟩
 ·rw [e]
  exact wpS_pure ⟨m,y,rfl,gd⟩
 rw [e]
 refine wpS_bind (wpS_lift (wpAny_rule ⟨rfl, ?_⟩))
 refine wpS_bind (wpS_mono (wpS_forRange (I:=fun x c st'=>LoI R a b st (x₀+x) c.1 c.2.1 c.2.2.1 c.2.2.2.1 st') (Q:=fun c st'=>LoE R a b st (x₀+1) c.1 c.2.1 c.2.2.1 c.2.2.2.1 st') (fun _ _ _ _ _ h=>wpS_mono (b7e C T hk h) fun r _ q=>by cases r<;>exact q) (fun c st' ⟨h1,h2,h3,h4,h5,h6⟩=>⟨h2,.inr ⟨h1,h3,h4,h5,by lia⟩⟩) ⟨rfl,m,h⟩) ?_)
 rintro q st3 ⟨m,⟨y,e,gd⟩|⟨e,h⟩⟩
 ·rw [e]
  exact wpS_pure ⟨m,y,rfl,gd⟩
 rw [e]
 exact wpS_bind (a3r m fun st3 m3=>wpS_pure ⟨rfl,m3,h⟩)
end
theorem b7j(C:Q8 prog w A E s κ S R){a b:Array Keyed}(T:Two S R a b){st:SortSt}(hk:kindOf st=κ){Q:Array Keyed->SortSt->Prop}
 (h:∀r st',Sm st st'->P8 R (a.toList++b.toList) r.toList->Q r st'):wpS (model prog w) A E s (mLo a b) Q st:=by
 rw [b6o]
 refine wpS_bind (wpS_lift (wpAny_rule ⟨rfl, ?_⟩))
 refine wpS_bind (o8 T.pb ?_)
 have pw:∀c:Array Keyed,Seg R c 0 c.size->c.toList.Pairwise (le R):=fun c hc=>by
  rw [List.pairwise_iff_getElem]
  intro i j hi hj hij
  have h1:=N4 (a:=c) hi
  have h2:=N4 (a:=c) hj
  rw [BA hi] at h1
  rw [BA hj] at h2
  rw [Option.some.inj h1,Option.some.inj h2]
  exact hc i j (Nat.zero_le _) (by lia) hj
 have d0:D R a b #[g b 0] 0 1:=by
  have:D R a b #[] 0 0:=by
   refine⟨?_, ?_,List.Perm.refl _⟩
   ·exact pw a T.sa
   ·exact pw b T.sb
  exact this.takeB C T T.pa T.pb (T.lo 0 T.pa)
 have pa:=T.pa
 have pb:=T.pb
 by_cases e1:1=b.size
 ·rw [if_pos (by simpa using e1)]
  exact wpS_pure (h _ _ Sm.refl (d0.done (.inr e1)))
 rw [if_neg (by simpa using e1)]
 by_cases e2:0+1=a.size
 ·rw [if_pos (by simpa using e2)]
  exact wpS_pure (h _ _ Sm.refl (d0.last T e2))
 rw [if_neg (by simpa using e2)]
 refine wpS_bind (wpS_get ?_)
 refine wpS_bind (wpS_mono (wpS_forRange (I:=fun x c st'=>LoI R a b st x c.1 c.2.1 c.2.2.1 c.2.2.2.1 st')
  (Q:=fun c st'=>Sm st st'/\∃r,c.1=some r/\P8 R (a.toList++b.toList) r.toList) (fun _ _ _ _ _ h=>wpS_mono (b7g C T hk h) fun r _ q=>by cases r<;>exact q) (fun c st' ⟨h1,h2,h3,h4,h5,h6⟩=>by lia) ⟨rfl,Sm.refl,d0,(show 0+1<a.size by lia),(show 1<b.size by lia),Nat.zero_le _⟩) ?_)
 rintro c st' ⟨m,r,e,gd⟩
 rw [e]
 exact wpS_pure (h r st' m gd)
end
def Mh(R:Keyed->Keyed->Bool)(W out la lb:List Keyed):Prop:=(la++out).Pairwise (le R)/\(lb++out).Pairwise (le R)/\((la++lb)++out).Perm W
section
variable {R:Keyed->Keyed->Bool}{W out la lb xs:List Keyed}
theorem Mh.swap(h:Mh R W out la lb):Mh R W out lb la:=⟨h.2.1,h.1,(List.Perm.append_right out List.perm_append_comm).trans h.2.2⟩
theorem Mh.takeA(h:Mh R W out (la++xs) lb)(k:∀x∈xs,∀y∈lb,le R y x):Mh R W (xs++out) la lb:=by
 obtain⟨h1,h2,h3⟩:=h
 have e1:=List.pairwise_append.mp (show(la++(xs++out)).Pairwise (le R) by rw [<-List.append_assoc];exact h1)
 have e2:=List.pairwise_append.mp h2
 refine⟨by rw [<-List.append_assoc];exact h1,List.pairwise_append.mpr ⟨e2.1,e1.2.1,fun y hy x hx=> ?_⟩, ?_⟩
 ·rcases Ap.mp hx with hx|hx
  ·exact k x hx y hy
  ·exact e2.2.2 y hy x hx
 ·refine List.Perm.trans ?_ h3
  rw [<-List.append_assoc]
  refine List.Perm.append_right out ?_
  rw [List.append_assoc,List.append_assoc]
  exact List.Perm.append_left la List.perm_append_comm
theorem Mh.takeB(h:Mh R W out la (lb++xs))(k:∀x∈xs,∀y∈la,le R y x):Mh R W (xs++out) la lb:=(h.swap.takeA k).swap
theorem Mh.doneB(h:Mh R W out la []):P8 R W (la++out):=⟨h.1,by have:=h.2.2;rwa [Am] at this⟩
theorem Mh.doneA(h:Mh R W out [] lb):P8 R W (lb++out):=⟨h.2.1,h.2.2⟩
theorem Mh.first{x:Keyed}(h:Mh R W out la [x])(k:∀y∈la,le R x y):P8 R W ([x]++(la++out)):=by
 obtain⟨h1,h2,h3⟩:=h
 have e2:=List.pairwise_append.mp h2
 refine⟨List.pairwise_append.mpr ⟨e2.1,h1,fun y hy z hz=> ?_⟩, ?_⟩
 ·cases List.mem_singleton.mp hy
  rcases Ap.mp hz with hz|hz
  ·exact k z hz
  ·exact e2.2.2 x (List.mem_singleton.mpr rfl) z hz
 ·rw [<-List.append_assoc]
  exact(List.Perm.append_right out List.perm_append_comm).trans h3
end
theorem a4o{a:Array Keyed}{n:Nat}{x:Keyed}(hn:n<=a.size)(h:x∈a.toList.take n):∃j,j<n/\x=g a j:=by
 obtain⟨j,hj,e⟩:=N7 (i:=0) (k:=n) (a:=a) (x:=x) (by rwa [List.drop_zero]) (by lia)
 exact⟨j,hj,by rwa [Nat.zero_add] at e⟩
theorem V3{a:Array Keyed}{m n:Nat}(h:m<=n):a.toList.take n=a.toList.take m++(a.extract m n).toList:=by
 rw [x8,<-List.take_add,show m+(n - m)=n by lia]
theorem a1w(a:Array Keyed)(n:Nat):(a.extract 0 n).toList=a.toList.take n:=by
 rw [x8,List.drop_zero,Nat.sub_zero]
section
variable {prog:AL}{w:AJ}{A:AO}{E:AA->AC->Prop}{s:AC}
variable {κ:SortKind}{S:Keyed->Prop}{R:Keyed->Keyed->Bool}
def rh(a b o:Array Keyed)(i j:Nat):Array Keyed:=a.extract 0 i++b.extract 0 j++o.reverse
def H(R:Keyed->Keyed->Bool)(a b o:Array Keyed)(i j:Nat):Prop:=Mh R (a.toList++b.toList) o.toList.reverse (a.toList.take i) (b.toList.take j)
theorem H.takeAk(C:Q8 prog w A E s κ S R){a b o:Array Keyed}{i j m:Nat}(T:Two S R a b)(h:H R a b o i j)(hi:i<=a.size)(hm:m<=i)(hj:j<=b.size)(h0:0<j)(q:∀l,m<=l->l<i->le R (g b (j - 1)) (g a l)):
 H R a b (o++(a.extract m i).reverse) m j:=by
 unfold H at h ⊢
 rw [V3 hm] at h
 rw [Array.toList_append,Array.toList_reverse,List.reverse_append,List.reverse_reverse]
 refine Mh.takeA h fun x hx y hy=> ?_
 rw [x8] at hx
 obtain⟨l,hl,rfl⟩:=N7 hx (by lia)
 obtain⟨k,hk,rfl⟩:=a4o hj hy
 exact C.tr _ (g b (j - 1)) _ (T.Sb _ (by lia)) (T.Sb _ (by lia)) (T.Sa _ (by lia)) (T.sb k (j - 1) (by lia) (by lia) (by lia)) (q _ (by lia) (by lia))
theorem H.takeBk(C:Q8 prog w A E s κ S R){a b o:Array Keyed}{i j m:Nat}(T:Two S R a b)(h:H R a b o i j)(hj:j<=b.size)(hm:m<=j)(hi:i<=a.size)(h0:0<i)(q:∀l,m<=l->l<j->le R (g a (i - 1)) (g b l)):
 H R a b (o++(b.extract m j).reverse) i m:=by
 unfold H at h ⊢
 rw [V3 hm] at h
 rw [Array.toList_append,Array.toList_reverse,List.reverse_append,List.reverse_reverse]
 refine Mh.takeB h fun x hx y hy=> ?_
 rw [x8] at hx
 obtain⟨l,hl,rfl⟩:=N7 hx (by lia)
 obtain⟨k,hk,rfl⟩:=a4o hi hy
 exact C.tr _ (g a (i - 1)) _ (T.Sa _ (by lia)) (T.Sa _ (by lia)) (T.Sb _ (by lia)) (T.sa k (i - 1) (by lia) (by lia) (by lia)) (q _ (by lia) (by lia))
theorem a74{o a:Array Keyed}{i:Nat}(h:i<a.size):o.push (g a i)=o++(a.extract i (i+1)).reverse:=by
 rw [a4F h]
 congr 1
 apply Array.toList_inj.mp
 rw [Array.toList_reverse,x8,a0f h,show i+1 - i=1 by lia]
 rfl
theorem H.takeA(C:Q8 prog w A E s κ S R){a b o:Array Keyed}{i j:Nat}(T:Two S R a b)(h:H R a b o i j)(hi:i<=a.size)(hi0:0<i)(hj:j<=b.size)(h0:0<j)(q:le R (g b (j - 1)) (g a (i - 1))):H R a b (o.push (g a (i - 1))) (i - 1) j:=by
 rw [a74 (by lia),show i - 1+1=i by lia]
 exact h.takeAk C T hi (by lia) hj h0 fun l h1 h2=>by rw [show l=i - 1 by lia];exact q
theorem H.takeB(C:Q8 prog w A E s κ S R){a b o:Array Keyed}{i j:Nat}(T:Two S R a b)(h:H R a b o i j)(hj:j<=b.size)(hj0:0<j)(hi:i<=a.size)(h0:0<i)(q:le R (g a (i - 1)) (g b (j - 1))):H R a b (o.push (g b (j - 1))) i (j - 1):=by
 rw [a74 (by lia),show j - 1+1=j by lia]
 exact h.takeBk C T hj (by lia) hi h0 fun l h1 h2=>by rw [show l=j - 1 by lia];exact q
theorem H.done{a b o:Array Keyed}{i j:Nat}(h:H R a b o i j)(e:i=0\/j=0):P8 R (a.toList++b.toList) (rh a b o i j).toList:=by
 unfold rh
 rw [Array.toList_append,Array.toList_append,a1w,a1w,Array.toList_reverse]
 unfold H at h
 rcases e with rfl|rfl
 ·rw [List.take_zero] at h ⊢;exact h.doneA
 ·rw [List.take_zero] at h ⊢;rw [Am];exact h.doneB
theorem H.first{a b o:Array Keyed}{i j:Nat}(T:Two S R a b)(h:H R a b o i j)(hi:i<=a.size)(e:j=1):P8 R (a.toList++b.toList) (rh b a o j i).toList:=by
 unfold rh
 rw [Array.toList_append,Array.toList_append,a1w,a1w,Array.toList_reverse]
 unfold H at h
 subst e
 have e1:b.toList.take 1=[g b 0]:=by
  have:=a0f (a:=b) T.pb
  rw [List.drop_zero] at this
  rw [this];rfl
 rw [e1] at h ⊢
 rw [List.append_assoc]
 exact h.first fun y hy=>by
  obtain⟨m,hm,rfl⟩:=a4o hi hy
  exact T.lo m (by lia)
abbrev HiT:=Option (Array Keyed)×Nat×Nat×Array Keyed×Nat×Nat×Nat
def hiC(a b o:Array Keyed)(i j mg u v:Nat):StateT SortSt Sem (ForInStep HiT):=do
 let y<-elem' a (i - 1)
 if i - 1==0 then
  pure (.done (some (rh a b (o.push y) (i - 1) j),i - 1,j,o.push y,mg,u,v))
 else if u<7 && v<7 then
  pure (.done (none,i - 1,j,o.push y,mg,u,v))
 else
  pure (.yield (none,i - 1,j,o.push y,mg,u,v))
def hiB(a b o:Array Keyed)(i j mg u v:Nat):StateT SortSt Sem (ForInStep HiT):=do
 let x<-elem' b (j - 1)
 if j - 1==1 then
  pure (.done (some (rh b a (o.push x) (j - 1) i),i,j - 1,o.push x,mg,u,v))
 else do
  let y<-elem' a (i - 1)
  let z<-gal true y b 0 (j - 1) (j - 1 - 1)
  match z with
  |some t=>
   if j - 1 - t>0 then
    if t==1 then
     pure (.done (some (rh b a (o.push x++(b.extract t (j - 1)).reverse) t i),i,t,o.push x++(b.extract t (j - 1)).reverse,mg,u,j - 1 - t))
    else if t==0 then
     pure (.done (some (rh a b (o.push x++(b.extract t (j - 1)).reverse) i t),i,t,o.push x++(b.extract t (j - 1)).reverse,mg,u,j - 1 - t))
    else hiC a b (o.push x++(b.extract t (j - 1)).reverse) i t mg u (j - 1 - t)
   else hiC a b (o.push x) i (j - 1) mg u (j - 1 - t)
  |_=>pure (.done (some (rh a b (o.push x) i (j - 1)),i,j - 1,o.push x,mg,u,v))
def hiA(a b o:Array Keyed)(i j mg u v:Nat):StateT SortSt Sem (ForInStep HiT):=do
 b0W mg
 let x<-elem' b (j - 1)
 let z<-gal false x a 0 i (i - 1)
 match z with
 |some t=>
  if i - t>0 then
   if t==0 then
    pure (.done (some (rh a b (o++(a.extract t i).reverse) t j),t,j,o++(a.extract t i).reverse,mg,i - t,v))
   else hiB a b (o++(a.extract t i).reverse) t j mg (i - t) v
  else hiB a b o i j mg (i - t) v
 |_=>pure (.done (some (rh a b o i j),i,j,o,mg,u,v))
def HiQ(R:Keyed->Keyed->Bool)(a b:Array Keyed)(st:SortSt)(x₀ x:Nat):ForInStep HiT->SortSt->Prop:=fun r st'=>match r with
 | .done c=>Sm st st'/\((∃r,c.1=some r/\P8 R (a.toList++b.toList) r.toList)\/(c.1=none/\H R a b c.2.2.2.1 c.2.1 c.2.2.1/\0<c.2.1/\c.2.1<=a.size/\1<c.2.2.1/\c.2.2.1<=b.size/\x₀+1+(c.2.1+c.2.2.1)<=a.size+b.size))
 | .yield c=>c.1=none/\Sm st st'/\H R a b c.2.2.2.1 c.2.1 c.2.2.1/\0<c.2.1/\c.2.1<=a.size/\1<c.2.2.1/\c.2.2.1<=b.size/\x₀+(x+1)+(c.2.1+c.2.2.1)<=a.size+b.size
section
variable {a b o:Array Keyed}{st st':SortSt}{i j mg u v x₀ x:Nat}
theorem b3q(C:Q8 prog w A E s κ S R)(T:Two S R a b)(m:Sm st st')(d:H R a b o i j)(hi:0<i)(hia:i<=a.size)(hj:1<j)(hjb:j<=b.size)(q:le R (g b (j - 1)) (g a (i - 1)))(hp:x₀+x+(i+j)<=a.size+b.size):wpS (model prog w) A E s (hiC a b o i j mg u v) (HiQ R a b st x₀ x) st':=by
 unfold hiC
 refine wpS_bind (o8 (by lia) ?_)
 have d4:=H.takeA C T d hia hi hjb (by lia) q
 by_cases e6:i - 1=0
 ·rw [if_pos (by simpa using e6)]
  exact wpS_pure ⟨m,.inl ⟨_,rfl,d4.done (.inl e6)⟩⟩
 rw [if_neg (by simpa using e6)]
 split
 ·exact wpS_pure ⟨m,.inr ⟨rfl,d4,(show 0<i - 1 by lia),(show i - 1<=a.size by lia),hj,hjb,(show x₀+1+(i - 1+j)<=a.size+b.size by lia)⟩⟩
 ·exact wpS_pure ⟨rfl,m,d4,(show 0<i - 1 by lia),(show i - 1<=a.size by lia),hj,hjb,(show x₀+(x+1)+(i - 1+j)<=a.size+b.size by lia)⟩
theorem b3p(C:Q8 prog w A E s κ S R)(T:Two S R a b)(hk:kindOf st=κ)(m:Sm st st')(d:H R a b o i j)(hi:0<i)(hia:i<=a.size)(hj:1<j)(hjb:j<=b.size)(q:le R (g a (i - 1)) (g b (j - 1)))(hp:x₀+x+(i+j)<=a.size+b.size):wpS (model prog w) A E s (hiB a b o i j mg u v) (HiQ R a b st x₀ x) st':=by
 unfold hiB
 have d3:=H.takeB C T d hjb (by lia) hia hi q
 refine wpS_bind (o8 (by lia) ?_)
 by_cases e5:j - 1=1
 ·rw [if_pos (by simpa using e5)]
  exact wpS_pure ⟨m,.inl ⟨_,rfl,d3.first T (by lia) e5⟩⟩
 rw [if_neg (by simpa using e5)]
 refine wpS_bind (o8 (by lia) ?_)
 refine wpS_bind (a61 C (m.k.trans hk) (by lia) (by lia) (fun l hl=>T.Sb _ (by lia)) (T.Sa _ (by lia)) (fun p q h1 h2 h3=>T.sb p q (by lia) h2 (by lia)) fun k' q1 q2 q3=> ?_)
 simp only [Nat.zero_add] at q2 q3
 dsimp only
 by_cases hk':j - 1 - k'>0
 ·rw [if_pos hk']
  have d5:=d3.takeBk C T (m:=k') (by lia) q1 (by lia) (by lia) q3
  by_cases e7:k'=1
  ·rw [if_pos (by simpa using e7)]
   exact wpS_pure ⟨m,.inl ⟨_,rfl,d5.first T (by lia) e7⟩⟩
  rw [if_neg (by simpa using e7)]
  by_cases e8:k'=0
  ·rw [if_pos (by simpa using e8)]
   exact wpS_pure ⟨m,.inl ⟨_,rfl,d5.done (.inr e8)⟩⟩
  rw [if_neg (by simpa using e8)]
  exact b3q C T m d5 hi hia (by lia) (by lia) (C.as _ _ (T.Sb _ (by lia)) (T.Sa _ (by lia)) (q2 (k' - 1) (by lia))) (by lia)
 ·rw [if_neg hk']
  exact b3q C T m d3 hi hia (by lia) (by lia) (C.as _ _ (T.Sb _ (by lia)) (T.Sa _ (by lia)) (q2 (j - 1 - 1) (by lia))) (by lia)
theorem b3o(C:Q8 prog w A E s κ S R)(T:Two S R a b)(hk:kindOf st=κ)(m:Sm st st')(d:H R a b o i j)(hi:0<i)(hia:i<=a.size)(hj:1<j)(hjb:j<=b.size)(hp:x₀+x+(i+j)<=a.size+b.size):wpS (model prog w) A E s (hiA a b o i j mg u v) (HiQ R a b st x₀ x) st':=by
 unfold hiA
 refine wpS_bind (a3r m fun st3 m3=> ?_)
 refine wpS_bind (o8 (by lia) ?_)
 refine wpS_bind (a60 C (m3.k.trans hk) (by lia) (by lia) (fun l hl=>T.Sa _ (by lia)) (T.Sb _ (by lia)) (fun p q h1 h2 h3=>T.sa p q (by lia) h2 (by lia)) fun k k1 k2 k3=> ?_)
 simp only [Nat.zero_add] at k2 k3
 dsimp only
 by_cases hk0:i - k>0
 ·rw [if_pos hk0]
  have d2:=d.takeAk C T (m:=k) hia k1 hjb (by lia) fun l h1 h2=>C.as _ _ (T.Sb _ (by lia)) (T.Sa _ (by lia)) (k3 l h1 h2)
  by_cases e3:k=0
  ·rw [if_pos (by simpa using e3)]
   exact wpS_pure ⟨m3,.inl ⟨_,rfl,d2.done (.inl e3)⟩⟩
  rw [if_neg (by simpa using e3)]
  exact b3p C T hk m3 d2 (by lia) (by lia) hj hjb (k2 (k - 1) (by lia)) (by lia)
 ·rw [if_neg hk0]
  exact b3p C T hk m3 d hi hia hj hjb (k2 (i - 1) (by lia)) hp
end
abbrev HiV:=Option (Array Keyed)×Nat×Nat×Array Keyed×Nat×Nat
abbrev HiU:=Option (Array Keyed)×Nat×Nat×Array Keyed×Nat
def hiS(a b:Array Keyed)(mg:Nat)(c:HiV):StateT SortSt Sem (ForInStep HiV):=do
 let y<-elem' b (c.2.2.1 - 1)
 let x<-elem' a (c.2.1 - 1)
 let t<-lt' y x
 match t with
 |some t=>
  if t then
   let z<-elem' a (c.2.1 - 1)
   if c.2.1 - 1==0 then
    pure (.done (some (rh a b (c.2.2.2.1.push z) (c.2.1 - 1) c.2.2.1),c.2.1 - 1,c.2.2.1,c.2.2.2.1.push z,c.2.2.2.2.1+1,0))
   else if c.2.2.2.2.1+1>=mg then
    pure (.done (none,c.2.1 - 1,c.2.2.1,c.2.2.2.1.push z,c.2.2.2.2.1+1,0))
   else pure (.yield (none,c.2.1 - 1,c.2.2.1,c.2.2.2.1.push z,c.2.2.2.2.1+1,0))
  else
   let z<-elem' b (c.2.2.1 - 1)
   if c.2.2.1 - 1==1 then
    pure (.done (some (rh b a (c.2.2.2.1.push z) (c.2.2.1 - 1) c.2.1),c.2.1,c.2.2.1 - 1,c.2.2.2.1.push z,0,c.2.2.2.2.2+1))
   else if c.2.2.2.2.2+1>=mg then
    pure (.done (none,c.2.1,c.2.2.1 - 1,c.2.2.2.1.push z,0,c.2.2.2.2.2+1))
   else pure (.yield (none,c.2.1,c.2.2.1 - 1,c.2.2.2.1.push z,0,c.2.2.2.2.2+1))
 |_=>pure (.done (some (rh a b c.2.2.2.1 c.2.1 c.2.2.1),c.2.1,c.2.2.1,c.2.2.2.1,c.2.2.2.2.1,c.2.2.2.2.2))
def hiG(a b:Array Keyed)(c:HiT):StateT SortSt Sem (ForInStep HiT):=
 if c.2.2.2.2.1>1 then hiA a b c.2.2.2.1 c.2.1 c.2.2.1 (c.2.2.2.2.1 - 1) c.2.2.2.2.2.1 c.2.2.2.2.2.2 else hiA a b c.2.2.2.1 c.2.1 c.2.2.1 c.2.2.2.2.1 c.2.2.2.2.2.1 c.2.2.2.2.2.2
def hiX(a b:Array Keyed)(c:HiU):StateT SortSt Sem (ForInStep HiU):=do
 let r<-forIn [0:a.size+b.size] ((none,c.2.1,c.2.2.1,c.2.2.2.1,0,0):HiV) fun _ r=>hiS a b c.2.2.2.2 r
 match r.1 with
 |none=>do
  rule "list.sort.gallop"
  let q<-forIn [0:a.size+b.size] ((none,r.2.1,r.2.2.1,r.2.2.2.1,c.2.2.2.2+1,r.2.2.2.2.1,r.2.2.2.2.2):HiT) fun _ q=>hiG a b q
  match q.1 with
  |none=>do
   b0W (q.2.2.2.2.1+1)
   pure (.yield (none,q.2.1,q.2.2.1,q.2.2.2.1,q.2.2.2.2.1+1))
  |some x=>pure (.done (some x,q.2.1,q.2.2.1,q.2.2.2.1,q.2.2.2.2.1))
 |some x=>pure (.done (some x,r.2.1,r.2.2.1,r.2.2.2.1,c.2.2.2.2))
theorem b6n(p q:Array Keyed):mHi p q=(do
 rule "list.sort.merge-hi"
 let x<-elem' p (p.size - 1)
 if p.size - 1==0 then
  pure (rh p q #[x] (p.size - 1) q.size)
 else if q.size==1 then
  pure (rh q p #[x] q.size (p.size - 1))
 else do
  let z<-get
  let r<-forIn [0:p.size+q.size] ((none,p.size - 1,q.size, #[x],gallopOf z):HiU) fun _ c=>hiX p q c
  match r.1 with
  |none=>unsupported "internal:list.sort.merge-bound"
  |some v=>pure v):=by kernel_rfl
abbrev HiI(R:Keyed->Keyed->Bool)(a b:Array Keyed)(st:SortSt)(k:Nat)(c:Option (Array Keyed))(o:Array Keyed)(i j:Nat)(st':SortSt):Prop:=c=none/\Sm st st'/\H R a b o i j/\0<i/\i<=a.size/\1<j/\j<=b.size/\k+(i+j)<=a.size+b.size
abbrev HiE(R:Keyed->Keyed->Bool)(a b:Array Keyed)(st:SortSt)(k:Nat)(c:Option (Array Keyed))(o:Array Keyed)(i j:Nat)(st':SortSt):Prop:=Sm st st'/\((∃r,c=some r/\P8 R (a.toList++b.toList) r.toList)\/(c=none/\H R a b o i j/\0<i/\i<=a.size/\1<j/\j<=b.size/\k+(i+j)<=a.size+b.size))
section
variable {a b:Array Keyed}{st st':SortSt}{x₀ x mg:Nat}
theorem b7c(C:Q8 prog w A E s κ S R)(T:Two S R a b)(hk:kindOf st=κ){c:HiV}(h:HiI R a b st x₀ c.1 c.2.2.2.1 c.2.1 c.2.2.1 st'):wpS (model prog w) A E s (hiS a b mg c) (fun r st'=>match r with| .done c'=>HiE R a b st x₀ c'.1 c'.2.2.2.1 c'.2.1 c'.2.2.1 st'| .yield c'=>HiI R a b st x₀ c'.1 c'.2.2.2.1 c'.2.1 c'.2.2.1 st') st':=by
 obtain⟨c,i,j,o,u,v⟩:=c
 obtain⟨hc,m,d,hi,hia,hj,hjb,hp⟩:=h
 dsimp only at*
 unfold hiS
 dsimp only
 refine wpS_bind (o8 (by lia) (wpS_bind (o8 (by lia) (wpS_bind (C.lt _ _ (T.Sb _ (by lia)) (T.Sa _ (by lia)) st' _ (m.k.trans hk) ?_)))))
 dsimp only
 cases hl:R (g b (j - 1)) (g a (i - 1))
 ·simp only [At,if_false]
  refine wpS_bind (o8 (by lia) ?_)
  have d2:=H.takeB C T d hjb (by lia) hia hi hl
  by_cases e3:j - 1=1
  ·rw [if_pos (by simpa using e3)]
   exact wpS_pure ⟨m,.inl ⟨_,rfl,d2.first T hia e3⟩⟩
  rw [if_neg (by simpa using e3)]
  split
  ·exact wpS_pure ⟨m,.inr ⟨rfl,d2,hi,hia,(show 1<j - 1 by lia),(show j - 1<=b.size by lia),(show x₀+(i+(j - 1))<=a.size+b.size by lia)⟩⟩
  ·exact wpS_pure ⟨rfl,m,d2,hi,hia,(show 1<j - 1 by lia),(show j - 1<=b.size by lia),(show x₀+(i+(j - 1))<=a.size+b.size by lia)⟩
 ·simp only [if_true]
  refine wpS_bind (o8 (by lia) ?_)
  have d2:=H.takeA C T d hia hi hjb (by lia) (C.as _ _ (T.Sb _ (by lia)) (T.Sa _ (by lia)) hl)
  by_cases e3:i - 1=0
  ·rw [if_pos (by simpa using e3)]
   exact wpS_pure ⟨m,.inl ⟨_,rfl,d2.done (.inl e3)⟩⟩
  rw [if_neg (by simpa using e3)]
  split
  ·exact wpS_pure ⟨m,.inr ⟨rfl,d2,(show 0<i - 1 by lia),(show i - 1<=a.size by lia),hj,hjb,(show x₀+(i - 1+j)<=a.size+b.size by lia)⟩⟩
  ·exact wpS_pure ⟨rfl,m,d2,(show 0<i - 1 by lia),(show i - 1<=a.size by lia),hj,hjb,(show x₀+(i - 1+j)<=a.size+b.size by lia)⟩
theorem b7b(C:Q8 prog w A E s κ S R)(T:Two S R a b)(hk:kindOf st=κ){c:HiT}(h:HiI R a b st (x₀+x) c.1 c.2.2.2.1 c.2.1 c.2.2.1 st'):wpS (model prog w) A E s (hiG a b c) (fun r st'=>match r with| .done c'=>HiE R a b st (x₀+1) c'.1 c'.2.2.2.1 c'.2.1 c'.2.2.1 st'| .yield c'=>HiI R a b st (x₀+(x+1)) c'.1 c'.2.2.2.1 c'.2.1 c'.2.2.1 st') st':=by
 obtain⟨hc,m,d,hi,hia,hj,hjb,hp⟩:=h
 unfold hiG
 split
 ·exact b3o C T hk m d hi hia hj hjb hp
 ·exact b3o C T hk m d hi hia hj hjb hp
theorem b7d(C:Q8 prog w A E s κ S R)(T:Two S R a b)(hk:kindOf st=κ){c:HiU}(hx:x₀<a.size+b.size)(h:HiI R a b st x₀ c.1 c.2.2.2.1 c.2.1 c.2.2.1 st'):wpS (model prog w) A E s (hiX a b c) (fun r st'=>match r with| .done c'=>Sm st st'/\∃r,c'.1=some r/\P8 R (a.toList++b.toList) r.toList| .yield c'=>HiI R a b st (x₀+1) c'.1 c'.2.2.2.1 c'.2.1 c'.2.2.1 st') st':=by
 obtain⟨hc,h⟩:=h
 unfold hiX
 refine wpS_bind (wpS_mono (wpS_forRange (I:=fun _ c st'=>HiI R a b st x₀ c.1 c.2.2.2.1 c.2.1 c.2.2.1 st') (Q:=fun c st'=>HiE R a b st x₀ c.1 c.2.2.2.1 c.2.1 c.2.2.1 st') (fun _ _ _ _ _ h=>wpS_mono (b7c C T hk h) fun r _ q=>by cases r<;>exact q) (fun c st' ⟨h1,h2,h3⟩=>⟨h2,.inr ⟨h1,h3⟩⟩) ⟨rfl,h⟩) ?_)
 rintro r st2 ⟨m,⟨y,e,gd⟩|⟨e,h⟩⟩
 ·rw [e]
  exact wpS_pure ⟨m,y,rfl,gd⟩
 rw [e]
 refine wpS_bind (wpS_lift (wpAny_rule ⟨rfl, ?_⟩))
 refine wpS_bind (wpS_mono (wpS_forRange (I:=fun x c st'=>HiI R a b st (x₀+x) c.1 c.2.2.2.1 c.2.1 c.2.2.1 st') (Q:=fun c st'=>HiE R a b st (x₀+1) c.1 c.2.2.2.1 c.2.1 c.2.2.1 st') (fun _ _ _ _ _ h=>wpS_mono (b7b C T hk h) fun r _ q=>by cases r<;>exact q) (fun c st' ⟨h1,h2,h3,h4,h5,h6,h7,h8⟩=>⟨h2,.inr ⟨h1,h3,h4,h5,h6,h7,by lia⟩⟩) ⟨rfl,m,h⟩) ?_)
 rintro q st3 ⟨m,⟨y,e,gd⟩|⟨e,h⟩⟩
 ·rw [e]
  exact wpS_pure ⟨m,y,rfl,gd⟩
 rw [e]
 exact wpS_bind (a3r m fun st3 m3=>wpS_pure ⟨rfl,m3,h⟩)
end
theorem b7i(C:Q8 prog w A E s κ S R){a b:Array Keyed}(T:Two S R a b){st:SortSt}(hk:kindOf st=κ){Q:Array Keyed->SortSt->Prop}
 (h:∀r st',Sm st st'->P8 R (a.toList++b.toList) r.toList->Q r st'):wpS (model prog w) A E s (mHi a b) Q st:=by
 rw [b6n]
 have pa:=T.pa
 have pb:=T.pb
 refine wpS_bind (wpS_lift (wpAny_rule ⟨rfl, ?_⟩))
 refine wpS_bind (o8 (by lia) ?_)
 have pw:∀c:Array Keyed,Seg R c 0 c.size->c.toList.Pairwise (le R):=fun c hc=>by
  rw [List.pairwise_iff_getElem]
  intro i j hi hj hij
  have h1:=N4 (a:=c) hi
  have h2:=N4 (a:=c) hj
  rw [BA hi] at h1
  rw [BA hj] at h2
  rw [Option.some.inj h1,Option.some.inj h2]
  exact hc i j (Nat.zero_le _) (by lia) hj
 have d0:H R a b #[g a (a.size - 1)] (a.size - 1) b.size:=by
  have:H R a b #[] a.size b.size:=by
   have f:∀c:Array Keyed,c.toList.take c.size=c.toList:=fun c=>List.take_of_length_le (AN _)
   unfold H
   rw [f,f]
   refine⟨?_, ?_, ?_⟩
   ·show(a.toList++[]).Pairwise _
    rw [Am];exact pw a T.sa
   ·show(b.toList++[]).Pairwise _
    rw [Am];exact pw b T.sb
   ·show(a.toList++b.toList++[]).Perm _
    rw [Am]
  exact this.takeA C T (AN _) pa (AN _) pb (T.hi _ (by lia))
 by_cases e1:a.size - 1=0
 ·rw [if_pos (by simpa using e1)]
  exact wpS_pure (h _ _ Sm.refl (d0.done (.inl e1)))
 rw [if_neg (by simpa using e1)]
 by_cases e2:b.size=1
 ·rw [if_pos (by simpa using e2)]
  exact wpS_pure (h _ _ Sm.refl (d0.first T (by lia) e2))
 rw [if_neg (by simpa using e2)]
 refine wpS_bind (wpS_get ?_)
 refine wpS_bind (wpS_mono (wpS_forRange (I:=fun x c st'=>HiI R a b st x c.1 c.2.2.2.1 c.2.1 c.2.2.1 st')
  (Q:=fun c st'=>Sm st st'/\∃r,c.1=some r/\P8 R (a.toList++b.toList) r.toList) (fun _ _ _ _ hx h=>wpS_mono (b7d C T hk hx h) fun r _ q=>by cases r<;>exact q) (fun c st' ⟨h1,h2,h3,h4,h5,h6,h7,h8⟩=>by lia) ⟨rfl,Sm.refl,d0,(show 0<a.size - 1 by lia),(show a.size - 1<=a.size by lia),(show 1<b.size by lia),AN _,(show 0+(a.size - 1+b.size)<=a.size+b.size by lia)⟩) ?_)
 rintro c st' ⟨m,r,e,gd⟩
 rw [e]
 exact wpS_pure (h r st' m gd)
end
def sp(r:Array Keyed)(d:Nat)(a:Array Keyed):Array Keyed:=r.toList.zipIdx.foldl (fun a (p,j)=>a.setIfInBounds (d+j) p) a
theorem b5G(d:Nat):∀(l:List Keyed) (k:Nat) (a:Array Keyed),d+k+l.length<=a.size->
 ((l.zipIdx k).foldl (fun(a:Array Keyed) (q:Keyed×Nat)=>a.setIfInBounds (d+q.2) q.1) a).toList=a.toList.take (d+k)++(l++a.toList.drop (d+k+l.length))
 |[],k,a,_=>by
  show a.toList=_
  rw [Ak,Aa,Nat.add_zero,List.take_append_drop]
 |x::l,k,a,h=>by
  rw [AT] at h
  rw [List.zipIdx_cons,List.foldl_cons,b5G d l (k+1) _ (by rw [Array.size_setIfInBounds];lia)]
  have e:(a.setIfInBounds (d+k) x).toList=a.toList.take (d+k)++x::a.toList.drop (d+k+1):=by
   rw [Array.toList_setIfInBounds,List.set_eq_take_append_cons_drop,if_pos (show d+k<a.toList.length by show d+k<a.size;lia)]
  dsimp only
  rw [e]
  have hl:(a.toList.take (d+k)).length=d+k:=by rw [List.length_take];have:a.toList.length=a.size:=rfl;lia
  have e1:(a.toList.take (d+k)++x::a.toList.drop (d+k+1)).take (d+(k+1))=a.toList.take (d+k)++[x]:=by
   rw [List.take_append,hl,List.take_of_length_le (by lia),show d+(k+1) - (d+k)=1 by lia];rfl
  have e2:(a.toList.take (d+k)++x::a.toList.drop (d+k+1)).drop (d+(k+1)+l.length)=a.toList.drop (d+k+(l.length+1)):=by
   rw [List.drop_append,hl,List.drop_eq_nil_of_le (by lia),show d+(k+1)+l.length - (d+k)=l.length+1 by lia,List.drop_succ_cons,List.drop_drop,Ak]
   congr 1;lia
  rw [e1,e2,AT,List.append_assoc];rfl
theorem a92{r a:Array Keyed}{d:Nat}(h:d+r.size<=a.size):(sp r d a).toList=a.toList.take d++(r.toList++a.toList.drop (d+r.size)):=by
 have:=b5G d r.toList 0 a (by rw [Nat.add_zero];exact h)
 rw [Nat.add_zero] at this
 exact this
theorem a2f(a:Array Keyed)(i:Nat):g a i=(a.toList[i]?).getD (Value.none,Value.none):=by unfold g;rw [Array.getElem?_toList]
theorem b6c{r a:Array Keyed}{d:Nat}(h:d+r.size<=a.size)(i:Nat):g (sp r d a) i=if i<d then g a i else if i<d+r.size then g r (i - d) else g a i:=by
 rw [a2f,a92 h]
 have h1:a.toList.length=a.size:=rfl
 have h2:r.toList.length=r.size:=rfl
 have hl:(a.toList.take d).length=d:=by rw [List.length_take];lia
 by_cases c1:i<d
 ·rw [if_pos c1,BB (by lia),List.getElem?_take,if_pos c1,a2f]
 ·rw [if_neg c1,List.getElem?_append_right (by lia),hl]
  by_cases c2:i<d+r.size
  ·rw [if_pos c2,BB (by lia),a2f]
  ·rw [if_neg c2,List.getElem?_append_right (by lia),List.getElem?_drop,a2f]
   congr 2;lia
theorem b5w{a:Array Keyed}{lo hi i:Nat}(h:hi<=a.size)(hi':lo+i<hi):g (a.extract lo hi) i=g a (lo+i):=by
 rw [a2f,x8,List.getElem?_take,if_pos (by lia),List.getElem?_drop,a2f]
theorem a7z{a:Array Keyed}{lo hi:Nat}(h:hi<=a.size):(a.extract lo hi).size=hi - lo:=by
 rw [Array.size_extract];lia
section
variable {prog:AL}{w:AJ}{A:AO}{E:AA->AC->Prop}{s:AC}
variable {κ:SortKind}{S:Keyed->Prop}{R:Keyed->Keyed->Bool}{a₀:Array Keyed}
theorem b7k{σ:Type}{M:Model}{x st:σ}{Q:PUnit->σ->Prop}(h:Q ⟨⟩ x):wpS M A E s (set x:StateT σ Sem PUnit) Q st:=by
 unfold wpS;rw [StateT.run_set];exact AQ ⟨rfl,h⟩
theorem b6m(i:Nat):mergeAt' i=(do
 let c<-get
 let (some (p,m,e),some (q,n,_)):=((pendingOf c)[i]?,(pendingOf c)[i+1]?)|unsupported "internal:list.sort.pending"
 set (setPending c (((pendingOf c).setIfInBounds i (p,m+n,e)).eraseIdxIfInBounds (i+1)))
 let some k<-gal false (<-elem' (arrOf c) q) (arrOf c) p m 0|return false
 if m - k==0 then return true
 let some n'<-gal true (<-elem' (arrOf c) (p+k+(m - k) - 1)) (arrOf c) q n (n - 1)|return false
 if n'==0 then return true
 let r<-if m - k<=n' then mLo ((arrOf c).extract (p+k) q) ((arrOf c).extract q (q+n')) else mHi ((arrOf c).extract (p+k) q) ((arrOf c).extract q (q+n'))
 modify fun c=>setArr c (sp r (p+k) (arrOf c))
 return (failedOf (<-get)).isNone):=rfl
theorem b7h(C:Q8 prog w A E s κ S R)(hS:∀p∈a₀.toList,S p){st:SortSt}{Q:Bool->SortSt->Prop}(hB:B κ a₀ st){i p m e n e':Nat}(h1:(pendingOf st)[i]?=some (p,m,e))(h2:(pendingOf st)[i+1]?=some (p+m,n,e'))
 (hm:1<=m) (hn:1<=n) (hz:p+m+n<=a₀.size) (sA:Seg R (arrOf st) p (p+m)) (sB:Seg R (arrOf st) (p+m) (p+m+n))
 (h:∀st',B κ a₀ st'->pendingOf st'=((pendingOf st).setIfInBounds i (p,m+n,e)).eraseIdxIfInBounds (i+1)->Seg R (arrOf st') p (p+m+n)->(∀j,(j<p\/p+m+n<=j)->g (arrOf st') j=g (arrOf st) j)->Q true st'):
 wpS (model prog w) A E s (mergeAt' i) Q st:=by
 rw [b6m]
 refine wpS_bind (wpS_get ?_)
 rw [h1,h2]
 dsimp only
 refine wpS_bind (b7k ?_)
 have hsz:=hB.size
 have hB1:B κ a₀ (setPending st (((pendingOf st).setIfInBounds i (p,m+n,e)).eraseIdxIfInBounds (i+1))):=⟨hB.perm,hB.kind,hB.failed⟩
 refine wpS_bind (o8 (by lia) ?_)
 refine wpS_bind (a60 C hB1.kind (by lia) (by lia) (fun l hl=>hB.sg hS (by lia)) (hB.sg hS (by lia)) sA fun k k1 k2 k3=> ?_)
 dsimp only
 by_cases c1:m - k=0
 ·rw [if_pos (by simpa using c1)]
  refine wpS_pure (h _ hB1 rfl (fun x y hx hxy hy=> ?_) fun _ _=>rfl)
  show R (g (arrOf st) y) (g (arrOf st) x)=false
  by_cases d1:y<p+m
  ·exact sA x y hx hxy d1
  by_cases d2:p+m<=x
  ·exact sB x y d2 hxy hy
  have:=k2 (x - p) (by lia)
  rw [show p+(x - p)=x by lia] at this
  exact C.tr _ (g (arrOf st) (p+m)) _ (hB.sg hS (by lia)) (hB.sg hS (by lia)) (hB.sg hS (by lia)) this (sB _ _ (AN _) (by lia) hy)
 rw [if_neg (by simpa using c1)]
 refine wpS_bind (o8 (by lia) ?_)
 rw [show p+k+(m - k) - 1=p+m - 1 by lia]
 refine wpS_bind (a61 C hB1.kind (by lia) (by lia) (fun l hl=>hB.sg hS (by lia)) (hB.sg hS (by lia)) sB fun n' q1 q2 q3=> ?_)
 dsimp only
 by_cases c2:n'=0
 ·rw [if_pos (by simpa using c2)]
  refine wpS_pure (h _ hB1 rfl (fun x y hx hxy hy=> ?_) fun _ _=>rfl)
  show R (g (arrOf st) y) (g (arrOf st) x)=false
  by_cases d1:y<p+m
  ·exact sA x y hx hxy d1
  by_cases d2:p+m<=x
  ·exact sB x y d2 hxy hy
  have:=q3 (y - (p+m)) (by lia) (by lia)
  rw [show p+m+(y - (p+m))=y by lia] at this
  exact C.tr _ (g (arrOf st) (p+m - 1)) _ (hB.sg hS (by lia)) (hB.sg hS (by lia)) (hB.sg hS (by lia)) (sA x _ hx (by lia) (by lia)) this
 rw [if_neg (by simpa using c2)]
 have zx:((arrOf st).extract (p+k) (p+m)).size=m - k:=by rw [a7z (by lia)];lia
 have zy:((arrOf st).extract (p+m) (p+m+n')).size=n':=by rw [a7z (by lia)];lia
 have gx:∀l,l<m - k->g ((arrOf st).extract (p+k) (p+m)) l=g (arrOf st) (p+k+l):=fun l hl=>b5w (by lia) (by lia)
 have gy:∀l,l<n'->g ((arrOf st).extract (p+m) (p+m+n')) l=g (arrOf st) (p+m+l):=fun l hl=>b5w (by lia) (by lia)
 have T:Two S R ((arrOf st).extract (p+k) (p+m)) ((arrOf st).extract (p+m) (p+m+n')):=by
  refine⟨?_, ?_, ?_, ?_,by lia,by lia, ?_, ?_⟩
  ·intro l hl;rw [gx l (by lia)];exact hB.sg hS (by lia)
  ·intro l hl;rw [gy l (by lia)];exact hB.sg hS (by lia)
  ·intro x y _ hxy hy;rw [gx x (by lia),gx y (by lia)];exact sA _ _ (by lia) (by lia) (by lia)
  ·intro x y _ hxy hy;rw [gy x (by lia),gy y (by lia)];exact sB _ _ (by lia) (by lia) (by lia)
  ·intro l hl
   rw [gy 0 (by lia),gx l (by lia),Nat.add_zero]
   have:=k3 (k+l) (by lia) (by lia)
   rw [<-Nat.add_assoc] at this
   exact C.as _ _ (hB.sg hS (by lia)) (hB.sg hS (by lia)) this
  ·intro l hl
   rw [gy l (by lia),gx _ (by lia),zx,show p+k+(m - k - 1)=p+m - 1 by lia]
   exact C.as _ _ (hB.sg hS (by lia)) (hB.sg hS (by lia)) (q2 l (by lia))
 have fin:∀(r:Array Keyed) (st2:SortSt),Sm (setPending st (((pendingOf st).setIfInBounds i (p,m+n,e)).eraseIdxIfInBounds (i+1))) st2->P8 R (((arrOf st).extract (p+k) (p+m)).toList++((arrOf st).extract (p+m) (p+m+n')).toList) r.toList->
  Q (failedOf (setArr st2 (sp r (p+k) (arrOf st2)))).isNone (setArr st2 (sp r (p+k) (arrOf st2))):=by
  intro r st2 m2 gd
  have ea:arrOf st2=arrOf st:=m2.a
  have rz:r.size=m - k+n':=by
   have:=gd.2.length_eq
   rw [AZ] at this
   have h3:r.toList.length=r.size:=rfl
   have h4:((arrOf st).extract (p+k) (p+m)).toList.length=m - k:=zx
   have h5:((arrOf st).extract (p+m) (p+m+n')).toList.length=n':=zy
   lia
  have hd:p+k+r.size<=(arrOf st).size:=by lia
  have ef:failedOf (setArr st2 (sp r (p+k) (arrOf st2)))=none:=m2.f.trans hB.failed
  rw [ef]
  refine h _ ⟨?_,m2.k.trans hB.kind,ef⟩ m2.p ?_ ?_
  ·show(sp r (p+k) (arrOf st2)).Perm a₀
   rw [ea]
   refine Array.Perm.trans ?_ hB.perm
   rw [Array.perm_iff_toList_perm,a92 hd]
   have e1:(arrOf st).toList=(arrOf st).toList.take (p+k)++((((arrOf st).extract (p+k) (p+m)).toList++((arrOf st).extract (p+m) (p+m+n')).toList)++(arrOf st).toList.drop (p+k+r.size)):=by
    have t1:=V3 (a:=arrOf st) (m:=p+k) (n:=p+m) (by lia)
    have t2:=V3 (a:=arrOf st) (m:=p+m) (n:=p+m+n') (by lia)
    rw [rz,show p+k+(m - k+n')=p+m+n' by lia,<-List.append_assoc,<-List.append_assoc,<-t1,<-t2,List.take_append_drop]
   conv=>rhs;rw [e1]
   exact List.Perm.append_left _ (List.Perm.append_right _ gd.2)
  ·have mid:∀l,l<r.size->(∃j,p+k<=j/\j<p+m/\g r l=g (arrOf st) j)\/(∃j,p+m<=j/\j<p+m+n'/\g r l=g (arrOf st) j):=by
    intro l hl
    have:=gd.2.mem_iff.mp (b5x hl)
    rcases Ap.mp this with q|q
    ·rw [x8] at q
     obtain⟨j,hj,e⟩:=N7 q (by lia)
     exact .inl ⟨p+k+j,by lia,by lia,e⟩
    ·rw [x8] at q
     obtain⟨j,hj,e⟩:=N7 q (by lia)
     exact .inr ⟨p+m+j,by lia,by lia,e⟩
   have lowq:∀x,p<=x->x<p+k->R (g (arrOf st) (p+m)) (g (arrOf st) x)=false:=fun x a b=>by
    have:=k2 (x - p) (by lia)
    rwa [show p+(x - p)=x by lia] at this
   have highq:∀y,p+m+n'<=y->y<p+m+n->R (g (arrOf st) y) (g (arrOf st) (p+m - 1))=false:=fun y a b=>by
    have:=q3 (y - (p+m)) (by lia) (by lia)
    rwa [show p+m+(y - (p+m))=y by lia] at this
   intro x y hx hxy hy
   show R (g (sp r (p+k) (arrOf st2)) y) (g (sp r (p+k) (arrOf st2)) x)=false
   rw [ea,b6c hd,b6c hd]
   by_cases x1:x<p+k
   ·rw [if_pos x1]
    by_cases y1:y<p+k
    ·rw [if_pos y1];exact sA x y hx hxy (by lia)
    rw [if_neg y1]
    by_cases y2:y<p+k+r.size
    ·rw [if_pos y2]
     rcases mid (y - (p+k)) (by lia) with⟨j,j1,j2,e⟩|⟨j,j1,j2,e⟩
     ·rw [e];exact sA x j hx (by lia) j2
     ·rw [e]
      exact C.tr _ (g (arrOf st) (p+m)) _ (hB.sg hS (by lia)) (hB.sg hS (by lia)) (hB.sg hS (by lia)) (lowq x hx x1) (sB _ _ (AN _) j1 (by lia))
    ·rw [if_neg y2]
     exact C.tr _ (g (arrOf st) (p+m)) _ (hB.sg hS (by lia)) (hB.sg hS (by lia)) (hB.sg hS (by lia)) (lowq x hx x1) (sB _ _ (AN _) (by lia) (by lia))
   rw [if_neg x1,if_neg (show ¬y<p+k by lia)]
   by_cases x2:x<p+k+r.size
   ·rw [if_pos x2]
    by_cases y2:y<p+k+r.size
    ·rw [if_pos y2]
     by_cases xy:x=y
     ·subst xy
      rcases mid (x - (p+k)) (by lia) with⟨j,j1,j2,e⟩|⟨j,j1,j2,e⟩
      ·rw [e];exact C.rfl' (hB.sg hS (by lia))
      ·rw [e];exact C.rfl' (hB.sg hS (by lia))
     ·have hw:=List.pairwise_iff_getElem.mp gd.1 (x - (p+k)) (y - (p+k)) (show x - (p+k)<r.size by lia) (show y - (p+k)<r.size by lia) (by lia)
      have a1:=N4 (a:=r) (i:=x - (p+k)) (by lia)
      have a2:=N4 (a:=r) (i:=y - (p+k)) (by lia)
      rw [BA (show x - (p+k)<r.size by lia)] at a1
      rw [BA (show y - (p+k)<r.size by lia)] at a2
      rw [Option.some.inj a1,Option.some.inj a2] at hw
      exact hw
    ·rw [if_neg y2]
     rcases mid (x - (p+k)) (by lia) with⟨j,j1,j2,e⟩|⟨j,j1,j2,e⟩
     ·rw [e]
      exact C.tr _ (g (arrOf st) (p+m - 1)) _ (hB.sg hS (by lia)) (hB.sg hS (by lia)) (hB.sg hS (by lia)) (sA _ _ (by lia) (by lia) (by lia)) (highq y (by lia) (by lia))
     ·rw [e];exact sB j y j1 (by lia) (by lia)
   ·rw [if_neg x2,if_neg (by lia)]
    exact sB x y (by lia) hxy hy
  ·intro j hj
   show g (sp r (p+k) (arrOf st2)) j=_
   rw [ea,b6c hd]
   split
   ·rfl
   ·rw [if_neg (by lia)]
 have B2:∀(r:Array Keyed) (st2:SortSt),Q (failedOf (setArr st2 (sp r (p+k) (arrOf st2)))).isNone (setArr st2 (sp r (p+k) (arrOf st2)))->
  wpS (model prog w) A E s (modify fun c=>setArr c (sp r (p+k) (arrOf c)):SM PUnit) (fun _ st3=>wpS (model prog w) A E s (get:SM SortSt) (fun c st4=>Q (failedOf c).isNone st4) st3) st2:=fun r st2 hq=>wpS_modify (wpS_get hq)
 split
 ·exact wpS_bind (b7j C T hB1.kind fun r st2 m2 gd=>wpS_bind (wpS_mono (B2 r st2 (fin r st2 m2 gd)) fun _ _ q=>wpS_bind (wpS_mono q fun _ _ q=>wpS_pure q)))
 ·exact wpS_bind (b7i C T hB1.kind fun r st2 m2 gd=>wpS_bind (wpS_mono (B2 r st2 (fin r st2 m2 gd)) fun _ _ q=>wpS_bind (wpS_mono q fun _ _ q=>wpS_pure q)))
end
def V4(R:Keyed->Keyed->Bool)(a:Array Keyed):List (Nat×Nat×Nat)->Nat->Nat->Prop
 |[],f,t=>f=t
 |(p,n,_)::r,f,t=>p=f/\1<=n/\Seg R a p (p+n)/\V4 R a r (p+n) t
section
variable {R:Keyed->Keyed->Bool}{a b:Array Keyed}
theorem V4.le:∀{l:List (Nat×Nat×Nat)} {f t:Nat},V4 R a l f t->f+l.length<=t
 |[],f,t,h=>by have:f=t:=h;rw [Aa];lia
 |(p,n,e)::r,f,t,h=>by
  obtain⟨h1,h2,_,h4⟩:=h
  have:=h4.le
  rw [AT];lia
theorem V4.same:∀{l:List (Nat×Nat×Nat)} {f t:Nat},V4 R a l f t->(∀j,f<=j->j<t->g b j=g a j)->V4 R b l f t
 |[],f,t,h,_=>h
 |(p,n,e)::r,f,t,h,k=>by
  obtain⟨h1,h2,h3,h4⟩:=h
  have:=h4.le
  refine⟨h1,h2,fun i j hi hij hj=> ?_,h4.same fun j h5 h6=>k j (by lia) h6⟩
  rw [k i (by lia) (by lia),k j (by lia) (by lia)]
  exact h3 i j hi hij hj
theorem V4.split:∀{l m:List (Nat×Nat×Nat)} {f t:Nat},V4 R a (l++m) f t->∃u,V4 R a l f u/\V4 R a m u t
 |[],m,f,t,h=>⟨f,rfl,h⟩
 |(p,n,e)::r,m,f,t,h=>by
  obtain⟨h1,h2,h3,h4⟩:=h
  obtain⟨u,h5,h6⟩:=h4.split
  exact⟨u,⟨h1,h2,h3,h5⟩,h6⟩
theorem V4.join:∀{l m:List (Nat×Nat×Nat)} {f u t:Nat},V4 R a l f u->V4 R a m u t->V4 R a (l++m) f t
 |[],m,f,u,t,h,k=>by have:f=u:=h;subst this;exact k
 |(p,n,e)::r,m,f,u,t,h,k=>⟨h.1,h.2.1,h.2.2.1,h.2.2.2.join k⟩
theorem V4.pow(v:Nat):∀{l:List (Nat×Nat×Nat)} {f t i:Nat},V4 R a l f t->V4 R a (l.modify i fun(x:Nat×Nat×Nat)=>(x.1,x.2.1,v)) f t
 |[],f,t,i,h=>by rw [List.modify_nil];exact h
 |(p,n,e)::r,f,t,0,h=>by rw [List.modify_zero_cons];exact h
 |(p,n,e)::r,f,t,i+1,h=>by rw [List.modify_succ_cons];exact⟨h.1,h.2.1,h.2.2.1,h.2.2.2.pow v⟩
end
theorem a9K{α:Type}:∀{l:List α} {i:Nat},i+1<l.length->∃l1 x y l2,l=l1++x::y::l2/\l1.length=i/\l[i]?=some x/\l[i+1]?=some y
 |x::y::l,0,_=>⟨[],x,y,l,rfl,rfl,rfl,rfl⟩
 |x::l,i+1,h=>by
  obtain⟨l1,u,v,l2,e,e1,e2,e3⟩:=a9K (l:=l) (i:=i) (by rw [AT] at h;lia)
  exact⟨x::l1,u,v,l2,by rw [e];rfl,by rw [AT,e1],by rw [List.getElem?_cons_succ];exact e2,by rw [List.getElem?_cons_succ];exact e3⟩
 |[],_,h=>by simp at h
 |[x],0,h=>by simp at h
theorem a2z{α:Type}(v:α):∀(l1:List α) (x y:α) (l2:List α),((l1++x::y::l2).set l1.length v).eraseIdx (l1.length+1)=l1++v::l2
 |[],x,y,l2=>rfl
 |z::l1,x,y,l2=>by
  show z::((l1++x::y::l2).set l1.length v).eraseIdx (l1.length+1)=_
  rw [a2z v l1 x y l2];rfl
section
variable {prog:AL}{w:AJ}{A:AO}{E:AA->AC->Prop}{s:AC}
variable {κ:SortKind}{S:Keyed->Prop}{R:Keyed->Keyed->Bool}{a₀:Array Keyed}
theorem b3u(C:Q8 prog w A E s κ S R)(hS:∀p∈a₀.toList,S p){st:SortSt}{Q:Bool->SortSt->Prop}(hB:B κ a₀ st){i lo:Nat}(hc:V4 R (arrOf st) (pendingOf st).toList 0 lo)(hlo:lo<=a₀.size)(hi:i+1<(pendingOf st).size)
 (h:∀st',B κ a₀ st'->V4 R (arrOf st') (pendingOf st').toList 0 lo->(pendingOf st').size+1=(pendingOf st).size->(∀j,lo<=j->g (arrOf st') j=g (arrOf st) j)->Q true st'):
 wpS (model prog w) A E s (mergeAt' i) Q st:=by
 obtain⟨l1,⟨p,m,e⟩,⟨q,n,e'⟩,l2,el,en,e1,e2⟩:=a9K (l:=(pendingOf st).toList) (i:=i) hi
 rw [el] at hc
 obtain⟨u,c1,c2⟩:=hc.split
 obtain⟨rfl,hm,sA,rfl,hn,sB,c3⟩:=c2
 have l3:=c3.le
 rw [Array.getElem?_toList] at e1 e2
 refine b7h C hS hB e1 e2 hm hn (by lia) sA sB fun st' b1 b2 b3 b4=>h st' b1 ?_ ?_ fun j hj=>b4 j (by lia)
 ·rw [b2]
  have:(((pendingOf st).setIfInBounds i (p,m+n,e)).eraseIdxIfInBounds (i+1)).toList=l1++(p,m+n,e)::l2:=by
   rw [Array.toList_eraseIdxIfInBounds,Array.toList_setIfInBounds,el,<-en,a2z]
  rw [this]
  refine V4.join (c1.same fun j _ h2=>b4 j (by lia)) ⟨rfl,by lia, ?_, ?_⟩
  ·rw [<-Nat.add_assoc];exact b3
  ·rw [<-Nat.add_assoc];exact c3.same fun j h1 h2=>b4 j (by lia)
 ·rw [b2]
  have hz:=congrArg List.length el
  rw [AZ,AT,AT,Array.length_toList] at hz
  have:(((pendingOf st).setIfInBounds i (p,m+n,e)).eraseIdxIfInBounds (i+1)).toList.length=l1.length+(l2.length+1):=by
   rw [Array.toList_eraseIdxIfInBounds,Array.toList_setIfInBounds,el,<-en,a2z,AZ,AT]
  rw [Array.length_toList] at this
  lia
theorem b5j(C:Q8 prog w A E s κ S R)(hS:∀p∈a₀.toList,S p){st:SortSt}{Q:Unit->SortSt->Prop}(hB:B κ a₀ st)(hp:pendingOf st= #[])
 (h:∀st',B κ a₀ st'->Seg R (arrOf st') 0 a₀.size->Q () st'):wpS (model prog w) A E s sortRuns' Q st:=by
 rw [sortRuns'_eq]
 refine wpS_bind (wpS_get ?_)
 dsimp only
 rw [hB.size]
 refine wpS_bind (wpS_mono (wpS_forRange
  (I:=fun x c st'=>∃lo,c=(none,lo)/\lo<=a₀.size/\min x a₀.size<=lo/\B κ a₀ st'/\V4 R (arrOf st') (pendingOf st').toList 0 lo)
  (Q:=fun c st'=>c=(none,a₀.size)/\B κ a₀ st'/\V4 R (arrOf st') (pendingOf st').toList 0 a₀.size) ?_ ?_ ⟨0,rfl,by lia,by lia,hB,by rw [hp];exact(rfl:(0:Nat)=0)⟩) ?_)
 ·rintro x c st' _ hx ⟨lo,rfl,hlo,hxl,hB',hc⟩
  dsimp only
  by_cases hge:lo>=a₀.size
  ·rw [if_pos hge]
   have:lo=a₀.size:=by lia
   subst this
   exact wpS_pure ⟨rfl,hB',hc⟩
  rw [if_neg hge]
  refine wpS_bind (b7a C hS hB' (by lia) (by lia) fun m st2 hB2 hp2 hf2 hm1 hm2 hs2=> ?_)
  have hc2:V4 R (arrOf st2) (pendingOf st2).toList 0 lo:=by rw [hp2];exact hc.same fun j _ hj=>hf2 j hj
  dsimp only
  by_cases hlt:m<minRun' a₀.size a₀.size 0
  ·rw [if_pos hlt]
   generalize hN:min (a₀.size - lo) (minRun' a₀.size a₀.size 0)=N
   have n1:1<=N:=by lia
   have n2:lo+N<=a₀.size:=by lia
   refine wpS_bind (wpS_lift (wpAny_rule ⟨rfl, ?_⟩))
   refine wpS_bind (b69 C hS hB2 n2 (by lia) n1 hs2 fun st3 b3 p3 f3 s3=> ?_)
   simp only [Bool.not_true,At,if_false]
   have c3:V4 R (arrOf st3) (pendingOf st3).toList 0 lo:=by rw [p3];exact hc2.same fun j _ hj=>f3 j hj
   refine wpS_bind (wpS_get ?_)
   have push:∀st4:SortSt,B κ a₀ st4->V4 R (arrOf st4) (pendingOf st4).toList 0 lo->Seg R (arrOf st4) lo (lo+N)->
    ∃lo',((none,lo+N):Option PUnit×Nat)=(none,lo')/\lo'<=a₀.size/\min (x+1) a₀.size<=lo'/\B κ a₀ (setPending st4 ((pendingOf st4).push (lo,N,0)))/\
     V4 R (arrOf (setPending st4 ((pendingOf st4).push (lo,N,0)))) (pendingOf (setPending st4 ((pendingOf st4).push (lo,N,0)))).toList 0 lo':=by
    intro st4 b1 b2 b3
    refine⟨lo+N,rfl,n2,by lia,⟨b1.perm,b1.kind,b1.failed⟩, ?_⟩
    show V4 R (arrOf st4) ((pendingOf st4).push (lo,N,0)).toList 0 (lo+N)
    rw [Array.toList_push]
    exact b2.join ⟨rfl,n1,b3,rfl⟩
   cases hb:(pendingOf st3).back? with
   |none=>
    dsimp only
    exact wpS_bind (wpS_modify (wpS_pure (push st3 b3 c3 s3)))
   |some t3=>
    obtain⟨s1,r1,w1⟩:=t3
    dsimp only
    refine wpS_bind (wpS_mono (wpS_forRange (I:=fun _ c st4=>c=(none,())/\B κ a₀ st4/\V4 R (arrOf st4) (pendingOf st4).toList 0 lo/\Seg R (arrOf st4) lo (lo+N))
     (Q:=fun c st4=>c=(none,())/\B κ a₀ st4/\V4 R (arrOf st4) (pendingOf st4).toList 0 lo/\Seg R (arrOf st4) lo (lo+N)) ?_ (fun _ _ q=>q) ⟨rfl,b3,c3,s3⟩) ?_)
    ·rintro y c st4 _ _ ⟨rfl,b4,c4,s4⟩
     refine wpS_bind (wpS_get ?_)
     by_cases hz:(pendingOf st4).size>1
     ·rw [if_pos hz]
      obtain⟨⟨u1,u2,u3⟩,hu⟩:∃t,(pendingOf st4)[(pendingOf st4).size - 2]?=some t:=⟨_,getElem?_pos (pendingOf st4) _ (by lia)⟩
      rw [hu]
      dsimp only
      split
      ·exact wpS_pure ⟨rfl,b4,c4,s4⟩
      ·refine wpS_bind (b3u C hS b4 c4 hlo (by lia) fun st5 b5 c5 z5 f5=> ?_)
       simp only [Bool.not_true,At,if_false]
       exact wpS_pure ⟨rfl,b5,c5,fun i j h1 h2 h3=>by rw [f5 i h1,f5 j (by lia)];exact s4 i j h1 h2 h3⟩
     ·rw [if_neg hz]
      exact wpS_pure ⟨rfl,b4,c4,s4⟩
    ·rintro c st4 ⟨rfl,b4,c4,s4⟩
     dsimp only
     refine wpS_bind (wpS_modify (wpS_bind (wpS_modify (wpS_pure (push (setPending st4 _) ⟨b4.perm,b4.kind,b4.failed⟩ ?_ s4)))))
     show V4 R (arrOf st4) ((pendingOf st4).modify _ _).toList 0 lo
     rw [Array.toList_modify]
     exact c4.pow _
  ·rw [if_neg hlt]
   generalize hN:m=N at*
   have n1:1<=N:=by lia
   have n2:lo+N<=a₀.size:=by lia
   have b3:=hB2
   have c3:=hc2
   have s3:=hs2
   refine wpS_bind (wpS_get ?_)
   have push:∀st4:SortSt,B κ a₀ st4->V4 R (arrOf st4) (pendingOf st4).toList 0 lo->Seg R (arrOf st4) lo (lo+N)->
    ∃lo',((none,lo+N):Option PUnit×Nat)=(none,lo')/\lo'<=a₀.size/\min (x+1) a₀.size<=lo'/\B κ a₀ (setPending st4 ((pendingOf st4).push (lo,N,0)))/\
     V4 R (arrOf (setPending st4 ((pendingOf st4).push (lo,N,0)))) (pendingOf (setPending st4 ((pendingOf st4).push (lo,N,0)))).toList 0 lo':=by
    intro st4 b1 b2 b3
    refine⟨lo+N,rfl,n2,by lia,⟨b1.perm,b1.kind,b1.failed⟩, ?_⟩
    show V4 R (arrOf st4) ((pendingOf st4).push (lo,N,0)).toList 0 (lo+N)
    rw [Array.toList_push]
    exact b2.join ⟨rfl,n1,b3,rfl⟩
   cases hb:(pendingOf st2).back? with
   |none=>
    dsimp only
    exact wpS_bind (wpS_modify (wpS_pure (push st2 b3 c3 s3)))
   |some t3=>
    obtain⟨s1,r1,w1⟩:=t3
    dsimp only
    refine wpS_bind (wpS_mono (wpS_forRange (I:=fun _ c st4=>c=(none,())/\B κ a₀ st4/\V4 R (arrOf st4) (pendingOf st4).toList 0 lo/\Seg R (arrOf st4) lo (lo+N))
     (Q:=fun c st4=>c=(none,())/\B κ a₀ st4/\V4 R (arrOf st4) (pendingOf st4).toList 0 lo/\Seg R (arrOf st4) lo (lo+N)) ?_ (fun _ _ q=>q) ⟨rfl,b3,c3,s3⟩) ?_)
    ·rintro y c st4 _ _ ⟨rfl,b4,c4,s4⟩
     refine wpS_bind (wpS_get ?_)
     by_cases hz:(pendingOf st4).size>1
     ·rw [if_pos hz]
      obtain⟨⟨u1,u2,u3⟩,hu⟩:∃t,(pendingOf st4)[(pendingOf st4).size - 2]?=some t:=⟨_,getElem?_pos (pendingOf st4) _ (by lia)⟩
      rw [hu]
      dsimp only
      split
      ·exact wpS_pure ⟨rfl,b4,c4,s4⟩
      ·refine wpS_bind (b3u C hS b4 c4 hlo (by lia) fun st5 b5 c5 z5 f5=> ?_)
       simp only [Bool.not_true,At,if_false]
       exact wpS_pure ⟨rfl,b5,c5,fun i j h1 h2 h3=>by rw [f5 i h1,f5 j (by lia)];exact s4 i j h1 h2 h3⟩
     ·rw [if_neg hz]
      exact wpS_pure ⟨rfl,b4,c4,s4⟩
    ·rintro c st4 ⟨rfl,b4,c4,s4⟩
     dsimp only
     refine wpS_bind (wpS_modify (wpS_bind (wpS_modify (wpS_pure (push (setPending st4 _) ⟨b4.perm,b4.kind,b4.failed⟩ ?_ s4)))))
     show V4 R (arrOf st4) ((pendingOf st4).modify _ _).toList 0 lo
     rw [Array.toList_modify]
     exact c4.pow _
 ·rintro c st' ⟨lo,rfl,hlo,hxl,hB',hc⟩
  have:lo=a₀.size:=by lia
  subst this
  exact⟨rfl,hB',hc⟩
 ·rintro c st' ⟨rfl,hB',hc⟩
  dsimp only
  have len:=hc.le
  rw [Array.length_toList] at len
  refine wpS_bind (wpS_mono (wpS_forRange (I:=fun x c st4=>c=(none,())/\B κ a₀ st4/\V4 R (arrOf st4) (pendingOf st4).toList 0 a₀.size/\(pendingOf st4).size<=max 1 (a₀.size - x))
   (Q:=fun c st4=>c=(none,())/\B κ a₀ st4/\V4 R (arrOf st4) (pendingOf st4).toList 0 a₀.size/\(pendingOf st4).size<=1) ?_ ?_ ⟨rfl,hB',hc,by lia⟩) ?_)
  ·rintro x c st4 _ hx ⟨rfl,b4,c4,z4⟩
   refine wpS_bind (wpS_get ?_)
   by_cases hz:(pendingOf st4).size<=1
   ·rw [if_pos hz]
    exact wpS_pure ⟨rfl,b4,c4,hz⟩
   ·rw [if_neg hz]
    refine wpS_bind (b3u C hS b4 c4 (AN _) ?_ fun st5 b5 c5 z5 f5=> ?_)
    ·repeat' split
     all_goals lia
    simp only [Bool.not_true,At,if_false]
    exact wpS_pure ⟨rfl,b5,c5,by lia⟩
  ·rintro c st4 ⟨rfl,b4,c4,z4⟩
   exact⟨rfl,b4,c4,by lia⟩
  ·rintro c st4 ⟨rfl,b4,c4,z4⟩
   refine wpS_pure (h st4 b4 ?_)
   match hl:(pendingOf st4).toList,c4,(show(pendingOf st4).toList.length<=1 from z4) with
   |[],c4,_=>
    have:0=a₀.size:=c4
    intro i j _ _ hj;lia
   |[(p,n,e)],c4,_=>
    obtain⟨rfl,_,sg,e1⟩:=c4
    have:0+n=a₀.size:=e1
    rw [<-this];exact sg
   |_::_::_,_,z=>simp at z
end
open PySem PySem.Spec PyProof.Rows
section
variable {prog:AL}{w:AJ}{A:AO}{E:AA->AC->Prop}{s:AC}
variable {κ:SortKind}{S:Keyed->Prop}{R:Keyed->Keyed->Bool}
def tw(v:AA):Keyed:=(v,v)
theorem a72(vs:List AA):(pairsOf vs).toList=vs.map tw:=by
 rw [pairsOf_toList]
 induction vs with
 |nil=>rfl
 |cons v r ih=>rw [List.zip_cons_cons,ih];rfl
theorem b2F{vs:List AA}{a:Array Keyed}(hp:a.Perm (pairsOf vs))(hs:Seg R a 0 (pairsOf vs).size):
 ((a.map (·.2)).toList).Perm vs/\((a.map (·.2)).toList).Pairwise fun u v=>R (tw v) (tw u)=false:=by
 have hl:=Array.perm_iff_toList_perm.mp hp
 rw [a72] at hl
 have e:a.toList=(a.map (·.2)).toList.map tw:=by
  rw [Array.toList_map,Az]
  have:∀p∈a.toList,(tw∘fun p:Keyed=>p.2) p=p:=fun p hm=>by
   obtain⟨v,_,rfl⟩:=Aj.mp (hl.mem_iff.mp hm)
   rfl
  rw [List.map_congr_left this,List.map_id']
 refine⟨?_, ?_⟩
 ·have:=hl.map (fun p:Keyed=>p.2)
  rw [Az] at this
  have e2:vs.map ((fun p:Keyed=>p.2)∘tw)=vs:=by
   have:((fun p:Keyed=>p.2)∘tw)=id:=rfl
   rw [this,List.map_id]
  rw [e2] at this
  rw [Array.toList_map];exact this
 ·have hw:a.toList.Pairwise fun x y=>R y x=false:=by
   rw [List.pairwise_iff_getElem]
   intro i j hi hj hij
   have h1:=N4 (a:=a) hi
   have h2:=N4 (a:=a) hj
   rw [BA hi] at h1
   rw [BA hj] at h2
   rw [Option.some.inj h1,Option.some.inj h2]
   have:a.toList.length=a.size:=rfl
   exact hs i j (Nat.zero_le _) (by lia) (by rw [<-hp.size_eq];lia)
  rw [e,List.pairwise_map] at hw
  exact hw
theorem a0F{a:AB}{vs:List AA}{n:Nat}{P:PySem.Fin->AC->Prop}(ho:s.heap.get? a=some (seqObj "list" vs.toArray n))(hz:vs.length<=16777216)
 (hC:2<=vs.length->∀h',(∀b o,b≠a->s.heap.get? b=some o->h'.get? b=some o)->
  (∀Q:SortKind->AC->Prop,Q κ {s with heap:=h'}->AG (model prog w) A (keyKind' vs.toArray) Q E {s with heap:=h'})/\Q8 prog w A E {s with heap:=h'} κ S R)
 (hS:∀v∈vs,S (tw v))
 (h:∀out:Array AA,out.toList.Perm vs->(out.toList.Pairwise fun u v=>R (tw v) (tw u)=false)->P (.done (.ret .none)) {s with heap:=sortedHeap s.heap a vs out}):
 AG (model prog w) A (Builtin.«list.sort» ⟨[.ref a],[]⟩) P E s:=by
 have hb:vs.toArray.size<=AK:=by rw [Ab,sizeLine_eq];exact hz
 have ha:a<s.heap.objs.size:=AY ho
 rw [list_sort_plain]
 refine AF (listItems_at ho rfl (AF (listUpdate_at ho rfl ?_ hb (Nat.zero_le _))))
 obtain⟨e1,q1⟩:∃e1,(s.heap.update a (Obj.mapSeq fun _=> #[])).get? a=some (seqObj "list" #[] e1):=⟨_,get?_update_seq ho (fun _=> #[])⟩
 refine AF (seqEpoch_at q1 rfl (AF (wpAny_newTuple (AF (wpAny_newList (wpAny_holding ?_) (Nat.zero_le _))) (by show vs.length<=_;rw [sizeLine_eq];exact hz))))
 have q6:(((s.heap.update a (Obj.mapSeq fun _=> #[])).push (seqObj "tuple" vs.toArray 0)).push (seqObj "list" #[] 0)).get? a=some (seqObj "list" #[] e1):=
  Ae _ (Ae _ q1)
 have keep:∀b o,b≠a->s.heap.get? b=some o->(((s.heap.update a (Obj.mapSeq fun _=> #[])).push (seqObj "tuple" vs.toArray 0)).push (seqObj "list" #[] 0)).get? b=some o:=fun b o hb e=>
  Ae _ (Ae _ (by rw [Heap.get?_update_ne _ _ _ _ hb];exact e))
 show AG (model prog w) A _ P E {s with heap:=((s.heap.update a (Obj.mapSeq fun _=> #[])).push (seqObj "tuple" vs.toArray 0)).push (seqObj "list" #[] 0)}
 dsimp only
 by_cases h2:vs.toArray.size<2
 ·rw [if_pos h2,if_pos h2]
  have h2':vs.length<2:=by rwa [Ab] at h2
  refine AF (AQ ?_)
  rw [StateT.run_pure]
  refine AF (AQ ?_)
  dsimp only
  refine AF (seqEpoch_at q6 rfl (AF (listUpdate_at q6 rfl ?_ (hsz2:= ?_))))
  ·simp only [bne_self_eq_false,At,if_false]
   have ob:=b2F (R:=fun _ _=>false) (vs:=vs) (a:=pairsOf vs) (Array.Perm.refl _) (fun i j _ hij hj=>rfl)
   refine AQ (h _ ob.1 ?_)
   have hl:=ob.1.length_eq
   match(Array.map (fun p:Keyed=>p.2) (pairsOf vs)).toList,hl with
   |[],_=>exact List.Pairwise.nil
   |[u],_=>exact List.pairwise_singleton _ _
   |_::_::_,hl=>simp at hl;lia
  ·rw [Array.size_map]
   show(pairsOf vs).size<=_
   rw [pairsOf_size,sizeLine_eq];lia
 ·rw [if_neg h2,if_neg h2]
  obtain⟨k1,k2⟩:=hC (by rw [Ab] at h2;lia) _ keep
  refine AF (k1 _ ?_)
  have hS':∀p∈(pairsOf vs).toList,S p:=fun p hp=>by
   rw [a72] at hp
   obtain⟨v,hv,rfl⟩:=Aj.mp hp
   exact hS v hv
  refine AF (wpAny_mono (b5j (a₀:=pairsOf vs) k2 hS' (st:=SortSt.mk' κ (vs.toArray.zip vs.toArray) #[] 7 none) (Q:=fun _ st'=>B κ (pairsOf vs) st'/\Seg R (arrOf st') 0 (pairsOf vs).size) ⟨Array.Perm.refl _,rfl,rfl⟩ rfl fun st' b1 b2=>⟨b1,b2⟩) ?_ fun _ _ e=>e)
  rintro⟨⟨⟩,st'⟩ s' ⟨rfl,b1,b2⟩
  dsimp only
  refine AF (seqEpoch_at q6 rfl (AF (listUpdate_at q6 rfl ?_ (hsz2:= ?_))))
  ·rw [b1.failed]
   simp only [bne_self_eq_false,At,if_false]
   have ob:=b2F b1.perm b2
   exact AQ (h _ ob.1 ob.2)
  ·refine Nat.le_trans (Nat.le_of_eq ((Array.size_map ..).trans (b1.perm.size_eq.trans (pairsOf_size _)))) ?_
   rw [sizeLine_eq];lia
end
open PySem PySem.Spec PyProof.Rows L2 PU
section
variable {prog:AL}{w:AJ}{A:AO}{E:AA->AC->Prop}{s:AC}
variable {κ:SortKind}{S:Keyed->Prop}{R:Keyed->Keyed->Bool}
theorem a9n{l:AB}{T:String}{o:Obj}{vs:List AA}{n:Nat}{Q:AA->AC->Prop}(hT:T="list"\/T="tuple")(ho:s.heap.get? l=some o)(hc:o.cls= .type T)(hd:o.data= .seq vs.toArray n)(hz:vs.length<=16777216)
 (hC:2<=vs.length->∀h',(∀b o,s.heap.get? b=some o->h'.get? b=some o)->
  (∀Q:SortKind->AC->Prop,Q κ {s with heap:=h'}->AG (model prog w) A.in1.in1 (keyKind' vs.toArray) Q (fun _ _=>False) {s with heap:=h'})/\Q8 prog w A.in1.in1 (fun _ _=>False) {s with heap:=h'} κ S R)
 (hS:∀v∈vs,S (tw v))
 (h:∀(h1 h':Heap) (e:Nat) (us:List AA),(∀b o',s.heap.get? b=some o'->h1.get? b=some o')->(∀b o',h1.get? b=some o'->h'.get? b=some o')->us.Perm vs->(us.Pairwise fun u v=>R (tw v) (tw u)=false)->
  h'.get? h1.objs.size=some (seqObj "list" us.toArray e)->Q (.ref h1.objs.size) {s with heap:=h'}):
 AG (model prog w) A (call (.builtin "sorted") [.ref l]) Q E s:=by
 refine Calls.call_function_entry kind_sorted plain_sorted entry_sorted (args_sorted1 _) ?_
 unfold Builtin.«sorted»
 refine AF (m:=checkCount "sorted" 1 1 _) (AQ ?_)
 refine AF (wpAny_collect_seq l hT ho hc hd (fun h1 k1=> ?_) (by rw [Ab,sizeLine_eq];exact hz))
 have ev:vs.toArray.toList=vs:=by simp
 rw [ev]
 refine AF (wpAny_newList ?_ (by rw [sizeLine_eq];exact hz))
 have q1:(h1.push (seqObj "list" vs.toArray 0)).get? h1.objs.size=some (seqObj "list" vs.toArray 0):=Aw _ rfl
 show AG _ _ _ _ _ {s with heap:=h1.push (seqObj "list" vs.toArray 0)}
 refine AF (wpAny_holding (wpAny_call_entry slot_list_sort ⟨_,q1,rfl⟩ entry_list_sort (wpAny_mono (a0F (E:=fun _ _=>False) (κ:=κ) (S:=S) (R:=R) q1 hz (fun h2 h' kp=>hC h2 h' fun b o' e=>kp b o' ?_ ?_) hS fun out a1 a2=>⟨_,rfl, ?_⟩) (fun _ _ e=>e) fun _ _ e=>e.elim) (args_list_sort _)))
 ·exact An (AY (k1 b o' e))
 ·exact Ae _ (k1 b o' e)
 ·obtain⟨e,he⟩:=sortedHeap_at (out:=out) q1
  refine AQ ⟨_,rfl,h h1 _ e out.toList k1 (fun b o' hb1=> ?_) a1 a2 (by rw [Array.toArray_toList];exact he)⟩
  have hlt:=AY hb1
  rw [sortedHeap_old (An hlt) (by rw [size_push'];exact Nat.lt_succ_of_lt hlt),Heap.get?_push_ne _ _ _ (An hlt)]
  exact hb1
end
end TS
namespace PU
open PySem PySem.Spec PyProof.Rows L2
def b0s{α:Type}(lt:α->α->Bool)(x:α):List α->List α
 |[]=>[x]
 |y::r=>if lt y x then y::b0s lt x r else x::y::r
def O2{α:Type}(lt:α->α->Bool):List α->List α
 |[]=>[]
 |x::r=>b0s lt x (O2 lt r)
structure b0d{α:Type}(lt:α->α->Bool):Prop where
 tr:∀a b c,lt b a=false->lt c b=false->lt c a=false
 as:∀a b,lt a b=true->lt b a=false
 an:∀a b,lt a b=false->lt b a=false->a=b
section
variable {α:Type}{lt:α->α->Bool}
theorem a2h(x:α):∀l:List α,(b0s lt x l).Perm (x::l)
 |[]=>List.Perm.refl _
 |y::r=>by
  unfold b0s
  split
  ·exact((a2h x r).cons y).trans (List.Perm.swap x y r)
  ·exact List.Perm.refl _
theorem a1a:∀l:List α,(O2 lt l).Perm l
 |[]=>List.Perm.refl _
 |x::r=>(a2h x (O2 lt r)).trans ((a1a r).cons x)
theorem a2M(L:b0d lt)(x:α):∀{l:List α},(l.Pairwise fun a b=>lt b a=false)->(b0s lt x l).Pairwise fun a b=>lt b a=false
 |[],_=>List.pairwise_singleton _ _
 |y::r,h=>by
  unfold b0s
  have h':=List.pairwise_cons.mp h
  split
  ·rename_i c
   refine List.pairwise_cons.mpr ⟨fun z hz=> ?_,a2M L x h'.2⟩
   rcases Ag.mp ((a2h x r).mem_iff.mp hz) with e|e
   ·subst e;exact L.as _ _ c
   ·exact h'.1 z e
  ·rename_i c
   have c':lt y x=false:=eq_false_of_ne_true c
   refine List.pairwise_cons.mpr ⟨fun z hz=> ?_,h⟩
   rcases Ag.mp hz with e|e
   ·subst e;exact c'
   ·exact L.tr _ _ _ c' (h'.1 z e)
theorem V2(L:b0d lt):∀l:List α,(O2 lt l).Pairwise fun a b=>lt b a=false
 |[]=>List.Pairwise.nil
 |x::r=>a2M L x (V2 L r)
theorem a4V(L:b0d lt):∀{l m:List α},(l.Pairwise fun a b=>lt b a=false)->(m.Pairwise fun a b=>lt b a=false)->l.Perm m->l=m
 |[],m,_,_,p=>(List.Perm.nil_eq p)
 |a::l,[],_,_,p=>by have:=p.length_eq;simp at this
 |a::l,b::m,hl,hm,p=>by
  have hl':=List.pairwise_cons.mp hl
  have hm':=List.pairwise_cons.mp hm
  have e:a=b:=by
   have m1:a∈b::m:=p.mem_iff.mp Al
   have m2:b∈a::l:=p.mem_iff.mpr Al
   rcases Ag.mp m1 with e|e
   ·exact e
   ·rcases Ag.mp m2 with g|g
    ·exact g.symm
    ·exact L.an _ _ (hm'.1 a e) (hl'.1 b g)
  subst e
  rw [a4V L hl'.2 hm'.2 (List.Perm.cons_inv p)]
theorem a4U(L:b0d lt){l m:List α}(h:l.Pairwise fun a b=>lt b a=false)(p:l.Perm m):O2 lt m=l:=
 a4V L (V2 L m) h ((a1a m).trans p.symm)
end
def a4g:f8->f8->Bool
 | .inl a,.inl b=>decide (a<b)
 | .inr a,.inr b=>decide (a.cps.toList<b.cps.toList)
 | .inl _,.inr _=>true
 | .inr _,.inl _=>false
def E2:List f8->List f8->Bool
 |[],[]=>false
 |[],_::_=>true
 |_::_,[]=>false
 |a::r,b::t=>if a=b then E2 r t else a4g a b
theorem a3k:b0d a4g where
 tr:=by
  intro a b c h1 h2
  cases a<;>cases b<;>cases c<;>simp only [a4g,decide_eq_false_iff_not,reduceCtorEq] at h1 h2 ⊢
  ·lia
  ·exact a2l (a:=_) (b:=_) (c:=_) h1 h2
 as:=by
  intro a b h
  cases a<;>cases b<;>simp only [a4g,decide_eq_false_iff_not,decide_eq_true_eq,reduceCtorEq] at h ⊢
  ·lia
  ·exact List.lt_asymm h
 an:=by
  intro a b h1 h2
  cases a<;>cases b<;>simp only [a4g,decide_eq_false_iff_not,reduceCtorEq] at h1 h2
  ·congr 1;lia
  ·congr 1;exact a7J h2 h1
theorem S2:b0d E2 where
 tr:=by
  intro a
  induction a with
  |nil=>intro b c _ h2;cases c<;>rfl
  |cons x a ih=>
   intro b c h1 h2
   cases b with
   |nil=>simp [E2] at h1
   |cons y b=>
    cases c with
    |nil=>simp [E2] at h2
    |cons z c=>
     unfold E2 at h1 h2 ⊢
     by_cases e1:y=x
     ·subst e1
      rw [if_pos rfl] at h1
      by_cases e2:z=y
      ·subst e2
       rw [if_pos rfl] at h2 ⊢
       exact ih b c h1 h2
      ·rw [if_neg e2] at h2 ⊢;exact h2
     ·rw [if_neg e1] at h1
      by_cases e2:z=y
      ·subst e2
       rw [if_neg e1];exact h1
      ·rw [if_neg e2] at h2
       by_cases e3:z=x
       ·subst e3
        exact absurd (a3k.an _ _ h1 h2) e1
       ·rw [if_neg e3];exact a3k.tr _ _ _ h1 h2
 as:=by
  intro a
  induction a with
  |nil=>intro b h;cases b<;>first|rfl|(simp [E2] at h)
  |cons x a ih=>
   intro b h
   cases b with
   |nil=>simp [E2] at h
   |cons y b=>
    unfold E2 at h ⊢
    by_cases e:x=y
    ·subst e;rw [if_pos rfl] at h ⊢;exact ih b h
    ·rw [if_neg e] at h;rw [if_neg (Ne.symm e)];exact a3k.as _ _ h
 an:=by
  intro a
  induction a with
  |nil=>intro b h1 h2;cases b<;>first|rfl|(simp [E2] at h1)
  |cons x a ih=>
   intro b h1 h2
   cases b with
   |nil=>simp [E2] at h2
   |cons y b=>
    unfold E2 at h1 h2
    by_cases e:x=y
    ·subst e;rw [if_pos rfl] at h1 h2;rw [ih b h1 h2]
    ·rw [if_neg e] at h1;rw [if_neg (Ne.symm e)] at h2;exact absurd (a3k.an _ _ h1 h2) e
def kT(k:List f8):PV:= .tuple (k.map kP)
def a2Q:List PV->Option (List (List f8))
 |[]=>some []
 | .tuple qs::r=>(keysOf qs).bind fun k=>(a2Q r).map fun t=>k::t
 |_::_=>none
def sgK:f8->Bool
 | .inl _=>false
 | .inr _=>true
def okK:List (List f8)->Bool
 |[]=>true
 |k::r=> !k.isEmpty && r.all fun j=>j.map sgK==k.map sgK
open PySem PySem.Spec PyProof.Rows L2 PySem.W
theorem a8O:∀{a b:f8},kV a=kV b->a=b
 | .inl _,.inl _,h=>by cases h;rfl
 | .inr _,.inr _,h=>by cases h;rfl
 | .inl _,.inr _,h=>nomatch h
 | .inr _,.inl _,h=>nomatch h
theorem a3i:∀{a b:List f8},a.map kV=b.map kV->a=b
 |[],[],_=>rfl
 |[],_::_,h=>nomatch h
 |_::_,[],h=>nomatch h
 |x::a,y::b,h=>by
  rw [AM,AM] at h
  obtain⟨h1,h2⟩:=List.cons.inj h
  rw [a8O h1,a3i h2]
def G5(h:Heap)(u:AA)(k:List f8):Prop:=∃(a:AB) (o:Obj) (xs:Array AA) (n:Nat),u= .ref a/\h.get? a=some o/\o.cls= .type "tuple"/\o.data= .seq xs n/\i4 (k.map kV) xs.toList
theorem G5.inj{h:Heap}{u:AA}{k j:List f8}(a:G5 h u k)(b:G5 h u j):k=j:=by
 obtain⟨a1,o1,x1,n1,rfl,g1,_,d1,v1⟩:=a
 obtain⟨a2,o2,x2,n2,e2,g2,_,d2,v2⟩:=b
 cases e2
 rw [g1] at g2;cases g2
 rw [d1] at d2;cases d2
 exact a3i (v1.inj v2)
theorem G5.keep{h h':Heap}{u:AA}{k:List f8}(a:G5 h u k)(kp:∀b o,h.get? b=some o->h'.get? b=some o):G5 h' u k:=
 let ⟨a1,o1,x1,n1,e,g1,c,d1,v1⟩:=a;⟨a1,o1,x1,n1,e,kp _ _ g1,c,d1,v1⟩
open Classical in
def kOf(h:Heap)(u:AA):List f8:=if e:∃k,G5 h u k then e.choose else []
theorem a6q{h:Heap}{u:AA}{k:List f8}(a:G5 h u k):kOf h u=k:=by
 have e:∃k,G5 h u k:=⟨k,a⟩
 unfold kOf
 rw [dif_pos e]
 exact e.choose_spec.inj a
section
variable {prog:AL}{w:AJ}{A:AO}{E:AA->AC->Prop}{s:AC}
theorem b2b{a c:f8}{u v:AA}(hu:l6 (kV a) u)(hv:l6 (kV c) v)(hg:sgK a=sgK c):SeqAt.EqAt A s u v (decide (a=c)):=by
 cases a<;>cases c<;>first|(cases hg;done)|skip
 ·obtain⟨t,rfl⟩:=hu
  obtain⟨t',rfl⟩:=hv
  rename_i i j
  have:(decide ((Sum.inl i:f8)=Sum.inl j))=(i==j):=b2c i j
  rw [this]
  exact SeqAt.EqAt.int_int _ _ _ _
 ·obtain⟨t,rfl⟩:=hu
  obtain⟨t',rfl⟩:=hv
  rename_i i j
  rw [b2d i j]
  have:=SeqAt.EqAt.str_str (A:=A) (s:=s) i t j t'
  have e:(i==j)=decide (i=j):=by by_cases h:i=j<;>simp [h]
  rw [e] at this
  exact this
theorem b0z{a c:f8}{u v:AA}{Q:Bool->AC->Prop}(f:Bool)(hu:l6 (kV a) u)(hv:l6 (kV c) v)(hg:sgK a=sgK c)(h:Q (a4g a c) s):AG (model prog w) A (oneLt' f u v) Q E s:=by
 cases a<;>cases c<;>first|(cases hg;done)|skip
 ·obtain⟨t,rfl⟩:=hu
  obtain⟨t',rfl⟩:=hv
  cases f
  ·exact kat_one _ _ (a46.ints _ _ t t' prog w E _ h)
  ·exact oneLt_int h
 ·obtain⟨t,rfl⟩:=hu
  obtain⟨t',rfl⟩:=hv
  cases f
  ·exact kat_one _ _ (a46.strs _ _ t t' prog w E _ h)
  ·rw [<-keyLt'_oneType];exact kas_lt_str h
theorem a2P{b:Bool}{Q:Bool->AC->Prop}:∀(ks js:List f8) (us ws:List AA) (i:Nat),i4 (ks.map kV) us->i4 (js.map kV) ws->ks.map sgK=js.map sgK->Q (E2 ks js) s->KatLex prog w A b false Q (us.zip ws) i s
 |[],[],us,ws,i,h1,h2,_,h=>by
  cases h1;cases h2
  exact kat_nil h
 |[],_::_,_,_,_,_,_,e,_=>nomatch e
 |_::_,[],_,_,_,_,_,e,_=>nomatch e
 |a::ks,c::js,us,ws,i,h1,h2,e,h=>by
  rw [AM] at h1 h2
  cases h1 with
  |cons r1 h1=>
   cases h2 with
   |cons r2 h2=>
    rw [AM,AM] at e
    obtain⟨e1,e2⟩:=List.cons.inj e
    rw [List.zip_cons_cons]
    refine kat_cons (b2b r1 r2 e1 prog w _ _ ?_)
    unfold E2 at h
    by_cases hac:a=c
    ·rw [if_pos hac] at h
     rw [decide_eq_true hac]
     exact kat_yes (a2P ks js _ _ (i+1) h1 h2 e2 h)
    ·rw [if_neg hac] at h
     rw [decide_eq_false hac]
     exact kat_no (b0z _ r1 r2 e1 h)
theorem a8g{h₀:Heap}{σk:List Bool}{b:Bool}(kp:∀b o,h₀.get? b=some o->s.heap.get? b=some o):
 TS.Q8 prog w A E s (tuples' b) (fun x=>∃k,G5 h₀ x.1 k/\k.map sgK=σk) (fun x y=>E2 (kOf h₀ x.1) (kOf h₀ y.1)) where
 lt:=by
  rintro⟨x,x'⟩ ⟨y,y'⟩ ⟨k,hk,gk⟩ ⟨j,hj,gj⟩ st Q hκ h
  dsimp only at*
  rw [a6q hk,a6q hj] at h
  rw [lt'_eq]
  refine wpS_bind (wpS_get ?_)
  rw [hκ]
  refine wpS_bind (wpS_lift (wpAny_attempt ?_))
  obtain⟨a1,o1,x1,n1,rfl,g1,c1,d1,v1⟩:=hk
  obtain⟨a2,o2,x2,n2,rfl,g2,c2,d2,v2⟩:=hj
  have z1:k.length=x1.size:=by have:=v1.length;rwa [AU,Array.length_toList] at this
  have z2:j.length=x2.size:=by have:=v2.length;rwa [AU,Array.length_toList] at this
  have zk:k.length=j.length:=by have:=congrArg List.length (gk.trans gj.symm);rwa [AU,AU] at this
  refine kat_lt (kp _ _ g1) d1 (kp _ _ g2) d2 ?_
  have:decide (x1.size<x2.size)=false:=decide_eq_false (by rw [<-z1,<-z2,zk];exact Nat.lt_irrefl _)
  rw [this]
  exact a2P k j _ _ 0 v1 v2 (gk.trans gj.symm) ⟨rfl,wpS_pure h⟩
 tr:=fun x y z _ _ _=>S2.tr _ _ _
 as:=fun x y _ _=>S2.as _ _
end
theorem a01{α β:Type}{R:α->β->Prop}:∀{l:List α} {m:List β},Paired R l m->∀x∈l,∃y∈m,R x y
 |_,_,.cons r t,x,h=>by
  rcases Ag.mp h with rfl|h
  ·exact⟨_,Al,r⟩
  ·obtain⟨y,hy,q⟩:=a01 t x h
   exact⟨y,Ai _ hy,q⟩
theorem N9{h:Heap}:∀{vs:List AA} {ks:List (List f8)},Paired (G5 h) vs ks->vs.map (kOf h)=ks
 |_,_,.nil=>rfl
 |_,_,.cons r t=>by rw [AM,a6q r,N9 t]
section
variable {prog:AL}{w:AJ}{A:AO}{E:AA->AC->Prop}{s:AC}
theorem a24{c:Bool}{σk:List Bool}{h:Heap}:∀{vs:List AA} {ks:List (List f8)},Paired (G5 h) vs ks->(∀k∈ks,k.map sgK=c::σk)->
 ∃fs:List AA,KatTups h vs fs/\fs.length=vs.length/\∀v∈fs,Looks (model prog w) h (typeOf v) (if c then Value.type "str" else Value.type "int")
 |_,_,.nil,_=>⟨[],.nil,rfl,fun v hv=>nomatch hv⟩
 |_,_,.cons r t,hs=>by
  rename_i v k vs ks
  obtain⟨fs,f1,f2,f3⟩:=a24 t fun k hk=>hs k (Ai _ hk)
  have e:=hs k Al
  obtain⟨a1,o1,x1,n1,rfl,g1,c1,d1,v1⟩:=r
  cases k with
  |nil=>cases e
  |cons q k=>
   rw [AM] at e v1
   have e1:=(List.cons.inj e).1
   generalize hx:x1.toList=xl at v1
   cases v1 with
   |cons r1 v1=>
    rename_i u us
    have h0:x1[0]?=some u:=by rw [<-Array.getElem?_toList,hx];rfl
    refine⟨u::fs,.cons g1 c1 d1 h0 f1,by rw [AT,AT,f2],fun v hv=> ?_⟩
    rcases Ag.mp hv with rfl|hv
    ·cases q with
     |inl i=>
      obtain⟨t',rfl⟩:=r1
      have:c=false:=e1.symm
      subst this
      exact(.now:Looks (model prog w) h (pure (Value.type "int")) (Value.type "int"))
     |inr x=>
      obtain⟨t',rfl⟩:=r1
      have:c=true:=e1.symm
      subst this
      exact(.now:Looks (model prog w) h (pure (Value.type "str")) (Value.type "str"))
    ·exact f3 v hv
theorem a5Z{c:Bool}{σk:List Bool}{vs:List AA}{ks:List (List f8)}{Q:SortKind->AC->Prop}(hp:Paired (G5 s.heap) vs ks)(h0:0<vs.length)(hs:∀k∈ks,k.map sgK=c::σk)(h:Q (tuples' true) s):
 AG (model prog w) A (keyKind' vs.toArray) Q E s:=by
 obtain⟨fs,f1,f2,f3⟩:=a24 (prog:=prog) (w:=w) hp hs
 refine kat_kind f1 (by lia) f3 ?_ ?_
 ·cases c<;>decide
 ·have:((if c=true then Value.type "str" else Value.type "int") !=Value.type "tuple")=true:=by cases c<;>decide
  rw [this];exact h
theorem Z2{h h':Heap}(kp:∀b o,h.get? b=some o->h'.get? b=some o):∀{vs:List AA} {ks:List (List f8)},Paired (G5 h) vs ks->Paired (G5 h') vs ks
 |_,_,.nil=> .nil
 |_,_,.cons r t=> .cons (r.keep kp) (Z2 kp t)
theorem a8c{l:AB}{T:String}{o:Obj}{vs:List AA}{n:Nat}{Q:AA->AC->Prop}(hT:T="list"\/T="tuple")(ho:s.heap.get? l=some o)(hc:o.cls= .type T)(hd:o.data= .seq vs.toArray n)(hz:vs.length<=16777216)
 {ks:List (List f8)} (hp:Paired (G5 s.heap) vs ks) (ok:okK ks=true)
 (h:∀(h1 h':Heap) (e:Nat) (us:List AA),(∀b o',s.heap.get? b=some o'->h1.get? b=some o')->(∀b o',h1.get? b=some o'->h'.get? b=some o')->us.Perm vs->us.map (kOf s.heap)=O2 E2 ks->
  h'.get? h1.objs.size=some (seqObj "list" us.toArray e)->Q (.ref h1.objs.size) {s with heap:=h'}):
 AG (model prog w) A (call (.builtin "sorted") [.ref l]) Q E s:=by
 obtain⟨c,σk,hs⟩:∃c σk,∀k∈ks,k.map sgK=c::σk:=by
  cases ks with
  |nil=>exact⟨false,[],fun k hk=>nomatch hk⟩
  |cons k r=>
   unfold okK at ok
   rw [Bool.and_eq_true] at ok
   cases k with
   |nil=>exact nomatch ok.1
   |cons q k=>
    refine⟨sgK q,k.map sgK,fun j hj=> ?_⟩
    rcases Ag.mp hj with rfl|hj
    ·rfl
    ·have:=List.all_eq_true.mp ok.2 j hj
     simpa using this
 refine TS.a9n (κ:=tuples' true) (S:=fun x=>∃k,G5 s.heap x.1 k/\k.map sgK=c::σk) (R:=fun x y=>E2 (kOf s.heap x.1) (kOf s.heap y.1)) hT ho hc hd hz (fun h2 h' kp=>⟨fun Q' hq=> ?_,a8g (s:={s with heap:=h'}) kp⟩) (fun v hv=> ?_)
  fun h1 h' e us k1 k2 pm pw he=>h h1 h' e us k1 k2 pm ?_ he
 ·exact a5Z (s:={s with heap:=h'}) (Z2 kp hp) (by lia) hs hq
 ·obtain⟨k,hk,r⟩:=a01 hp v hv
  exact⟨k,r,hs k hk⟩
 ·symm
  refine a4U S2 (List.pairwise_map.mpr pw) ?_
  have:=pm.map (kOf s.heap)
  rw [N9 hp] at this
  exact this
end
theorem a5C:∀{qs:List PV} {k:List f8},keysOf qs=some k->qs=k.map kP
 |[],k,h=>by cases h;rfl
 |q::qs,k,h=>by
  unfold keysOf at h
  obtain⟨a,h1,h⟩:=bind_some h
  obtain⟨r,h2,h⟩:=bind_some h
  cases h
  rw [AM,<-a5C h2]
  congr 1
  unfold a7G at h1
  split at h1<;>cases h1<;>rfl
def a31(x:d7):Option d7:=match PyData.items? x.rd with
 |some ps=>(a2Q ps).bind fun ks=>if okK ks=true/\ks.length<=16777216 then some (.own ((O2 E2 ks).map kT)) else none
 |none=>none
section
variable {X:Cx}{pins:List (AB×Obj)}{σ:L2.St}{F H:Hp}{s:AC}
theorem a5D(I:i2 X pins σ H s)(s0:j5 F H):∀{ps:List PV} {ks:List (List f8)} {xs:List V} {its:List AA},a2Q ps=some ks->g9 X.K F ps xs->i4 xs its->
 Paired (G5 s.heap) its ks/\∀u∈its,∃k v,G5 s.heap u k/\l6 v u/\v6 X.K F (kT k) v
 |[],ks,xs,its,h,r,v=>by
  cases h;cases r;cases v
  exact⟨.nil,fun u hu=>nomatch hu⟩
 | .tuple qs::ps,ks,xs,its,h,r,v=>by
   unfold a2Q at h
   obtain⟨k,h1,h⟩:=bind_some h
   cases h2:a2Q ps with
   |none=>rw [h2] at h;cases h
   |some t=>
    rw [h2] at h;cases h
    obtain⟨x,xr,rfl,rx,rr⟩:=r
    cases v with
    |cons v1 vr=>
     obtain⟨p1,p2⟩:=a5D I s0 h2 rr vr
     have rx':=rx
     obtain⟨a,xs',rfl,hq,rl⟩:=rx'
     cases v1
     obtain⟨its',rv,⟨o,ho,hc,n,hd⟩,hz⟩:=I.tuple (a9Z s0 hq).sq
     have ex:xs'=k.map kV:=A7 h1 rl
     rw [ex] at rv
     have tv:G5 s.heap (.ref a) k:=⟨a,o,its'.toArray,n,rfl,ho,hc,hd,by simpa using rv⟩
     refine⟨.cons tv p1,fun u hu=> ?_⟩
     rcases Ag.mp hu with rfl|hu
     ·refine⟨k,.ref a,tv,rfl, ?_⟩
      unfold kT
      rw [<-a5C h1];exact rx
     ·exact p2 u hu
 | .none::_,_,_,_,h,_,_=>nomatch h
 | .bool _::_,_,_,_,h,_,_=>nomatch h
 | .int _::_,_,_,_,h,_,_=>nomatch h
 | .str _::_,_,_,_,h,_,_=>nomatch h
 | .list _::_,_,_,_,h,_,_=>nomatch h
 | .dict _::_,_,_,_,h,_,_=>nomatch h
theorem a4K{h:Heap}:∀{us:List AA},(∀u∈us,∃k v,G5 h u k/\l6 v u/\v6 X.K F (kT k) v)->∃ys,i4 ys us/\g9 X.K F ((us.map (kOf h)).map kT) ys
 |[],_=>⟨[],.nil,rfl⟩
 |u::us,hu=>by
  obtain⟨ys,h1,h2⟩:=a4K (us:=us) fun u' h'=>hu u' (Ai _ h')
  obtain⟨k,v,h3,h4,h5⟩:=hu u Al
  refine⟨v::ys,.cons h4 h1,v,ys,rfl, ?_,h2⟩
  rw [a6q h3];exact h5
end
section
variable {X:Cx}
theorem b1n:E3 X (.builtin "sorted") (rC1 X.K a31):=by
 intro pins s σ H xs us Q I rv h
 obtain⟨F,x,rx,rz,rfl,s0,h1,h2,k⟩:=h
 unfold a31 at h2
 split at h2
 ·rename_i ps e
  obtain⟨ks,e1,h2⟩:=bind_some h2
  split at h2
  ·rename_i c
   cases h2
   obtain⟨a,xs,rfl,hq,r⟩:=B6 s0 h1 e
   obtain⟨u,rfl,ru⟩:=a25 rv
   cases ru
   have fin:∀(its:List AA) (T:String) (o:Obj) (n:Nat),(T="list"\/T="tuple")->s.heap.get? a=some o->o.cls= .type T->o.data= .seq its.toArray n->i4 xs its->AG (model X.prog X.w) X.A (call (.builtin "sorted") [.ref a]) (EP X pins σ Q) X.xe s:=by
    intro its T o n hT ho hc hd rvv
    obtain⟨p1,p2⟩:=a5D I s0 e1 r rvv
    have hlen:its.length=ks.length:=by rw [<-N9 p1,AU]
    refine a8c hT ho hc hd (by rw [hlen];exact c.2) p1 c.1 fun hp1 hp2 en us k1 k2 pm ek he=> ?_
    have I1:i2 X pins σ H {s with heap:=hp1}:=I.kept (t':=s.toks) k1
    obtain⟨ys,v1,r1⟩:=a4K (X:=X) (F:=F) (h:=s.heap) (us:=us) fun u hu=>p2 u (pm.mem_iff.mp hu)
    rw [ek] at r1
    have hf:H hp1.objs.size=none:=I1.hok.fresh (AN _)
    have hyl:ys.length<=AK:=by rw [v1.length,pm.length_eq,hlen,sizeLine_eq];exact c.2
    exact⟨.ref hp1.objs.size,_,I1.laid (t':=s.toks) (h':=hp2) (o:= .lst ys) k2 (AN _) ⟨hyl,us,en,v1,he⟩,rfl,k _ F _ (p8.lst s0 hf r1)⟩
   rcases hq with hq|hq
   ·obtain⟨its,r',pl,hz⟩:=I.list hq
    obtain⟨o,ho,hc,n,hd⟩:=pl.isList
    exact fin its "list" o n (.inl rfl) ho hc hd r'
   ·obtain⟨its,r',⟨o,ho,hc,n,hd⟩,hz⟩:=I.tuple hq
    exact fin its "tuple" o n (.inr rfl) ho hc hd r'
  ·cases h2
 ·cases h2
end
section
variable {X:Cx}
end
section
variable {X:Cx}
end
def W8(h:Heap)(d:AB)(es:Array DictEntry)(ep:Nat):Prop:=∃o,h.get? d=some o/\o.ExactDict/\o.data= .dict es ep
section
variable {prog:AL}{w:AJ}{A:AO}{E:AA->AC->Prop}{s:AC}{it d:AB}{i ep:Nat}{es:Array DictEntry}
theorem W8.type(h:W8 s.heap d es ep):s.TypeIs (.ref d) "dict":=let ⟨o,ho,hc,_⟩:=h;⟨o,ho,hc.1⟩
theorem b2V{Q:AA->AC->Prop}(hd:(d==sysModules)=false)(hm:W8 s.heap d es ep)
 (hQ:Q (.ref s.heap.objs.size) {s with heap:=s.heap.push {cls:= .type "dict_keyiterator",data:= .fields #[.ref d,.int 0 0,.int es.size 0,.int ep 0]}}):AG (model prog w) A (pyIter (.ref d)) Q E s:=by
 obtain⟨o,ho,hc,hdat⟩:=id hm
 have hT:=hm.type
 refine wpAny_pyIter_slot hT F.slot_dict_iter (wpAny_call_entry F.slot_dict_iter hT F.entry_dict_iter ?_ (F.args_dict_iter_1 _))
 unfold Builtin.«dict.__iter__»;refine AF ?_;unfold Builtin.Dict.dictSlotNone
 refine AF (wpAny_notOrdered_dict hT ?_)
 show AG _ _ (pure (Value.ref d)) _ _ s
 refine AQ ?_;show AG _ _ (Builtin.Dict.showsAll d>>=_) _ _ s;unfold Builtin.Dict.showsAll
 rw [if_neg (by rw [hd];exact As)]
 refine AF (AQ (AF (wpAny_dictEntries ho hdat (AF (wpAny_dictEpoch ho hdat ?_)))))
 refine AF (wpAny_newObj_type (AQ ⟨_,rfl,"dict_keyiterator",_,⟨_,Aw _ rfl,rfl⟩,F.slot_dict_keyiterator_next.lookup, ?_⟩))
 simpa [rawInt] using hQ
theorem b2W{Q:Option AA->AC->Prop}(hit:s.heap.IsKeyIter it d i es.size ep)(hm:W8 s.heap d es ep)(hi:i<es.size)
 (hQ:∀h',h'.IsKeyIter it d (i+1) es.size ep->Heap.SameBut it s.heap h'->Q (some es[i].key) {s with heap:=h'}):AG (model prog w) A (pyNext (.ref it)) Q E s:=by
 obtain⟨o,ho,hc,hd⟩:=id hit
 obtain⟨od,hod,hcd,hdd⟩:=id hm
 unfold pyNext
 refine AF (wpAny_attempt (wpAny_callSpecial?_slot (name:=AI "__next__") hit.typeIs F.slot_dict_keyiterator_next (wpAny_call_entry F.slot_dict_keyiterator_next hit.typeIs F.entry_dict_keyiterator_next ?_ (F.args_dict_keyiterator_next_1 _))))
 refine AF (AQ (AF (AF ?_)))
 refine AF (wpAny_typeNameOfWhole_keyiter hit.typeIs (AQ (AF (wpAny_fieldsOf ho hd ?_))))
 have hown:Builtin.Dict_items.ownsTuple "dict_keyiterator"=false:=by decide
 simp only [hown,At,if_false];show AG _ _ (if(Value.ref d==Value.none)=true then _ else _) _ _ s
 rw [if_neg (show ¬((Value.ref d==Value.none)=true) from As)];refine AF (AQ (AF (wpAny_dictEntries hod hdd ?_)))
 rw [if_neg (by simp)];refine AF (AQ (AF (wpAny_dictEpoch hod hdd ?_)));rw [if_neg (by simp)];refine AQ ?_
 simp only [show ¬((i:Int)<0) from by lia,if_false,BG,Array.getElem?_eq_getElem hi];refine AF ?_
 refine AF (wpAny_typeNameOfWhole_keyiter hit.typeIs (AQ (AF (wpAny_isOneOf_keyiter hit.typeIs ?_))))
 show AG _ _ (setField (.ref it) 1 (rawInt ((i:Int)+1))>>=_) _ _ s;refine AF (wpAny_setField ho hd (by simp) ?_)
 have hit':(s.heap.update it (Obj.mapFields (·.setIfInBounds 1 (rawInt ((i:Int)+1))))).IsKeyIter it d (i+1) es.size ep:=⟨_,Heap.get?_update_self _ ho (Obj.isFreed_of_fields (Obj.data_mapFields hd _)),(Obj.cls_mapFields ..).trans hc,by rw [Obj.data_mapFields hd];simp [rawInt]⟩
 refine AF (wpAny_holding (AF (wpAny_isOneOf_keyiter (s:={s with heap:=s.heap.update it (Obj.mapFields (·.setIfInBounds 1 (rawInt ((i:Int)+1))))}) hit'.typeIs ?_)))
 show AG _ _ (pure es[i].key) _ _ _;exact AQ (AQ ⟨_,rfl,AQ (hQ _ hit' (Heap.SameBut.update ..))⟩)
theorem b4S{Q:Option AA->AC->Prop}(hh:A.handled=none)(hit:s.heap.IsKeyIter it d es.size es.size ep)(hm:W8 s.heap d es ep)(hQ:∀h',Heap.ExtBut it s.heap h'->Q none {s with heap:=h'}):AG (model prog w) A (pyNext (.ref it)) Q E s:=by
 obtain⟨o,ho,hc,hd⟩:=id hit
 obtain⟨od,hod,hcd,hdd⟩:=id hm
 unfold pyNext
 refine AF (wpAny_attempt (wpAny_callSpecial?_slot (name:=AI "__next__") hit.typeIs F.slot_dict_keyiterator_next (wpAny_call_entry F.slot_dict_keyiterator_next hit.typeIs F.entry_dict_keyiterator_next ?_ (F.args_dict_keyiterator_next_1 _))))
 refine AF (AQ (AF (AF ?_)))
 refine AF (wpAny_typeNameOfWhole_keyiter hit.typeIs (AQ (AF (wpAny_fieldsOf ho hd ?_))))
 have hown:Builtin.Dict_items.ownsTuple "dict_keyiterator"=false:=by decide
 simp only [hown,At,if_false];show AG _ _ (if(Value.ref d==Value.none)=true then _ else _) _ _ s
 rw [if_neg (show ¬((Value.ref d==Value.none)=true) from As)];refine AF (AQ (AF (wpAny_dictEntries hod hdd ?_)))
 rw [if_neg (by simp)];refine AF (AQ (AF (wpAny_dictEpoch hod hdd ?_)));rw [if_neg (by simp)];refine AQ ?_
 simp only [show ¬((es.size:Int)<0) from by lia,if_false,BG,Array.getElem?_eq_none (AN es.size)];refine AF ?_
 refine AF (wpAny_typeNameOfWhole_keyiter hit.typeIs (AQ ?_));show AG _ _ (setField (.ref it) 0 .none>>=_) _ _ s
 refine AF (wpAny_setField ho hd (by simp) ?_);show AG _ _ (newExc (.type "StopIteration") []>>=_) _ _ _;refine AF ?_
 simp only [newExc,newTuple];refine AF (wpAny_newObj_type ?_ (by size_fits))
 refine AF (m:=firstArgMember _ _) (wpAny_of_eq (a:=Value.none) (by first|rfl|(simp only [firstArgMember];rfl)) (wpAny_newObj_type ?_ (by size_fits)))
 simp only [raiseNew];refine AF (wpAny_handled ?_);rw [show A.in1.handled=none from hh]
 refine AF (AQ (wpAny_throw ?_));refine AF (wpAny_isInstance (T:="StopIteration") (b:=true) ⟨_,Aw _ rfl,rfl⟩ isSubtype_stop ?_)
 exact AQ (hQ _ (((Heap.SameBut.update ..).extBut.push _).push _))
theorem W8.at{h h':Heap}(x:W8 h d es ep)(e:∀o,h.get? d=some o->h'.get? d=some o):W8 h' d es ep:=let ⟨o,ho,r⟩:=x;⟨o,e _ ho,r⟩
theorem b0T(hh:A.handled=none)(I d:AB)(hne:d≠I)(es:Array DictEntry)(ep:Nat):
 Walks prog w A I [I,d] [I] es.size (fun i v=>∃e,es[i]?=some e/\v=e.key) (fun i h=>h.IsKeyIter I d i es.size ep/\W8 h d es ep) where
 sub:=fun b hb=>by simp at hb;simp [hb]
 frame:=fun _ _ _ st hk=>⟨st.1.at fun o e=>hk I (by simp) o e,st.2.at fun o e=>hk d (by simp) o e⟩
 item:=fun i s Q E hi st hQ=>by
  refine b2W st.1 st.2 hi fun h' hit' hs'=>hQ _ h' s.toks ⟨es[i],by simp [hi],rfl⟩ ⟨hit',st.2.at fun o e=> ?_⟩ fun b o hb e=>hs'.extBut b o (fun h=>hb (by simp [h])) e
  exact hs'.extBut d o hne e
 done:=fun s Q E st hQ=>b4S hh st.1 st.2 fun h' he'=>hQ h' s.toks fun b o hb e=>he' b o (fun h=>hb (by simp [h])) e
 self:=fun _ _ _ _ st hQ=>wpAny_pyIter_keyiter st.1 hQ
theorem b4T(lo:(d==sysModules)=false):KdlSrc prog w "dict" d d es.size (fun i v=>∃e,es[i]?=some e/\v=e.key) (fun h=>W8 h d es ep) where
 type:=fun _ hm=>hm.type
 there:=fun _ ⟨o,ho,_⟩=>⟨AY ho,AY ho⟩
 keep:=fun _ _ hm hk=>hm.at fun o e=>hk d (.inl rfl) o e
 notList:=by decide
 notTuple:=by decide
 hint:=fun _ _ _ _ hm hq=>kdl_hint_dict hm.type hq
 iter:=fun A s hh hm=>by
  obtain⟨o,ho,r⟩:=id hm
  exact⟨_,_,(fun _ _ hq=>b2V lo hm hq),b0T hh _ d (An (AY ho)) es ep,⟨⟨_,Aw _ rfl,rfl,rfl⟩,hm.at fun o e=>Ae _ e⟩⟩
theorem a7k{Q:List AA->AC->Prop}(hh:A.handled=none)(lo:(d==sysModules)=false)(hm:W8 s.heap d es ep)(hn:es.size<=AK)
 (hQ:∀h' tk,(∀b o,s.heap.get? b=some o->h'.get? b=some o)->Q (es.toList.map (·.key)) {s with heap:=h',toks:=tk}):AG (model prog w) A (collect (.ref d)) Q E s:=by
 obtain⟨o,ho,r⟩:=id hm
 have hlt:=AY ho
 unfold collect
 refine AF (wpAny_runValue (codeAny_builtin F.entry_proto_collect ?_));rw [Around.under_plainId F.plain_proto_collect _]
 show AG _ A.in1 (newList []>>=fun l=>again (.builtin "list.__iadd__" ⟨[l,.ref d],[]⟩)) _ _ s;refine AF (wpAny_newObj_type ?_)
 refine AQ ⟨plainId_quiet F.plain_list_iadd _,codeAny_builtin F.entry_list_iadd ?_⟩;rw [Around.under_plainId F.plain_list_iadd _]
 show AG _ A.in1 (Builtin.List.listExtendWith (.ref s.heap.objs.size) (.ref d) (.ref s.heap.objs.size)) _ _ _
 have hS:(s.heap.push {cls:= .type "list",data:= .seq ([]:List AA).toArray}).get? s.heap.objs.size=some {cls:= .type "list",data:= .seq ([]:List AA).toArray}:=Aw _ rfl
 refine kdl_extend (R:=fun r s'=>match r with| .ok (.ret v)=>AG (model prog w) A (match v with| .ref a=>(do let o<-load a;match o.data with| .seq xs _=>pure xs.toList|_=>unsupported "internal:collect")|_=>unsupported "internal:collect") Q E s'| .ok _=>False| .error e=>E e s') (s:={s with heap:=s.heap.push {cls:= .type "list",data:= .seq ([]:List AA).toArray}}) (b4T lo) hh (hm.at fun o e=>Ae _ e) _ (Nat.ne_of_gt hlt) (Nat.ne_of_gt hlt) _ 0 hS (fun h' tk acc c kp hS' hacc=> ?_) hn
 show AG _ A (load s.heap.objs.size>>=_) _ _ _;refine AF (wpAny_load hS' ?_)
 have e:acc.toList=es.toList.map (·.key):=by
  apply List.ext_getElem?
  intro j
  rw [Aq,Array.getElem?_toList,Array.getElem?_toList]
  by_cases hj:j<es.size
  ·have h1:j<acc.size:=by rw [hacc.1];exact hj
   obtain⟨e,e1,e2⟩:=hacc.2 j acc[j] (by simp [h1])
   rw [e1,getElem?_pos acc j h1,e2];rfl
  ·rw [getElem?_neg es j hj,getElem?_neg acc j (by rw [hacc.1];exact hj)];rfl
 refine AQ ?_
 have:=hQ h' tk fun b o e=>kp b o (An (AY e)) (Ae _ e)
 rw [<-e] at this
 exact this
end
end PU
namespace TS
open PySem PySem.Spec PyProof.Rows L2 PU
section
variable {prog:AL}{w:AJ}{A:AO}{E:AA->AC->Prop}{s:AC}
variable {κ:SortKind}{S:Keyed->Prop}{R:Keyed->Keyed->Bool}
theorem b0Y{l:AB}{vs:List AA}{Q:AA->AC->Prop}(hz:vs.length<=16777216)
 (hcol:∀(Q':List AA->AC->Prop) (E':AA->AC->Prop),(∀h1 tk,(∀b o,s.heap.get? b=some o->h1.get? b=some o)->Q' vs {s with heap:=h1,toks:=tk})->AG (model prog w) A.in1 (collect (.ref l)) Q' E' s)
 (hC:2<=vs.length->∀h' tk,(∀b o,s.heap.get? b=some o->h'.get? b=some o)->
  (∀Q:SortKind->AC->Prop,Q κ {s with heap:=h',toks:=tk}->AG (model prog w) A.in1.in1 (keyKind' vs.toArray) Q (fun _ _=>False) {s with heap:=h',toks:=tk})/\Q8 prog w A.in1.in1 (fun _ _=>False) {s with heap:=h',toks:=tk} κ S R)
 (hS:∀v∈vs,S (tw v))
 (h:∀(h1 h':Heap) (tk:Tok) (e:Nat) (us:List AA),(∀b o',s.heap.get? b=some o'->h1.get? b=some o')->(∀b o',h1.get? b=some o'->h'.get? b=some o')->us.Perm vs->(us.Pairwise fun u v=>R (tw v) (tw u)=false)->
  h'.get? h1.objs.size=some (seqObj "list" us.toArray e)->Q (.ref h1.objs.size) {s with heap:=h',toks:=tk}):
 AG (model prog w) A (call (.builtin "sorted") [.ref l]) Q E s:=by
 refine Calls.call_function_entry kind_sorted plain_sorted entry_sorted (args_sorted1 _) ?_
 unfold Builtin.«sorted»
 refine AF (m:=checkCount "sorted" 1 1 _) (AQ ?_)
 refine AF (hcol _ _ fun h1 tk k1=> ?_)
 refine AF (wpAny_newList ?_ (by rw [sizeLine_eq];exact hz))
 have q1:(h1.push (seqObj "list" vs.toArray 0)).get? h1.objs.size=some (seqObj "list" vs.toArray 0):=Aw _ rfl
 show AG _ _ _ _ _ {s with heap:=h1.push (seqObj "list" vs.toArray 0),toks:=tk}
 refine AF (wpAny_holding (wpAny_call_entry slot_list_sort ⟨_,q1,rfl⟩ entry_list_sort (wpAny_mono (a0F (E:=fun _ _=>False) (κ:=κ) (S:=S) (R:=R) q1 hz (fun h2 h' kp=>hC h2 h' tk fun b o' e=>kp b o' ?_ ?_) hS fun out a1 a2=>⟨_,rfl, ?_⟩) (fun _ _ e=>e) fun _ _ e=>e.elim) (args_list_sort _)))
 ·exact An (AY (k1 b o' e))
 ·exact Ae _ (k1 b o' e)
 ·obtain⟨e,he⟩:=sortedHeap_at (out:=out) q1
  refine AQ ⟨_,rfl,h h1 _ tk e out.toList k1 (fun b o' hb1=> ?_) a1 a2 (by rw [Array.toArray_toList];exact he)⟩
  have hlt:=AY hb1
  rw [sortedHeap_old (An hlt) (by rw [size_push'];exact Nat.lt_succ_of_lt hlt),Heap.get?_push_ne _ _ _ (An hlt)]
  exact hb1
end
end TS
namespace PU
open PySem PySem.Spec PyProof.Rows L2 PySem.W
section
variable {prog:AL}{w:AJ}{A:AO}{E:AA->AC->Prop}{s:AC}
theorem a8b{l:AB}{vs:List AA}{Q:AA->AC->Prop}(hz:vs.length<=16777216)
 (hcol:∀(Q':List AA->AC->Prop) (E':AA->AC->Prop),(∀h1 tk,(∀b o,s.heap.get? b=some o->h1.get? b=some o)->Q' vs {s with heap:=h1,toks:=tk})->AG (model prog w) A.in1 (collect (.ref l)) Q' E' s)
 {ks:List (List f8)} (hp:Paired (G5 s.heap) vs ks) (ok:okK ks=true)
 (h:∀(h1 h':Heap) (tk:Tok) (e:Nat) (us:List AA),(∀b o',s.heap.get? b=some o'->h1.get? b=some o')->(∀b o',h1.get? b=some o'->h'.get? b=some o')->us.Perm vs->us.map (kOf s.heap)=O2 E2 ks->
  h'.get? h1.objs.size=some (seqObj "list" us.toArray e)->Q (.ref h1.objs.size) {s with heap:=h',toks:=tk}):
 AG (model prog w) A (call (.builtin "sorted") [.ref l]) Q E s:=by
 obtain⟨c,σk,hs⟩:∃c σk,∀k∈ks,k.map sgK=c::σk:=by
  cases ks with
  |nil=>exact⟨false,[],fun k hk=>nomatch hk⟩
  |cons k r=>
   unfold okK at ok
   rw [Bool.and_eq_true] at ok
   cases k with
   |nil=>exact nomatch ok.1
   |cons q k=>
    refine⟨sgK q,k.map sgK,fun j hj=> ?_⟩
    rcases Ag.mp hj with rfl|hj
    ·rfl
    ·have:=List.all_eq_true.mp ok.2 j hj
     simpa using this
 refine TS.b0Y (κ:=tuples' true) (S:=fun x=>∃k,G5 s.heap x.1 k/\k.map sgK=c::σk) (R:=fun x y=>E2 (kOf s.heap x.1) (kOf s.heap y.1)) hz hcol (fun h2 h' tk kp=>⟨fun Q' hq=> ?_,a8g (s:={s with heap:=h',toks:=tk}) kp⟩) (fun v hv=> ?_)
  fun h1 h' tk e us k1 k2 pm pw he=>h h1 h' tk e us k1 k2 pm ?_ he
 ·exact a5Z (s:={s with heap:=h',toks:=tk}) (Z2 kp hp) (by lia) hs hq
 ·obtain⟨k,hk,r⟩:=a01 hp v hv
  exact⟨k,r,hs k hk⟩
 ·symm
  refine a4U S2 (List.pairwise_map.mpr pw) ?_
  have:=pm.map (kOf s.heap)
  rw [N9 hp] at this
  exact this
end
def b7s:d7->Option (List (List f8×PV))
 | .ow (.dct kvs)=>some kvs
 | .bo (.dct kvs)=>some kvs
 |_=>none
def Y1(x:d7):Option d7:=(b7s x).bind fun kvs=>if okK (kvs.map (·.1))=true/\kvs.length<=16777216 then some (.own ((O2 E2 (kvs.map (·.1))).map kT)) else none
theorem a2u{K:AD}{F:Hp}:∀k:List f8,g9 K F (k.map kP) (k.map kV)
 |[]=>rfl
 | .inl i::k=>⟨_,_,rfl,rfl,a2u k⟩
 | .inr x::k=>⟨_,_,rfl,rfl,a2u k⟩
theorem a4C{α β γ:Type}{R:α->β->Prop}{T:γ->α->Prop}{f:β->γ}(h:∀a b,R a b->T (f b) a):∀{l:List α} {m:List β},Paired R l m->Paired T (m.map f) l
 |_,_,.nil=> .nil
 |_,_,.cons r t=> .cons (h _ _ r) (a4C h t)
theorem a4B{α β γ:Type}{T:α->γ->Prop}{f:β->γ}:∀{l:List α} {m:List β},Paired (fun a b=>T a (f b)) l m->Paired T l (m.map f)
 |_,_,.nil=> .nil
 |_,_,.cons r t=> .cons r (a4B t)
theorem P6{α β:Type}{R:α->β->Prop}:∀{l:List α} {m:List β},Paired R l m->∀y∈m,∃x∈l,R x y
 |_,_,.cons r t,y,h=>by
  rcases Ag.mp h with rfl|h
  ·exact⟨_,Al,r⟩
  ·obtain⟨x,hx,q⟩:=P6 t y h
   exact⟨x,Ai _ hx,q⟩
theorem a5P{K:AD}{F:Hp}:∀{kvs:List (List f8×PV)} {ys:List (List f8×V)},t4 K F kvs ys->ys.map (·.1)=kvs.map (·.1)
 |[],_,h=>by cases h;rfl
 |(k,p)::r,_,⟨v,t,e,_,h⟩=>by subst e;rw [AM,AM,a5P h]
section
variable {X:Cx}
open Classical in
theorem a7m(hc:X.calm=true):E3 X (.builtin "sorted") (rC1 X.K Y1):=by
 intro pins s σ H xs us Q I rv h
 obtain⟨F,x,rx,rz,rfl,s0,h1,h2,k⟩:=h
 unfold Y1 at h2
 obtain⟨kvs,e0,h2⟩:=bind_some h2
 split at h2
 ·rename_i c
  cases h2
  obtain⟨a,ys,rfl,fa,ha,rd⟩:∃a ys,x= .ref a/\F a=none/\H a=some (.dT ys)/\t4 X.K F kvs ys:=by
   cases rx with
   |val p=>cases e0
   |ow z=>cases z<;>cases e0;exact h1
   |bo z=>cases z<;>cases e0;exact h1
  obtain⟨u,rfl,ru⟩:=a25 rv
  cases ru
  obtain⟨hl,hsys,zs,pz,o,es,ep,ho,hex,hdat,hes,nd⟩:=(show v7 X.prog X.w H s.heap a (.dT ys) from I.hok a _ ha)
  have hkeys:es.toList.map (·.key)=zs.map fun z=>Value.ref z.2.1:=by rw [hes,Az];rfl
  have tup:∀y z,(y:List f8×V).1=(z:List f8×AB×AA).1/\H z.2.1=some (.tup (y.1.map kV))/\l6 y.2 z.2.2->G5 s.heap (.ref z.2.1) y.1:=by
   rintro y z ⟨_,hz,_⟩
   obtain⟨_,its,rv,o',ho',hc',n',hd'⟩:=(show v7 X.prog X.w H s.heap z.2.1 (.tup (y.1.map kV)) from I.hok _ _ hz)
   exact⟨z.2.1,o',its.toArray,n',rfl,ho',hc',hd',by simpa using rv⟩
  have hp:Paired (G5 s.heap) (zs.map fun z=>Value.ref z.2.1) (kvs.map (·.1)):=by
   rw [<-a5P rd]
   have:Paired (fun(v:AA) (y:List f8×V)=>G5 s.heap v y.1) (zs.map fun z=>Value.ref z.2.1) ys:=a4C (T:=fun(v:AA) (y:List f8×V)=>G5 s.heap v y.1) tup pz
   exact a4B this
  have hzl:(zs.map fun z=>Value.ref z.2.1).length=kvs.length:=by have:=congrArg List.length (N9 hp);simpa using this
  have hesz:es.size<=AK:=by
   have:=congrArg List.length hkeys
   rw [AU,hzl,Array.length_toList] at this
   rw [this,sizeLine_eq];exact c.2
  have hh:X.A.handled=none:=I.ok.hd hc
  refine a8b (by rw [hzl];exact c.2) (fun Q' E' hq=>a7k (A:=X.A.in1) hh hsys ⟨o,ho,hex,hdat⟩ hesz fun h' tk kp=>by rw [hkeys];exact hq h' tk kp) hp c.1 fun hp1 hp2 tk en us k1 k2 pm ek he=> ?_
  have I1:i2 X pins σ H {s with heap:=hp1,toks:=tk}:=I.kept (t':=tk) k1
  generalize hF':(fun b=>if ∃z∈zs,(z:List f8×AB×AA).2.1=b then H b else F b:Hp)=F'
  have f1:j5 F F':=fun b o e=>by
   rw [<-hF']
   show(if _ then H b else F b)=_
   split
   ·exact s0 _ _ e
   ·exact e
  have f2:j5 F' H:=fun b o e=>by
   rw [<-hF'] at e
   have e:(if _ then H b else F b)=some o:=e
   split at e
   ·exact e
   ·exact s0 _ _ e
  obtain⟨ys',v1,r1⟩:=a4K (X:=X) (F:=F') (h:=s.heap) (us:=us) fun u hu=>by
   obtain⟨z,hz,rfl⟩:=Aj.mp (pm.mem_iff.mp hu)
   obtain⟨y,_,hy⟩:=P6 pz z hz
   refine⟨y.1,.ref z.2.1,tup y z hy,rfl,z.2.1,y.1.map kV,rfl,.inl ?_,a2u _⟩
   rw [<-hF']
   show(if _ then H z.2.1 else F z.2.1)=_
   rw [if_pos ⟨z,hz,rfl⟩]
   exact hy.2.1
  rw [ek] at r1
  have hf:H hp1.objs.size=none:=I1.hok.fresh (AN _)
  have hyl:ys'.length<=AK:=by rw [v1.length,pm.length_eq,hzl,sizeLine_eq];exact c.2
  have up:=C6 (o:=HO.lst ys') hf
  refine⟨.ref hp1.objs.size,_,I1.laid (t':=tk) (h':=hp2) (o:= .lst ys') k2 (AN _) ⟨hyl,us,en,v1,he⟩,rfl,k _ F' _ ⟨⟨f1,up,f2.trans up,fun b o z y t=> ?_,fun b o u z=> ?_⟩,⟨_,ys',rfl,f2.free hf,i7,r1⟩,fun _ _ _ e=>by cases e;exact hf⟩⟩
  ·rw [<-hF']
   show(if _ then H b else F b)=none
   split
   ·rename_i hz
    obtain⟨q,hq,rfl⟩:=hz
    obtain⟨y',_,hy'⟩:=P6 pz q hq
    rw [hy'.2.1] at y
    cases y
    exact absurd rfl (t _)
   ·exact z
  ·rw [<-hF'] at z
   have z:(if _ then H b else F b)=some (.frz o u):=z
   split at z
   ·rename_i hz
    obtain⟨q,hq,rfl⟩:=hz
    obtain⟨y',_,hy'⟩:=P6 pz q hq
    rw [hy'.2.1] at z
    cases z
   ·exact z
 ·cases h2
end
open PySem PySem.Spec PyProof.Rows L2
section
variable {X:Cx}{pins:List (AB×Obj)}{σ:L2.St}{H:Hp}{s:AC}{a b:AB}{kvs:List (List f8×V)}{k:List f8}{v:V}{r:AA}{A:AO}{E:AA->AC->Prop}
theorem b3I{Q:Unit->AC->Prop}(hu:A.units+1<cLine)(I:i2 X pins σ H s)(e:H a=some (.dT kvs))(eb:H b=some (.tup (k.map kV)))(l:kvs.length<AK)(rv:l6 v r)(h:∀s',i2 X pins σ (upd H a (.dT (O0 kvs k v))) s'->Q () s'):
 AG (model X.prog X.w) A (dictSet a (.ref b) r) Q E s:=by
 obtain⟨z,hd,xs,rel,dd⟩:=b5q I.hok e
 have hz:xs.length<=AK:=by rw [<-Paired.length rel];exact z
 have hl:(O0 kvs k v).length<=AK:=by have:=P4 kvs k v;lia
 refine wpAny_dictSet_heap (hsz:=hz) (show(tupleKind (k4 X.prog X.w)).room A from(by first|exact hu|exact Nat.lt_of_succ_lt hu)) (a2k I.hok eb) dd fun h' dd' hs=>h _ ?_
 obtain⟨q,es,ep,hq,h2,h3,h4,_,h5⟩:=dd'
 refine a3e I (by rw [e];exact True.intro) hs ⟨q,hq⟩ ⟨hl,hd,_,(rel.put k eb rv).keeps fun c ys ec=>(by rw [g5 (a2U ec e (fun z=>nomatch z))];exact ec),q,es,ep,hq,h2,h3,h4,h5⟩
end
section
variable {X:Cx}
end
mutual
def nl:PV->Bool
 | .list _=>false
 | .tuple ps=>nlL ps
 | .dict ((.tuple _,_)::_)=>false
 |_=>true
def nlL:List PV->Bool
 |[]=>true
 |p::ps=>nl p && nlL ps
end
def nlD:List (List f8×PV)->Bool
 |[]=>true
 |(_,p)::r=>nl p && nlD r
def d7.noL:d7->Bool
 | .val p=>nl p
 | .ow (.lst ps)=>nlL ps
 | .ow (.dct kvs)=>nlD kvs
 | .ow (.txt kvs)=>nlD kvs
 | .bo _=>false
def drp(F:Hp)(a:AB):Hp:=fun b=>if b=a then none else F b
theorem a0W{F:Hp}{a b:AB}(h:b≠a):drp F a b=F b:=by unfold drp;rw [if_neg h]
theorem a3T{F:Hp}{a:AB}:drp F a a=none:=by unfold drp;rw [if_pos rfl]
theorem b6s{F F3:Hp}{a:AB}{o':HO}(h:∀b o u,F3 b=some (.frz o u)->upd F a o' b=some (.frz o u)):∀b o u,drp F3 a b=some (.frz o u)->F b=some (.frz o u):=fun b o u z=>by
 by_cases hb:b=a
 ·subst hb;rw [a3T] at z;cases z
 ·rw [a0W hb] at z
  have:=h _ _ _ z
  rw [g5 hb] at this;exact this
section
variable {K:AD}{F:Hp}{a:AB}{xs:List V}
mutual
theorem a6P(ha:F a=some (.lst xs)):∀(p:PV) {v:V},v6 K F p v->nl p=true->v6 K (drp F a) p v
 | .none,_,h,_=>h
 | .bool _,_,h,_=>h
 | .int _,_,h,_=>h
 | .str _,_,h,_=>h
 | .list _,_,_,n=>by simp [nl] at n
 | .tuple ps,_,⟨b,ys,e,q,r⟩,n=>⟨b,ys,e,(by
  rcases q with q|q
  ·exact .inl (by rw [a0W (a2U q ha (fun z=>nomatch z))];exact q)
  ·exact .inr q),a4I ha ps r (by simpa [nl] using n)⟩
 | .dict kvs,_,h,n=>by
   rcases h with⟨b,ys,q,h,hr⟩|⟨b,ys,q,h,hr⟩|⟨x,t,e,h|⟨z,b,C,φ,q,h,r⟩⟩
   ·cases kvs with
    |nil=>
     have e0:ys=[]:=List.map_eq_nil_iff.mp hr
     subst e0
     exact .inl ⟨b,[],q,by rw [a0W (a2U h ha (fun z=>nomatch z))];exact h,rfl⟩
    |cons f fs=>
     exfalso
     obtain⟨k,p⟩:=f
     obtain⟨kk,w,t,e,z,_⟩:=hr
     subst z
     simp [nl] at n
   ·exfalso
    cases kvs with
    |nil=>cases hr
    |cons f fs=>
     obtain⟨k,p⟩:=f
     obtain⟨kk,w,t,e,z,_⟩:=hr
     subst z
     simp [nl] at n
   ·exact .inr (.inr ⟨x,t,e,.inl h⟩)
   ·exact .inr (.inr ⟨x,t,e,.inr ⟨z,b,C,φ,q,by rw [a0W (a2U h ha (fun z=>nomatch z))];exact h,r⟩⟩)
theorem a4I(ha:F a=some (.lst xs)):∀(ps:List PV) {vs:List V},g9 K F ps vs->nlL ps=true->g9 K (drp F a) ps vs
 |[],_,h,_=>h
 |p::ps,_,⟨v,r,e,q,t⟩,n=>by
  simp only [nlL,Bool.and_eq_true] at n
  exact⟨v,r,e,a6P ha p q n.1,a4I ha ps t n.2⟩
end
theorem a4H(ha:F a=some (.lst xs)):∀(kvs:List (List f8×PV)) {ys:List (List f8×V)},t4 K F kvs ys->nlD kvs=true->t4 K (drp F a) kvs ys
 |[],_,h,_=>h
 |(k,p)::r,_,⟨v,t,e,q,h⟩,n=>by
  simp only [nlD,Bool.and_eq_true] at n
  exact⟨v,t,e,a6P ha p q n.1,a4H ha r h n.2⟩
theorem a3S{b:AB}(h:F b=none):drp F a b=none:=by
 unfold drp
 split
 ·rfl
 ·exact h
theorem b2Y{H:Hp}{v:V}(ha:F a=some (.lst xs)):∀{r:d7},P9 K F H v r->r.noL=true->P9 K (drp F a) H v r
 | .val p,h,n=>a6P ha p h n
 | .ow (.lst ps),⟨b,ys,e,f,q,r⟩,n=>⟨b,ys,e,a3S f,q,a4I ha ps r n⟩
 | .ow (.dct kvs),⟨b,ys,e,f,q,r⟩,n=>⟨b,ys,e,a3S f,q,a4H ha kvs r n⟩
 | .ow (.txt kvs),⟨b,ys,e,f,q,r⟩,n=>⟨b,ys,e,a3S f,q,a4H ha kvs r n⟩
 | .bo _,_,n=>nomatch n
end
def a2p(g:List PV->Option d7)(i:Nat)(m:M):M:=fun ρ=>((m ρ).bind d7.toVal).bind fun p=>match ρ[i]? with
 |some (some (.ow (.lst ps)))=>(g [p,.list ps]).bind fun r=>if r.noL=true then some r else none
 |_=>none
section
variable {X:Cx}
theorem a9B(i:Nat){k k':Nat}{pa pb:Str}{g:List PV->Option d7}{x y:Str}{p py pos:Pos}{e:AE}{m:M}
 (d:p9 X.prog X.w X.K X.mg X.base x [pa,pb] k g) (hr:E4 k' X.A) (hk:k<=k') (hg:Gl X x) (ha:EE X e m) (hy:PE X (.Name y py) (Q6 i))
 (hdb:(x==("__debug__":Str))=false:=by decide) (he:AX [e,.Name y py] X.env=(false,eval e X.env)::AX [.Name y py] X.env:=by rfl) (he2:AX [.Name y py] X.env=(false,eval (.Name y py) X.env)::AX [] X.env:=by rfl)
 (hpl:(backTo pos (AX [.Name y py] X.env)).any (·.1)=false:=by rfl):
 EE X (.Call (.Name x p) [e,.Name y py] [] pos) (a2p g i m):=by
 obtain⟨f,fd,G,h1,h2,h3⟩:=d
 refine u8 (a6M G (hr.mono hk) hg h1 h2 h3 .nil b2H (a0p ha (a0p hy a4A he2) he) hdb he hpl) fun σ H Q ⟨F,ρ,r,en,hm,kq⟩=> ?_
 obtain⟨q,e1,hm⟩:=bind_some hm
 obtain⟨rq,e2,e3⟩:=bind_some e1
 split at hm
 ·rename_i ps eo
  obtain⟨r',e4,hm⟩:=bind_some hm
  split at hm
  ·rename_i c
   cases hm
   refine⟨F,ρ,rq,en,e2,fun v F1 H1 o1=> ?_⟩
   obtain⟨F2,o2⟩:=o1.toVal e3
   have en2:=en.ext o2.x
   obtain⟨w,hw,a,xs,rfl,fa,ha',rl⟩:=en2.at_ i _ eo
   refine⟨.ref a,hw, ?_⟩
   show spP X.K 2 g ([v,.ref a]++[]) H1 Q E0
   rw [Am]
   have up:j5 F2 (upd F2 a (.lst xs)):=C6 fa
   refine⟨upd F2 a (.lst xs),[q,.list ps],_,fun b o z=> ?_,⟨v,[.ref a],rfl,v6.mono up _ o2.rep,.ref a,[],rfl,⟨a,xs,rfl,M2.of i7,g9.mono up _ rl⟩,rfl⟩,rfl,e4,fun u F3 H3 o3=>kq u (drp F3 a) H3 (p8.trans o2.x ⟨⟨fun b o z=> ?_,o3.x.h,fun b o z=> ?_,fun b o z y t=> ?_,b6s o3.x.nf⟩, ?_,o3.fr⟩)⟩
   ·by_cases hb:b=a
    ·subst hb;rw [i7] at z;cases z;exact ha'
    ·rw [g5 hb] at z;exact o2.x.fh _ _ z
   ·have hb:b≠a:=g6 z fa
    rw [a0W hb];exact o3.x.f _ _ (up _ _ z)
   ·by_cases hb:b=a
    ·subst hb;rw [a3T] at z;cases z
    ·rw [a0W hb] at z;exact o3.x.fh _ _ z
   ·by_cases hb:b=a
    ·subst hb;exact a3T
    ·rw [a0W hb];exact o3.x.nw b o (by rw [g5 hb];exact z) y t
   ·exact b2Y (o3.x.f _ _ i7) o3.rep c
  ·cases hm
 ·cases hm
end
def a8P(k:List f8):Bool:=(k.length==3 && k.any Sum.isLeft)
def a5Y(o:Obj):Bool:=match o with
 |⟨.type "tuple",_,.seq its _,_⟩=>(its.size==3 && its.toList.any b15)
 |_=>false
def a0J(K:AD):Bool:=K.all fun p=> !a5Y p.2
theorem b0I{K:AD}(nk:a0J K=true){a:AB}{o:Obj}{its:Array AA}{n:Nat}{k:List f8}(e:K.lookup a=some o)(hc:o.cls= .type "tuple")(hd:o.data= .seq its n)(r:i4 (k.map kV) its.toList)(hk:a8P k=true):False:=by
 obtain⟨b,hb⟩:=a4e e
 have h:=List.all_eq_true.mp nk _ hb
 obtain⟨cls,d,data,sl⟩:=o
 simp only at hc hd
 subst hc hd
 unfold a8P at hk
 have h2:=r.length
 have h2:k.length=its.size:=by simpa using h2
 have h3:a5Y ⟨.type "tuple",d,.seq its n,sl⟩=true:=by
  rw [Bool.and_eq_true] at hk
  show(its.size==3 && its.toList.any b15)=true
  rw [a9t r hk.2,<-h2,hk.1];rfl
 rw [h3] at h
 cases h
def W0(r:d7):Option (List f8):=match r with
 | .val (.tuple ps)=>(keysOf ps).bind fun k=>if a8P k=true then some k else none
 |_=>none
theorem a0l{K:AD}{F H:Hp}{r:d7}{k:List f8}{v:V}(nk:a0J K=true)(e:W0 r=some k)(h:P9 K F H v r):∃b,v= .ref b/\F b=some (.tup (k.map kV)):=by
 unfold W0 at e
 split at e
 ·obtain⟨k',e1,e⟩:=bind_some e
  split at e
  ·rename_i hk
   cases e
   obtain⟨b,xs,rfl,hq,rl⟩:=h
   have ex:=A7 e1 rl
   subst ex
   rcases hq with hq|⟨o,its,n,h1,h2,h3,h4,h5⟩
   ·exact⟨b,rfl,hq⟩
   ·exact(b0I nk h1 h2 h3 h5 hk).elim
  ·cases e
 ·cases e
section
variable {X:Cx}
def a1H(i:Nat)(mk mv:M):MS:=fun ρ=>((mv ρ).bind d7.toVal).bind fun p=>((mk ρ).bind W0).bind (a0C i ρ p)
theorem a19(i:Nat){x:Str}{p tp2 pos:Pos}{ek e:AE}{mk mv:M}(hu:X.A.units+64<cLine)(nk:a0J X.K=true)(hx:PE X (.Name x p) (Q6 i))(hi:EE X ek mk)(he:EE X e mv)
 (hs:swapsWith e (some (.Subscript (.Name x p) ek tp2)) pos.line X.env=pure false:=by rfl):ES X (.Assign [.Subscript (.Name x p) ek tp2] e pos) (a1H i mk mv):=
 B1 (a3n (by lia) hx hi he hs) fun D σ H ⟨F0,H0,F,ρ,fl,so,e,fin⟩=>by
  obtain⟨q,e1,e⟩:=bind_some e
  obtain⟨r,e2,e3⟩:=bind_some e1
  obtain⟨k,e4,e⟩:=bind_some e
  obtain⟨rk,e4,e5⟩:=bind_some e4
  refine⟨F,ρ,r,so.e,e2,fun v F1 H1 o=> ?_⟩
  obtain⟨F2,o2⟩:=o.toVal e3
  have so2:=so.ext o2.x
  unfold a0C at e
  split at e
  ·rename_i kvs eo
   split at e
   ·rename_i hl
    cases e
    obtain⟨w,hw1,a,xs,rfl,fa,ha',rl⟩:=so2.e.at_ i _ eo
    refine⟨.ref a,hw1,F2,ρ,rk,so2.e,e4,fun y F3 H3 o3=> ?_⟩
    obtain⟨b,rfl,hb⟩:=a0l nk e5 o3.rep
    have ha3:=o3.x.h _ _ ha'
    have so3:=so2.ext o3.x
    refine⟨a,_,rfl,a44.t (k:=k) ha3 (o3.x.fh _ _ hb) (by rw [rl.length];exact hl), ?_⟩
    exact fin σ _ _ (o2.x.f.trans o3.x.f) (so3.putD eo hw1 ((t4.mono o3.x.f _ rl).put (v6.mono o3.x.f _ o2.rep)))
   ·cases e
  ·cases e
def a3l(i:Nat)(mk:M):M:=fun ρ=>((mk ρ).bind W0).bind (a0B i ρ)
theorem a5r(i:Nat){x:Str}{p pos:Pos}{ek:AE}{mk:M}(hu:X.A.units+64<cLine)(nk:a0J X.K=true)(hx:PE X (.Name x p) (Q6 i))(hi:EE X ek mk)(hs:a68 ek:=by intro _ _;rfl):EE X (.Subscript (.Name x p) ek pos) (a3l i mk):=
 u8 (a3m (by lia) hx hi hs) fun σ H Q ⟨F,ρ,r,en,e,k⟩=>by
  obtain⟨kk,e4,e⟩:=bind_some e
  obtain⟨rk,e4,e5⟩:=bind_some e4
  unfold a0B at e
  split at e
  ·rename_i kvs eo
   cases hv:m6 kvs kk with
   |none=>rw [hv] at e;cases e
   |some q=>
    rw [hv] at e;cases e
    obtain⟨w,hw1,a,xs,rfl,fa,ha',rl⟩:=en.at_ i _ eo
    obtain⟨y,hy,ry⟩:=(rl.val (k:=kk)).1 q hv
    refine⟨.ref a,hw1,F,ρ,rk,en,e4,fun z F3 H3 o3=> ?_⟩
    obtain⟨b,rfl,hb⟩:=a0l nk e5 o3.rep
    exact⟨a,y,rfl,by rw [<-hy];exact R5.t (o3.x.h _ _ ha') (o3.x.fh _ _ hb),k _ _ _ (p8.val o3.x (v6.mono o3.x.f _ ry))⟩
  ·cases e
def a1G(neg:Bool)(i:Nat)(mk:M):M:=fun ρ=>((mk ρ).bind W0).bind (a6g neg i ρ)
theorem a7q{i:Nat}{mk:M}{neg:Bool}{σ:L2.St}{H:Hp}{Q:VK}(nk:a0J X.K=true)(h:tM X.K (a1G neg i mk) σ H Q):
 tM X.K mk σ H fun y H1=>Q6 i σ H1 fun x H2=>∃a o,x= .ref a/\R5 H2 a y o/\Q (.bl (if neg then !o.isSome else o.isSome)) H2:=by
 obtain⟨F,ρ,r,en,e,k⟩:=h
 obtain⟨kk,e4,e⟩:=bind_some e
 obtain⟨rk,e4,e5⟩:=bind_some e4
 unfold a6g at e
 split at e
 ·rename_i kvs eo
  cases e
  refine⟨F,ρ,rk,en,e4,fun y F3 H3 o3=> ?_⟩
  obtain⟨b,rfl,hb⟩:=a0l nk e5 o3.rep
  obtain⟨w,hw1,a,xs,rfl,fa,ha',rl⟩:=(en.ext o3.x).at_ i _ eo
  refine⟨.ref a,hw1,a,O4 xs kk,rfl,R5.t ha' (o3.x.fh _ _ hb), ?_⟩
  rw [rl.isSome]
  exact k _ _ _ (p8.val o3.x rfl)
 ·cases e
theorem b3L(i:Nat){x:Str}{p pos:Pos}{ek:AE}{mk:M}(hu:X.A.units+64<cLine)(nk:a0J X.K=true)(hx:PE X (.Name x p) (Q6 i))(hi:EE X ek mk)(hm:behindInMarks .In (.Name x p)=false):EE X (.Compare ek [.In] [.Name x p] pos) (a1G false i mk):=
 u8 (b6G (b6E (by lia) hi hx) hm) fun σ H Q h=>a7q nk h
theorem T9(i:Nat){x:Str}{p pos:Pos}{ek:AE}{mk:M}(hu:X.A.units+64<cLine)(nk:a0J X.K=true)(hx:PE X (.Name x p) (Q6 i))(hi:EE X ek mk)(hm:behindInMarks .NotIn (.Name x p)=false):ET X (.Compare ek [.NotIn] [.Name x p] pos) (S8 (a1G true i mk)):=
 a6O (a9e (a2s (by lia) hi hx) hm) fun σ H Q h=>b5H (fun _ _ _ h=>a7q nk h) h
end
def a4i(mk mv:M):M:=fun ρ=>((mk ρ).bind W0).bind fun k=>((mv ρ).bind d7.toVal).bind fun p=>some (.dct [(k,p)])
section
variable {X:Cx}
theorem a3U{ek ev:AE}{mk mv:M}{pos:Pos}(hu:X.A.units+64<cLine)(nk:a0J X.K=true)(hk:EE X ek mk)(hv:EE X ev mv):EE X (.Dict [some ek] [ev] pos) (a4i mk mv):=by
 intro pins s σ H Q I h
 obtain⟨F,ρ,r,en,e,kq⟩:=h
 obtain⟨k,e1,e⟩:=bind_some e
 obtain⟨rk,e2,e3⟩:=bind_some e1
 obtain⟨p,e4,e⟩:=bind_some e
 obtain⟨rv,e5,e6⟩:=bind_some e4
 cases e
 have hn:=I.hok.fresh (AN s.heap.objs.size)
 have I1:=I.laid (a:=s.heap.objs.size) (o:= .dT []) (h':=s.heap.push {cls:= .type "dict",data:= .dict #[]}) (t':=s.toks) (fun _ _ q=>Ae _ q) (AN _) (a7t s.heap I.big)
 have x0:K0 F H F (upd H s.heap.objs.size (.dT [])):=K0.layH en.fh hn
 refine wpAny_Dict_any rfl rfl (by simp) (by show 1<=15;decide) (B8 (a73 hk hv a9W pins _ σ _ (fun ps H2=>∃y b F2,ps=[(V.ref b,y)]/\F2 b=some (.tup (k.map kV))/\K0 F (upd H s.heap.objs.size (.dT [])) F2 H2/\v6 X.K F2 p y) I1 ?_) fun vs s2 hq=> ?_)
 ·refine⟨F,ρ,rk,en.ext x0,e2,fun x F1 H1 o1=>⟨F1,ρ,rv,(en.ext x0).ext o1.x,e5,fun y F2 H2 o2=> ?_⟩⟩
  obtain⟨b,rfl,hb⟩:=a0l nk e3 o1.rep
  obtain⟨F3,o3⟩:=o2.toVal e6
  exact⟨y,b,F3,rfl,o3.x.f _ _ hb,(o1.x).trans o3.x,o3.rep⟩
 ·obtain⟨ps,H2,I2,rel,y,b,F2,hps,hb,x2,rp⟩:=hq
  subst hps
  cases rel with
  | @cons pq uv _ _ r1 r2=>
    cases r2
    obtain⟨u,w⟩:=uv
    obtain⟨ru,rw'⟩:=r1
    cases(show u=Value.ref b from ru)
    have hp2:H2 s.heap.objs.size=some (.dT []):=x2.h _ _ i7
    have fp:F2 s.heap.objs.size=none:=x2.nw _ _ (en.fh.free hn) i7 (fun _ h=>nomatch h)
    unfold storeAll
    rw [List.forIn_cons]
    refine AF (AF (b3I (by lia) I2 hp2 (x2.fh _ _ hb) (by rw [sizeLine_eq];decide) rw' fun s3 I3=>AQ ?_))
    dsimp only
    rw [List.forIn_nil]
    refine AQ ⟨.ref s.heap.objs.size,_,I3,rfl,kq _ F2 _ ⟨⟨x2.f,fun c o z=> ?_,fun c o z=> ?_,fun c o z y' t=> ?_,x2.nf⟩,⟨_,_,rfl,fp,i7,y,[],rfl,rp,rfl⟩,fun _ _ _ e=>by cases e;exact hn⟩⟩
    ·rw [g5 (g6 z hn)];exact x2.h _ _ (by rw [g5 (g6 z hn)];exact z)
    ·rw [g5 (g6 z fp)];exact x2.fh _ _ z
    ·exact x2.nw c o z (by rw [g5 (g6 y' hn)];exact y') t
end
theorem Y5(i:Nat)(mk mv:M)(ρ:a8):a1H i mk mv ρ=((mv ρ).bind d7.toVal).bind fun p=>((mk ρ).bind W0).bind (a0C i ρ p):=Eq.trans rfl rfl
theorem a2R(i:Nat)(mk:M)(ρ:a8):a3l i mk ρ=((mk ρ).bind W0).bind (a0B i ρ):=Eq.trans rfl rfl
theorem y6(neg:Bool)(i:Nat)(mk:M)(ρ:a8):a1G neg i mk ρ=((mk ρ).bind W0).bind (a6g neg i ρ):=Eq.trans rfl rfl
theorem a00(mk mv:M)(ρ:a8):a4i mk mv ρ=((mk ρ).bind W0).bind fun k=>((mv ρ).bind d7.toVal).bind fun p=>some (.dct [(k,p)]):=Eq.trans rfl rfl
theorem a6s(x:Str)(i j:Int):W0 (.val (.tuple [.str x,.int i,.int j]))=some [.inr x,.inl i,.inl j]:=Eq.trans rfl rfl
section
variable {X:Cx}{tg:AE}
end
section
variable {prog:AL}{w:AJ}{A:AO}{E:AA->AC->Prop}{s:AC}
end
theorem b44{K:AD}{H:Hp}{a D:AB}{xs:List V}{kvs kvs':List (List f8×V)}(e:H D=some (.dT kvs))(h:V5 K H a xs):V5 K (upd H D (.dT kvs')) a xs:=by
 rcases h with(h|⟨o,h⟩)|h
 ·exact .inl (.inl (by rw [g5 (a2U h e (fun z=>nomatch z))];exact h))
 ·exact .inl (.inr ⟨o,by rw [g5 (a2U h e (fun z=>nomatch z))];exact h⟩)
 ·exact .inr h
def b5P(K:AD)(H:Hp)(p:List f8×V)(x:V):Prop:=∃a b,x= .ref a/\V5 K H a [.ref b,p.2]/\H b=some (.tup (p.1.map kV))
theorem b5P.upd{K:AD}{H:Hp}{D:AB}{kvs kvs':List (List f8×V)}(e:H D=some (.dT kvs)){p:List f8×V}{x:V}(h:b5P K H p x):b5P K (upd H D (.dT kvs')) p x:=
 let ⟨a,b,h1,h2,h3⟩:=h
 ⟨a,b,h1,b44 e h2,by rw [g5 (a2U h3 e (fun z=>nomatch z))];exact h3⟩
section
variable {X:Cx}{pins:List (AB×Obj)}{σ:L2.St}{A:AO}{R:Result->AC->Prop}
end
section
variable {X:Cx}
end
section
variable {X:Cx}
end
section
variable {X:Cx}
end
open Builtin Builtin.Str
section
variable {prog:AL}{w:AJ}{A:AO}{E:AA->AC->Prop}{s:AC}{x y:Str}{t u:Tok}{Q:AA->AC->Prop}
end
section
variable {X:Cx}
end
structure Chg(fs ex:List AB)(h h':Heap):Prop where
 keep:∀b o,h.get? b=some o->b∉fs->b∉ex->h'.get? b=some o
 slot:∀b o,h.get? b=some o->b∈fs->b∉ex->∃sl,h'.get? b=some {o with slots:=sl}
 size:h.objs.size<=h'.objs.size
section
variable {M:Model}{A:AO}{E:AA->AC->Prop}{s:AC}{base:Heap}{env:Env}{outer:List Env}{L e C:AB}
theorem Chg.trans{fs ex ex':List AB}{h h1 h2:Heap}(x:Chg fs ex h h1)(y:Chg fs ex' h1 h2):Chg fs (ex++ex') h h2 where
 keep:=fun b o e hf hx=>y.keep b o (x.keep b o e hf fun z=>hx (Ay _ z)) hf fun z=>hx (Av _ z)
 slot:=fun b o e hf hx=>by
  obtain⟨sl,e1⟩:=x.slot b o e hf fun z=>hx (Ay _ z)
  obtain⟨sl2,e2⟩:=y.slot b {o with slots:=sl} e1 hf fun z=>hx (Av _ z)
  exact⟨sl2,e2⟩
 size:=Nat.le_trans x.size y.size
theorem Chg.more{fs fs' ex ex':List AB}{h h':Heap}(x:Chg fs ex h h')(hf:∀b∈fs,b∈fs')(he:∀b∈ex,b∈ex'):Chg fs' ex' h h' where
 keep:=fun b o e h1 h2=>x.keep b o e (fun z=>h1 (hf b z)) fun z=>h2 (he b z)
 slot:=fun b o e h1 h2=>by
  by_cases hb:b∈fs
  ·exact x.slot b o e hb fun z=>h2 (he b z)
  ·exact⟨o.slots,x.keep b o e hb fun z=>h2 (he b z)⟩
 size:=x.size
theorem Chg.funs{fs ex:List AB}{h h':Heap}{l:List Env}(x:Chg fs ex h h')(hl:h.FunFrames base l)(hx:∀b∈ex,∀o,h.get? b=some o->∃vs,o.data= .fields vs):h'.FunFrames base l:=
 hl.of_keeps fun b o hb hnf=>by
  have hbx:b∉ex:=fun z=>by
   obtain⟨vs,hd⟩:=hx b z o hb
   exact hnf vs hd
  by_cases hbf:b∈fs
  ·obtain⟨sl,e⟩:=x.slot b o hb hbf hbx
   exact⟨_,e,rfl⟩
  ·exact⟨o,x.keep b o hb hbf hbx,rfl⟩
end
section
variable {P:AL}{w:AJ}{K:AD}{mg:Str->Option AA}{base:Heap}{N:List Str}{qual:Str}{scope:Scope}{f:AB}{cd:AA}{A:AO}{outer:List Env}{s:AC}{H:Hp}{E:XK}
end
section
variable {X:Cx}{x:Str}{C:AB}{np cpos pos:Pos}{e₀:AE}{B2:List AE}{t:TA}{W:AB->Hp->Prop}
end
theorem Chg.any{fs ex:List AB}{h h':Heap}(c:Chg fs ex h h'){b:AB}{o:Obj}(e:h.get? b=some o)(hb:b∉ex):∃sl,h'.get? b=some {o with slots:=sl}:=by
 by_cases hf:b∈fs
 ·exact c.slot b o e hf hb
 ·exact⟨o.slots,c.keep b o e hf hb⟩
section
variable {X:Cx}{pins:List (AB×Obj)}{σ:L2.St}{H:Hp}{s:AC}
end
inductive FX where
 |fl (f:Fl)|rz (c:Str) (ρ:a8)
def b5N(K:AD)(mg:Str->Option AA)(E:L2.St->XK)(F0 H0 F:Hp)(σ0:L2.St)(D:L4):FX->Prop
 | .fl f=>Fin K F0 H0 F D f
 | .rz c ρ=>∃C,mg c=some (.ref C)/\∀σ a F' H',j5 F F'->R7 K F0 H0 F' H' σ ρ->H' a=none->E σ (.ref a) (some C) H'
theorem b5N.later{K:AD}{mg:Str->Option AA}{E:L2.St->XK}{F0 H0 F F1:Hp}{σ0 σ1:L2.St}{D:L4}(s:j5 F F1):∀{fx:FX},b5N K mg E F0 H0 F σ0 D fx->b5N K mg E F0 H0 F1 σ1 D fx
 | .fl _,h=>Fin.later s h
 | .rz _ _,⟨C,h1,h2⟩=>⟨C,h1,fun σ a F' H' s' so hn=>h2 σ a F' H' (s.trans s') so hn⟩
section
variable {X:Cx}{E:L2.St->XK}
end
section
variable {X:Cx}{E:L2.St->XK}{CX:CXT}
end
def left(g:List PV->Option (d7 ⊕ Str))(ps:List PV):Option d7:=(g ps).bind fun r=>match r with
 | .inl r=>some r
 | .inr _=>none
section
variable {X:Cx}
end
section
variable {X:Cx}
theorem apart{pins:List (AB×Obj)}{σ:L2.St}{H:Hp}{s:AC}{b:AB}(I:i2 X pins σ H s)(hx0:X.ex=[])(h:s.heap.get? b=none):X.s₀.heap.get? b=none/\b≠X.env.locals/\(∀x z,X.env.cells.lookup x=some z->z≠b)/\∀p∈X.pn++pins,p.1≠b:=by
 refine⟨?_,fun e=> ?_,fun x z hz e=> ?_,fun p hp e=> ?_⟩
 ·cases h0:X.s₀.heap.get? b with
  |none=>rfl
  |some o=>
   obtain⟨o',e⟩:=I.base.there b o h0 (fun z=>by rw [hx0] at z;cases z)
   rw [h] at e;cases e
 ·obtain⟨m,⟨o,_,_,ho,_⟩,_⟩:=I.loc
  rw [<-e,h] at ho;cases ho
 ·obtain⟨v,o,ho,_⟩:=I.cell x z hz
  rw [e,h] at ho;cases ho
 ·have:=(I.pin p hp).1
  rw [e,h] at this;cases this
end
section
variable {X:Cx}
end
section
variable {X:Cx}
end
section
variable {X:Cx}{pins:List (AB×Obj)}{σ:L2.St}{H:Hp}{s:AC}
end
def L4.drop(D:L4)(i:Nat):L4:=⟨fun σ H=>D.nx (σ.set i none) H,D.rt,fun σ H=>D.bk (σ.set i none) H,fun σ H=>D.ct (σ.set i none) H⟩
section
variable {X:Cx}
end
def b53(i:Nat):Fl->Fl
 | .nx ρ=> .nx (ρ.set i none)
 | .rt r=> .rt r
 | .bk ρ=> .bk (ρ.set i none)
 | .ct ρ=> .ct (ρ.set i none)
theorem u5{α:Type}{l:List (Option α)}{i j:Nat}{r:α}(h:(l.set i none)[j]?=some (some r)):i≠j/\l[j]?=some (some r):=by
 rw [List.getElem?_set] at h
 by_cases hij:i=j
 ·rw [if_pos hij] at h
  split at h
  ·cases h
  ·cases h
 ·rw [if_neg hij] at h;exact⟨hij,h⟩
theorem R7.drop{K:AD}{F0 H0 F H:Hp}{σ:L2.St}{ρ:a8}(s:R7 K F0 H0 F H σ ρ)(i:Nat):R7 K F0 H0 F H (σ.set i none) (ρ.set i none):=by
 refine⟨s.x,⟨s.e.fh,by simp [s.e.len],fun j q e=> ?_,fun j ps e=> ?_,fun j k ps qs a hjk e1 e2 e3 e4=> ?_⟩,fun j ps a e1 e2=> ?_⟩
 ·obtain⟨n,e⟩:=u5 e
  rw [List.getElem?_set_ne n]
  exact s.e.at_ j q e
 ·exact s.e.nb j ps (u5 e).2
 ·exact s.e.ap j k ps qs a hjk (u5 e1).2 (u5 e2).2 (u5 e3).2 (u5 e4).2
 ·exact s.nw j ps a (u5 e1).2 (u5 e2).2
theorem Fin.drop{K:AD}{F0 H0 F:Hp}{D:L4}{i:Nat}:∀{fl:Fl},Fin K F0 H0 F D (b53 i fl)->Fin K F0 H0 F (L4.drop D i) fl
 | .nx _,h=>fun σ' F' H' s' so=>h _ F' H' s' (so.drop i)
 | .rt _,h=>h
 | .bk _,h=>fun σ' F' H' s' so=>h _ F' H' s' (so.drop i)
 | .ct _,h=>fun σ' F' H' s' so=>h _ F' H' s' (so.drop i)
section
variable {X:Cx}
end
section
variable {X:Cx}
end
section
variable {X:Cx}
end
section
variable {X:Cx}
end
section
variable {X:Cx}
end
section
variable {X:Cx}
end
section
variable {X:Cx}
end
section
variable {X:Cx}
end
section
variable {X:Cx}
end
section
variable {X:Cx}
end
section
variable {X:Cx}
def b5M(Φ:L2.St->Hp->Prop)(K:AD)(F0 H0 F:Hp)(D:L4):Fl->Prop
 | .nx ρ=>∀σ' F' H',j5 F F'->R7 K F0 H0 F' H' σ' ρ->Φ σ' H'->D.nx σ' H'
 | .rt r=>∀v F' H',p8 K F0 H0 F' H' v r->D.rt v H'
 | .bk ρ=>∀σ' F' H',j5 F F'->R7 K F0 H0 F' H' σ' ρ->Φ σ' H'->D.bk σ' H'
 | .ct ρ=>∀σ' F' H',j5 F F'->R7 K F0 H0 F' H' σ' ρ->Φ σ' H'->D.ct σ' H'
theorem b5M.later{Φ:L2.St->Hp->Prop}{K:AD}{F0 H0 F F1:Hp}{D:L4}(s:j5 F F1):∀{fl:Fl},b5M Φ K F0 H0 F D fl->b5M Φ K F0 H0 F1 D fl
 | .nx _,h=>fun σ' F' H' s' so=>h σ' F' H' (s.trans s') so
 | .rt _,h=>h
 | .bk _,h=>fun σ' F' H' s' so=>h σ' F' H' (s.trans s') so
 | .ct _,h=>fun σ' F' H' s' so=>h σ' F' H' (s.trans s') so
variable {Φ:L2.St->Hp->Prop}{I:List Nat}
end
mutual
def b8b:PV->Bool
 | .none=>true
 | .bool _=>true
 | .int _=>true
 | .str _=>true
 | .tuple ps=>b5r ps
 |_=>false
def b5r:List PV->Bool
 |[]=>true
 |p::ps=>b8b p && b5r ps
end
def keep(A:List Nat)(ρ:a8):a8:=ρ.zipIdx.map fun p=>if p.2∈A then p.1 else none
def b4r(K:AD):Bool:=K.all fun p=>match p.2.cls with
 | .type x=> !(x=="list")
 |_=>true
theorem b2w{K:AD}(nk:b4r K=true){a:AB}{o:Obj}(e:K.lookup a=some o)(hc:o.cls= .type "list"):False:=by
 obtain⟨b,hb⟩:=a4e e
 have h:=List.all_eq_true.mp nk _ hb
 simp only [hc] at h
 simp at h
def Df0(K:AD)(x:Str)(st:Stmt):Prop:=∃f fd,PySem.W.nsIn K mainGlobals x=some (some (.ref f))/\Fun K x x st f fd
def Df(K:AD)(mg:Str->Option AA)(x:Str)(st:Stmt):Prop:=∃f fd,Fun K x x st f fd/\mg x=some (.ref f)
theorem b7t{K:AD}{x:Str}{st:Stmt}{f:AB}{oc:AA}{od an:Option AB}{osl:Array (Option AA)}{kV doc pm cdv ct:AA}(a:PySem.W.nsIn K mainGlobals x=some (some (.ref f)))
 (l:K.lookup f=some ⟨oc,od,.func (PySem.W.fnOf x x (O9 st) (B3 st) (d9 st) .none kV doc pm an cdv ct),osl⟩) (c:PySem.W.codeIn K cdv x=true) (k:PySem.W.keepIn K (.ref f)=true):Df0 K x st:=⟨_,_,a,b56 l c k⟩
theorem Df0.to{K:AD}{h:Heap}{mg:Str->Option AA}{x:Str}{st:Stmt}(d:Df0 K x st)(X:K.In h)(G:h.Ns mainGlobals mg):Df K mg x st:=let ⟨f,fd,a,F⟩:=d;⟨f,fd,F,PySem.W.mg_of X G a⟩
theorem mkS{N P:List Str}{sc:Scope}(h1:sc.kind= .function:=by rfl)(h2:sc.isCoroutine=false:=by rfl)(h3:sc.isGenerator=false:=by rfl)(h4:N.Nodup:=by decide+kernel)(h5:N.take P.length=P:=by rfl)
 (h6:∀x∈P,sc.names.lookup x=some .local\/sc.names.lookup x=some .cell:=by decide+kernel) (h7:∀y∈sc.names,y.2≠.free:=by decide+kernel):j4 N P sc:=⟨h1,h2,h3,h4,h5,h6,h7⟩
section
variable {P:AL}{w:AJ}{K:AD}{mg:Str->Option AA}{base:Heap}
theorem p7{x:Str}{st:Stmt}{N ps:List Str}{k:Nat}{m:MS}(D:Df K mg x st)(S:j4 N ps (d9 st))
 (hi:∀(kV doc pm:AA) (an:Option AB) (cdv ct:AA) (us:List AA),us.length=ps.length->bindArgs (PySem.W.fnOf x x (O9 st) (B3 st) (d9 st) .none kV doc pm an cdv ct) ⟨us,[]⟩=pure (ps.zip us))
 (hb:∀(f:AB) (cdv:AA) (A:AO) (outer:List Env) (s:AC) (H:Hp) (E:XK),E4 k (A.deeper (envOfC x (d9 st) s.heap.objs.size f cdv))->ESs (a49 CX0 P w K mg base N x (d9 st) f cdv A outer s H E).nox (B3 st) m):
 p9 P w K mg base x ps (k+1) (C5 (N.length - ps.length) m):=
 let ⟨f,fd,F,hm⟩:=D
 ⟨f,fd,b5s F S (hb f),hm,F.kp,F.binds hi⟩
theorem b4a{fa:AB}{st:Stmt}{x:Str}{k:Nat}{g:List PV->Option d7}(D:Df K mg "law" st)(hfa:mg "law"=some (.ref fa))
 (hi:∀(kV doc pm:AA) (an:Option AB) (cdv ct v:AA),bindArgs (PySem.W.fnOf "law" "law" (O9 st) (B3 st) (d9 st) .none kV doc pm an cdv ct) ⟨[v],[]⟩=pure [(x,v)])
 (main:∀ns:List Int,ns.length<=63->g [.list (ns.map .int)]=some (.val (.bool true)))
 (H:∀(base:Heap) (f:AB) (fd:FuncData),K.In base->Fun K "law" "law" st f fd->O6 P w K mg base CX0 k f fd [x] (spP K 1 g)):
 ∃fd:FuncData,(∀(s:AC) (v:AA),BindsTo s fd ⟨[v],[]⟩ [(x,v)])/\∀base:Heap,K.In base->base.Ns mainGlobals mg->O6 P w K mg base CX0 k fa fd [x] (a8d K):=by
 obtain⟨f,fd,F,hm⟩:=D
 have e:=hfa.symm.trans hm
 cases e
 refine⟨fd,fun s v=> ?_,fun base kb _=>(H base _ fd kb F).imp (b4b main)⟩
 obtain⟨oc,od,kV,doc,pm,an,cdv,ct,osl,rfl,lk,hcd⟩:=F.ex
 exact .of_eq (hi kV doc pm an cdv ct v)
end
theorem el1{C:List AA->Prop}(h:∀a,C [a])(us:List AA)(e:us.length=1):C us:=by
 obtain⟨a,rfl⟩:=List.length_eq_one_iff.mp e
 exact h a
theorem elS{n:Nat}{us:List AA}(e:us.length=n+1):∃a t,us=a::t/\t.length=n:=by
 cases us with
 |nil=>cases e
 |cons a t=>exact⟨a,t,rfl,Nat.succ.inj e⟩
theorem el2{C:List AA->Prop}(h:∀a b,C [a,b])(us:List AA)(e:us.length=2):C us:=by
 obtain⟨a,t,rfl,z⟩:=elS e
 exact el1 (C:=fun t=>C (a::t)) (h a) t z
theorem el3{C:List AA->Prop}(h:∀a b c,C [a,b,c])(us:List AA)(e:us.length=3):C us:=by
 obtain⟨a,t,rfl,z⟩:=elS e
 exact el2 (C:=fun t=>C (a::t)) (h a) t z
def a8v(K:AD)(F:Hp)(v:V)(r:d7):Prop:=∃ps a xs,r= .val (.tuple ps)/\v= .ref a/\F a=some (.tup xs)/\g9 K F ps xs
theorem a8v.mono{K:AD}{F F':Hp}{v:V}{r:d7}(l:a8v K F v r)(s:j5 F F'):a8v K F' v r:=let ⟨ps,a,xs,e1,e,h,rl⟩:=l;⟨ps,a,xs,e1,e,s _ _ h,g9.mono s _ rl⟩
def tML(K:AD)(m:M):TE:=fun σ H Q=>∃F ρ r,x6 K F H σ ρ/\m ρ=some r/\∀v F' H',p8 K F H F' H' v r->a8v K F' v r->Q v H'
abbrev EL(X:Cx)(e:AE)(m:M):Prop:=PE X e (tML X.K m)
def b76(K:AD)(F0 H0 F:Hp)(D:L4):Fl->Prop
 | .nx ρ=>∀σ' F' H',j5 F F'->R7 K F0 H0 F' H' σ' ρ->D.nx σ' H'
 | .rt r=>∀v F' H',p8 K F0 H0 F' H' v r->a8v K F' v r->D.rt v H'
 |_=>False
def b61(K:AD)(m:MS):TS:=fun D σ H=>∃F0 H0 F ρ fl,R7 K F0 H0 F H σ ρ/\m ρ=some fl/\b76 K F0 H0 F D fl
abbrev ELs(X:Cx)(st:List Stmt)(m:MS):Prop:=PSs X st (b61 X.K m)
def a7P(m n:MS):MS:=fun ρ=>(m ρ).bind fun f=>match f with
 | .nx ρ'=>n ρ'
 |_=>none
section
variable {X:Cx}
theorem b1C{es:List AE}{m:MA}{x1:Nat}{pos:Pos}(h:EA X es m):EL X (.Tuple es x1 pos) (u9 m):=
 u8 (a4D h) fun σ H Q ⟨F,ρ,r,he,hm,k⟩=>by
  obtain⟨ps,e1,hm⟩:=bind_some hm
  split at hm
  ·rename_i c
   cases hm
   refine⟨F,ρ,ps,he,e1,fun vs F1 H1 x rl=>⟨by rw [rl.length];exact c,fun p hp=>k _ (upd F1 p (.tup vs)) _ ?_ ⟨ps,p,vs,rfl,rfl,i7,g9.mono (C6 (x.fh.free hp)) _ rl⟩⟩⟩
   have f1:F1 p=none:=x.fh.free hp
   exact p8.trans x (p8.val (K0.lay x.fh hp) ⟨p,vs,rfl,.inl i7,g9.mono (C6 f1) _ rl⟩)
  ·cases hm
theorem b5Z{e:AE}{m:M}{pos:Pos}(he:EL X e m):PS X (.Return (some e) pos) (b61 X.K (z8 m)):=
 B1 (a9c he) fun D σ H ⟨F0,H0,F,ρ,fl,so,e,fin⟩=>by
  obtain⟨r,e1,e⟩:=bind_some e
  split at e
  ·cases e
   exact⟨F,ρ,r,so.e,e1,fun v F' H' o l=>fin v F' H' (p8.trans so.x o) l⟩
  ·cases e
theorem b3O{st:Stmt}{m:MS}(h1:PS X st (b61 X.K m)):ELs X [st] m:=a6N h1
theorem b1D{st:Stmt}{B2:List Stmt}{m n:MS}(h1:ES X st m)(h2:ELs X B2 n):ELs X (st::B2) (a7P m n):=
 a3o (Z4 h1 h2) fun D σ H ⟨F0,H0,F,ρ,fl,so,e,fin⟩=>by
  obtain⟨f1,e1,e⟩:=bind_some e
  cases f1 with
  |nx ρ'=>
   refine⟨F0,H0,F,ρ,.nx ρ',so,e1,fun σ' F' H' s so'=>⟨F0,H0,F',ρ',fl,so',e, ?_⟩⟩
   cases fl with
   |nx ρ2=>exact fun σ2 F2 H2 s2 so2=>fin σ2 F2 H2 (s.trans s2) so2
   |rt r=>exact fin
   |bk r=>exact fin.elim
   |ct r=>exact fin.elim
  |rt r=>cases e
  |bk r=>cases e
  |ct r=>cases e
end
def spL(K:AD)(n:Nat)(g:List PV->Option d7):Sp:=fun vs H Q _=>∃F ps r,j5 F H/\g9 K F ps vs/\ps.length=n/\g ps=some r/\∀v F' H',p8 K F H F' H' v r->a8v K F' v r->Q v H'
def b24(n:Nat)(m:MS)(ps:List PV):Option d7:=(m (ps.map (fun p=>some (d7.val p))++AV n none)).bind fun f=>match f with
 | .rt r=>some r
 |_=>none
theorem b54{P:AL}{w:AJ}{K:AD}{mg:Str->Option AA}{base:Heap}{x qual:Str}{st:Stmt}{f:AB}{fd:FuncData}{N ps:List Str}{k:Nat}{m:MS}(F:Fun K x qual st f fd)(S:j4 N ps (d9 st))
 (hb:∀(cdv:AA) (A:AO) (outer:List Env) (s:AC) (H:Hp) (E:XK),E4 k (A.deeper (envOfC qual (d9 st) s.heap.objs.size f cdv))->ELs (a49 CX0 P w K mg base N qual (d9 st) f cdv A outer s H E).nox (B3 st) m):
 O6 P w K mg base CX0 (k+1) f fd ps (spL K ps.length (b24 (N.length - ps.length) m)):=by
 refine F.ok S (fun vs H Q E h=> ?_) (fun cdv A outer s H vs Q E hr h=> ?_)
 ·obtain⟨_,qs,_,_,r,h2,_⟩:=h
  rw [r.length,h2]
 ·obtain⟨F1,qs,r,s1,rl,hl,e,k⟩:=h
  refine⟨_,hb cdv A outer s H E hr, ?_⟩
  unfold b24 at e
  obtain⟨fl,e1,e2⟩:=bind_some e
  have hv:vs.length=ps.length:=by rw [rl.length,hl]
  refine⟨F1,H,F1,_,fl, ?_,e1, ?_⟩
  ·have:=a8e (N.length - ps.length) s1 rl
   unfold L2.a0P
   rw [hv]
   exact this
  ·cases fl with
   |rt q=>cases e2;exact fun v F' H' o l=>k v F' H' o l
   |nx ρ=>cases e2
   |bk ρ=>cases e2
   |ct ρ=>cases e2
def a3u(P:AL)(w:AJ)(K:AD)(mg:Str->Option AA)(base:Heap)(x:Str)(ps:List Str)(k:Nat)(g:List PV->Option d7):Prop:=
 ∃f fd,O6 P w K mg base CX0 k f fd ps (spL K ps.length g)/\mg x=some (.ref f)/\PySem.W.keepIn K (.ref f)=true/\a2B K fd ps []
theorem b3W{P:AL}{w:AJ}{K:AD}{mg:Str->Option AA}{base:Heap}{x:Str}{st:Stmt}{N ps:List Str}{k:Nat}{m:MS}(D:Df K mg x st)(S:j4 N ps (d9 st))
 (hi:∀(kV doc pm:AA) (an:Option AB) (cdv ct:AA) (us:List AA),us.length=ps.length->bindArgs (PySem.W.fnOf x x (O9 st) (B3 st) (d9 st) .none kV doc pm an cdv ct) ⟨us,[]⟩=pure (ps.zip us))
 (hb:∀(f:AB) (cdv:AA) (A:AO) (outer:List Env) (s:AC) (H:Hp) (E:XK),E4 k (A.deeper (envOfC x (d9 st) s.heap.objs.size f cdv))->ELs (a49 CX0 P w K mg base N x (d9 st) f cdv A outer s H E).nox (B3 st) m):
 a3u P w K mg base x ps (k+1) (b24 (N.length - ps.length) m):=
 let ⟨f,fd,F,hm⟩:=D
 ⟨f,fd,b54 F S (hb f),hm,F.kp,F.binds hi⟩
theorem a3u.ok{P:AL}{w:AJ}{K:AD}{mg:Str->Option AA}{base:Heap}{x:Str}{ps:List Str}{k:Nat}{g:List PV->Option d7}(d:a3u P w K mg base x ps k g):p9 P w K mg base x ps k g:=by
 obtain⟨f,fd,G,r⟩:=d
 exact⟨f,fd,G.imp fun vs H Q E ⟨F,ps,r,s,rl,hl,e,k⟩=>⟨F,ps,r,s,rl,hl,e,fun v F' H' o _=>k v F' H' o⟩,r⟩
section
variable {X:Cx}
theorem b1B{k k':Nat}{ps:List Str}{g:List PV->Option d7}{x:Str}{p pos:Pos}{e:AE}{es:List AE}{m:MA}
 (d:a3u X.prog X.w X.K X.mg X.base x ps k g) (hr:E4 k' X.A) (hk:k<=k') (hg:Gl X x) (hn:∀ρ qs,m ρ=some qs->qs.length=ps.length) (ha:EA X (e::es) m)
 (hdb:(x==("__debug__":Str))=false:=by decide) (he:AX (e::es) X.env=(false,eval e X.env)::AX es X.env:=by rfl) (hpl:(backTo pos (AX es X.env)).any (·.1)=false:=by rfl):
 EL X (.Call (.Name x p) (e::es) [] pos) (k0 g m):=by
 obtain⟨f,fd,G,h1,h2,h3⟩:=d
 refine u8 (a6M G (hr.mono hk) hg h1 h2 h3 .nil b2H ha hdb he hpl) fun σ H Q ⟨F,ρ,r,he,hm,k⟩=> ?_
 obtain⟨qs,e1,hm⟩:=bind_some hm
 refine⟨F,ρ,qs,he,e1,fun vs F1 H1 x rl=> ?_⟩
 show spL X.K ps.length g (vs++[]) H1 Q E0
 rw [Am]
 exact⟨F1,qs,r,x.fh,rl,hn _ _ e1,hm,fun v F2 H2 o l=>k v F2 H2 (p8.trans x o) l⟩
def a6r(r:d7):Option (List f8):=match r with
 | .val (.tuple ps)=>keysOf ps
 |_=>none
theorem a4a{F:Hp}{r:d7}{k:List f8}{v:V}(e:a6r r=some k)(l:a8v X.K F v r):∃b,v= .ref b/\F b=some (.tup (k.map kV)):=by
 obtain⟨ps,a,xs,rfl,rfl,fa,rl⟩:=l
 have ex:=A7 (show keysOf ps=some k from e) rl
 subst ex
 exact⟨a,rfl,fa⟩
def a8U(i:Nat)(mk mv:M):MS:=fun ρ=>((mv ρ).bind d7.toVal).bind fun p=>((mk ρ).bind a6r).bind (a0C i ρ p)
theorem b1H(i:Nat){x:Str}{p tp2 pos:Pos}{ek e:AE}{mk mv:M}(hu:X.A.units+64<cLine)(hx:PE X (.Name x p) (Q6 i))(hi:EL X ek mk)(he:EE X e mv)
 (hs:swapsWith e (some (.Subscript (.Name x p) ek tp2)) pos.line X.env=pure false:=by rfl):ES X (.Assign [.Subscript (.Name x p) ek tp2] e pos) (a8U i mk mv):=
 B1 (a3n (by lia) hx hi he hs) fun D σ H ⟨F0,H0,F,ρ,fl,so,e,fin⟩=>by
  obtain⟨q,e1,e⟩:=bind_some e
  obtain⟨r,e2,e3⟩:=bind_some e1
  obtain⟨k,e4,e⟩:=bind_some e
  obtain⟨rk,e4,e5⟩:=bind_some e4
  refine⟨F,ρ,r,so.e,e2,fun v F1 H1 o=> ?_⟩
  obtain⟨F2,o2⟩:=o.toVal e3
  have so2:=so.ext o2.x
  unfold a0C at e
  split at e
  ·rename_i kvs eo
   split at e
   ·rename_i hl
    cases e
    obtain⟨w,hw1,a,xs,rfl,fa,ha',rl⟩:=so2.e.at_ i _ eo
    refine⟨.ref a,hw1,F2,ρ,rk,so2.e,e4,fun y F3 H3 o3 ly=> ?_⟩
    obtain⟨b,rfl,hb⟩:=a4a e5 ly
    have ha3:=o3.x.h _ _ ha'
    have so3:=so2.ext o3.x
    refine⟨a,_,rfl,a44.t (k:=k) ha3 (o3.x.fh _ _ hb) (by rw [rl.length];exact hl), ?_⟩
    exact fin σ _ _ (o2.x.f.trans o3.x.f) (so3.putD eo hw1 ((t4.mono o3.x.f _ rl).put (v6.mono o3.x.f _ o2.rep)))
   ·cases e
  ·cases e
end
section
variable {X:Cx}
def a9N(neg:Bool)(i:Nat)(mk:M):M:=fun ρ=>((mk ρ).bind a6r).bind (a6g neg i ρ)
theorem b1t{i:Nat}{mk:M}{neg:Bool}{σ:L2.St}{H:Hp}{Q:VK}(h:tM X.K (a9N neg i mk) σ H Q):
 tML X.K mk σ H fun y H1=>Q6 i σ H1 fun x H2=>∃a o,x= .ref a/\R5 H2 a y o/\Q (.bl (if neg then !o.isSome else o.isSome)) H2:=by
 obtain⟨F,ρ,r,en,e,k⟩:=h
 obtain⟨kk,e4,e⟩:=bind_some e
 obtain⟨rk,e4,e5⟩:=bind_some e4
 unfold a6g at e
 split at e
 ·rename_i kvs eo
  cases e
  refine⟨F,ρ,rk,en,e4,fun y F3 H3 o3 ly=> ?_⟩
  obtain⟨b,rfl,hb⟩:=a4a e5 ly
  obtain⟨w,hw1,a,xs,rfl,fa,ha',rl⟩:=(en.ext o3.x).at_ i _ eo
  refine⟨.ref a,hw1,a,O4 xs kk,rfl,R5.t ha' (o3.x.fh _ _ hb), ?_⟩
  rw [rl.isSome]
  exact k _ _ _ (p8.val o3.x rfl)
 ·cases e
theorem a8I(i:Nat){x:Str}{p pos:Pos}{ek:AE}{mk:M}(hu:X.A.units+64<cLine)(hx:PE X (.Name x p) (Q6 i))(hi:EL X ek mk)(hm:behindInMarks .NotIn (.Name x p)=false):ET X (.Compare ek [.NotIn] [.Name x p] pos) (S8 (a9N true i mk)):=
 a6O (a9e (a2s (by lia) hi hx) hm) fun σ H Q h=>b5H (fun _ _ _ h=>b1t h) h
end
def a5J(x d:Nat)(mk m2:M)(ma n:MS):MS:=fun ρ=>(mk ρ).bind fun r=>(a6r r).bind fun k=>if r.nb=true/\(d==x)=false/\x<ρ.length then match ρ[d]? with
 |some (some (.ow (.dct kvs)))=>if(m6 kvs k).isSome=true then n (ρ.set x (some r)) else((m2 (ρ.set x (some r))).bind d7.toVal).bind fun p=>if kvs.length<AK then(ma ((ρ.set x (some r)).set d (some (.ow (.dct (M1 kvs k p)))))).bind fun f=>match f with
  | .nx ρ'=>n ρ'
  |_=>none
  else none
 |_=>none
 else none
section
variable {X:Cx}
theorem b3V{x d:Nat}{nx nd:Str}{e1 e2:AE}{sa:Stmt}{mk m2:M}{ma n:MS}{B2:List Stmt}{p1 p1' p2 p3 q1 q2 q3 q4 cp tp2:Pos}(hN:X.N.Nodup)(hu:X.A.units+64<cLine)
 (h1:EL X e1 mk) (hvx1:PE X (.Name nx q1) (Q6 x)) (hvd1:PE X (.Name nd q2) (Q6 d)) (h2:EE X e2 m2) (hvd2:PE X (.Name nd q3) (Q6 d)) (hvx2:PE X (.Name nx q4) (Q6 x)) (ha:ES X sa ma) (hr:ESs X B2 n)
 (hi:X.N[x]?=some nx:=by rfl) (hx:Loc X.env.scope nx:=by exact Or.inl rfl) (hs:swapsWith e1 (some (.Name nx p1')) p1.line X.env=pure false:=by rfl) (hf:X.fn nx=true\/X.env.scope.names.lookup nx=some .local:=by first|exact .inl rfl|exact .inr rfl)
 (hm:behindInMarks .NotIn (.Name nd q2)=false:=by first|rfl|exact p0 _) (hs2:swapsWith e2 (some (.Subscript (.Name nd q3) (.Name nx q4) tp2)) p3.line X.env=pure false:=by rfl):
 ESs X (.Assign [.Name nx p1'] e1 p1:: .If (.Compare (.Name nx q1) [.NotIn] [.Name nd q2] cp) [.Assign [.Subscript (.Name nd q3) (.Name nx q4) tp2] e2 p3,sa] [] p2::B2) (a5J x d mk m2 ma n):=by
 refine a3o (Z4 (a9d hN hi hx h1 hs hf) (Z4 (b5C (a9e (a2s (by lia) hvx1 hvd1) hm) (Z4 (a3n (by lia) hvd2 hvx2 h2 hs2) (a6N ha)) a9X) hr)) fun D σ H ⟨F0,H0,F,ρ,fl,so,e,fin⟩=> ?_
 obtain⟨r,e1,e⟩:=bind_some e
 obtain⟨k,ek,e⟩:=bind_some e
 split at e
 case isFalse=>cases e
 rename_i hc
 obtain⟨hnb,hdx,hxl⟩:=hc
 have hdx:d≠x:=by simpa using hdx
 split at e
 case h_2=>cases e
 rename_i kvs eo
 refine⟨F,ρ,r,so.e,e1,fun v F1 H1 o1 l1=> ?_⟩
 obtain⟨b,rfl,hb⟩:=a4a (X:=X) ek l1
 have so2:=so.set o1 hnb x
 have hd2:(ρ.set x (some r))[d]?=some (some (.ow (.dct kvs))):=by rw [List.getElem?_set_ne (Ne.symm hdx)];exact eo
 obtain⟨w,hw,a,xs,rfl,fa,ha',rl⟩:=so2.e.at_ d _ hd2
 have hσx:(σ.set x (some (V.ref b)))[x]?=some (some (.ref b)):=by rw [BH (by rw [so.e.len];exact hxl)]
 refine⟨.ref b,hσx,.ref a,hw,a,O4 xs k,rfl,R5.t ha' (so2.e.fh _ _ hb),_,rfl, ?_⟩
 have hsm:(O4 xs k).isSome=(m6 kvs k).isSome:=rl.isSome
 split at e
 ·rename_i hin
  rw [hsm,hin]
  exact b17 ⟨F0,H0,F1,_,fl,so2,e,fin.later o1.x.f⟩
 ·rename_i hin
  have hin:(m6 kvs k).isSome=false:=by simpa using hin
  obtain⟨q,e2,e⟩:=bind_some e
  obtain⟨r2,e2,e3⟩:=bind_some e2
  split at e
  case isFalse=>cases e
  rename_i hl
  obtain⟨f,e4,e⟩:=bind_some e
  cases f with
  |rt r=>cases e
  |bk r=>cases e
  |ct r=>cases e
  |nx ρ'=>
   rw [hsm,hin]
   refine b18 ⟨F1,_,r2,so2.e,e2,fun v2 F2 H2 o2=> ?_⟩
   obtain⟨F3,o3⟩:=o2.toVal e3
   have so3:=so2.ext o3.x
   have hb3:H2 b=some (.tup (k.map kV)):=o3.x.fh _ _ (o3.x.f _ _ hb)
   refine⟨.ref a,hw,.ref b,hσx,a,_,rfl,a44.t (k:=k) (o3.x.h _ _ ha') hb3 (by rw [rl.length];exact hl), ?_⟩
   exact⟨F0,H0,F3,_,.nx ρ',so3.putD hd2 hw ((t4.mono o3.x.f _ rl).put o3.rep),e4,fun σ' F' H' s so'=>⟨F0,H0,F',ρ',fl,so',e,fin.later ((o1.x.f.trans o3.x.f).trans s)⟩⟩
end
def a7B(x y:d7):Option d7:=match x,y.mine with
 | .val (.list qs),some ps=>if qs.length+ps.length<=AK then some (.own (qs++ps)) else none
 |_,_=>none
section
variable {X:Cx}
theorem b2A(nl:b4r X.K=true):OpM X (binaryOp .Add) a7B:=by
 intro pins s σ H x y v u Q I rx ry h
 obtain⟨F,ra,rb,rz,s0,h1,h2,h3,k⟩:=h
 unfold a7B at h3
 split at h3
 case h_2=>cases h3
 rename_i qs ps e1
 split at h3
 case isFalse=>cases h3
 rename_i c
 cases h3
 obtain⟨a,xs,rfl,_,hq,r⟩:=a4p h2 e1
 obtain⟨b,ys,rfl,hq',r'⟩:=(show v6 X.K F (.list qs) x from h1)
 cases rx
 cases ry
 obtain⟨z,its,n,rv,hl,e⟩:=I.lstM hq
 have hz:ys.length<=AK/\∃(its2:List AA) (n2:Nat),i4 ys its2/\s.heap.get? b=some {cls:= .type "list",data:= .seq its2.toArray n2}:=by
  rcases u4 s0 hq' with h|⟨w,_,_,h1,h2,_⟩
  ·obtain⟨z,its,n,r,e⟩:=h.ok I.hok
   exact⟨z,its,n,r,e⟩
  ·exact(b2w nl h1 h2).elim
 obtain⟨z2,its2,n2,rv2,e2⟩:=hz
 have hl2:=rv2.length
 have hs:ys.length+xs.length<=AK:=by rw [r.length,r'.length];exact c
 refine PySem.P.add_list e2 e ?_ (by rw [Ab,Ab];lia)
 have ea:its2.toArray++its.toArray=(its2++its).toArray:=by simp
 rw [ea]
 exact⟨.ref _,_,I.lnew (t':=s.toks) (rv2.append rv) (by rw [AZ];lia),rfl,k _ _ _ (p8.lst s0 I.fresh (r'.append r))⟩
end
theorem b2q{m n:MS}{ρ ρ':a8}(h:m ρ=some (.nx ρ')):a7P m n ρ=n ρ':=by unfold a7P;rw [h];rfl
theorem a5H(neg:Bool)(i:Nat)(mk:M)(ρ:a8):a9N neg i mk ρ=((mk ρ).bind a6r).bind (a6g neg i ρ):=Eq.trans rfl rfl
theorem a39(a b:Int):a6r (.val (.tuple [.int a,.int b]))=some [.inl a,.inl b]:=Eq.trans rfl rfl
theorem b2m{x d:Nat}{mk m2:M}{ma n:MS}{ρ:a8}{r:d7}{k:List f8}{kvs:List (List f8×PV)}(h1:mk ρ=some r)(h2:a6r r=some k)(h3:r.nb=true)(h4:(d==x)=false)(h5:x<ρ.length)(h6:ρ[d]?=some (some (.ow (.dct kvs))))(h7:(m6 kvs k).isSome=true):a5J x d mk m2 ma n ρ=n (ρ.set x (some r)):=by
 unfold a5J
 rw [h1,AH,h2,AH,if_pos ⟨h3,h4,h5⟩,h6]
 show(if _ then _ else _)=_
 rw [if_pos h7]
theorem b0F{x d:Nat}{mk m2:M}{ma n:MS}{ρ ρ':a8}{r:d7}{k:List f8}{kvs:List (List f8×PV)}{p:PV}{r2:d7}(h1:mk ρ=some r)(h2:a6r r=some k)(h3:r.nb=true)(h4:(d==x)=false)(h5:x<ρ.length)(h6:ρ[d]?=some (some (.ow (.dct kvs))))(h7:(m6 kvs k).isSome=false)
 (h8:m2 (ρ.set x (some r))=some r2) (h9:r2.toVal=some p) (h10:kvs.length<16777216) (h11:ma ((ρ.set x (some r)).set d (some (.ow (.dct (M1 kvs k p)))))=some (.nx ρ')):a5J x d mk m2 ma n ρ=n ρ':=by
 unfold a5J
 rw [h1,AH,h2,AH,if_pos ⟨h3,h4,h5⟩,h6]
 show(if _ then _ else _)=_
 rw [if_neg (by rw [h7];exact As),h8,AH,h9,AH,if_pos (by rw [sizeLine_eq];exact h10),h11]
 rfl
def a9O(m:M)(mk:MA):M:=fun ρ=>(m ρ).bind fun r=>match r with
 | .ow (.dct kvs)=>(mk ρ).bind fun ks=>if ks.length<=AK then(keysOf ks).bind fun kk=>(m6 kvs kk).map .val else none
 |_=>none
section
variable {X:Cx}
theorem b3M{eo:AE}{tp pos:Pos}{es:List AE}{x1}{m:M}{mk:MA}(hu:X.A.units+64<cLine)(hx:EE X eo m)(hi:EA X es mk)(hs:a68 (.Tuple es x1 tp):=by intro _ _;rfl):EE X (.Subscript eo (.Tuple es x1 tp) pos) (a9O m mk):=
 u8 (a3m (by lia) hx (a4D hi) hs) fun σ H Q ⟨F,ρ,r,en,e,k⟩=>by
  obtain⟨r0,e1,e⟩:=bind_some e
  split at e
  ·rename_i kvs
   obtain⟨ks,e4,e⟩:=bind_some e
   split at e
   ·rename_i hz
    obtain⟨kk,e5,e⟩:=bind_some e
    cases hv:m6 kvs kk with
    |none=>rw [hv] at e;cases e
    |some q=>
     rw [hv] at e;cases e
     refine⟨F,ρ,_,en,e1,fun u F1 H1 o1=> ?_⟩
     obtain⟨a,xs,rfl,fa,ha',rl⟩:=o1.rep
     obtain⟨y,hy,ry⟩:=(rl.val (k:=kk)).1 q hv
     refine⟨F1,ρ,ks,en.ext o1.x,e4,fun vs F3 H3 x3 rl3=>⟨by rw [rl3.length];exact hz,fun b hb=> ?_⟩⟩
     have ev:=A7 e5 rl3
     have ha3:=x3.h _ _ ha'
     have hne:a≠b:=fun h=>by subst h;rw [hb] at ha3;cases ha3
     have ha4:upd H3 b (.tup vs) a=some (.dT xs):=by rw [g5 hne];exact ha3
     have xx:=x3.trans (K0.lay (o:= .tup vs) x3.fh hb)
     exact⟨a,y,rfl,by rw [<-hy];exact R5.t ha4 (by rw [i7,ev]),k _ _ _ (p8.val (o1.x.trans xx) (v6.mono xx.f _ ry))⟩
   ·cases e
  ·cases e
theorem b4i{m:M}{mk:MA}{ρ:a8}{a b:Int}{p:PV}{kvs:List (List f8×PV)}(h1:m ρ=some (.ow (.dct kvs)))(h2:mk ρ=some [.int a,.int b])(h3:m6 kvs [.inl a,.inl b]=some p):a9O m mk ρ=some (.val p):=by
 unfold a9O
 rw [h1,AH]
 show(mk ρ).bind _=_
 rw [h2,AH,if_pos (by rw [sizeLine_eq];simp),show keysOf [.int a,.int b]=some [.inl a,.inl b] from rfl,AH,h3]
 rfl
end
def S(l:List Nat):Str:=⟨l.toArray⟩
theorem b7n(a b:List Nat):S a++S b=S (a++b):=by
 show Str.append (S a) (S b)=_
 simp [Str.append,S]
theorem a69(a:List Nat):(S a).length=a.length:=by simp [S,Str.length]
theorem b7p(a:List Nat):(S a).cps.toList=a:=by simp [S]
theorem b7q{a b:List Nat}(h:S a=S b):a=b:=by
 have:=congrArg (fun z:Str=>z.cps.toList) h
 simpa [S] using this
theorem b7o(a b:List Nat):(S a==S b)=(a==b):=by
 rw [Bool.eq_iff_iff]
 simp only [beq_iff_eq]
 exact⟨b7q,fun h=>by rw [h]⟩
theorem a3E{α:Type}{xs:List α}{i:Int}(h:0<=i):L2.atI xs i=xs[i.toNat]?:=by
 unfold L2.atI L2.ixN
 rw [if_pos h]
 by_cases c:i<xs.length
 ·rw [if_pos c];rfl
 ·rw [if_neg c]
  have:xs.length<=i.toNat:=by lia
  rw [List.getElem?_eq_none_iff.mpr this];rfl
theorem b1e{α:Type}{xs:List α}{k:Nat}:L2.atI xs (k:Int)=xs[k]?:=by
 rw [a3E (by lia)];simp
theorem b5u{l:List Nat}{i:Int}{c:Nat}(hl:l.length<=16777216)(h:L2.atI l i=some c):t6 (.val (.str (S l))) (.val (.int i))=some (.val (.str (S [c]))):=by
 have hs:(S l).length<=AK:=by rw [a69,sizeLine_eq];exact hl
 unfold t6
 simp only [d7.rd,b7p,h,BF,if_pos hs]
 rfl
theorem b57{l k:List Nat}(h:l.length+k.length<=16777216):O7 (.val (.str (S l))) (.val (.str (S k)))=some (.val (.str (S (l++k)))):=by
 rw [b1O (by rw [a69,a69,sizeLine_eq];exact h),b7n]
theorem b3Z{l:List Nat}{c:Nat}(h:l.length<16777216):O7 (.val (.str (S l))) (.val (.str (S [c])))=some (.val (.str (S (l++[c])))):=b57 (by simp only [AT,Aa];lia)
theorem b32{i j:Int}(h: -18446744073709551616<i/\i<18446744073709551616):a30 (.val (.int i)) (.val (.int j))=some (.val (.int (i*j))):=b59 h
theorem b33{i j:Int}(h: -18446744073709551616<j/\j<18446744073709551616):a30 (.val (.int i)) (.val (.int j))=some (.val (.int (i*j))):=b6a h
theorem a6j(i j:Int):a28 (.val (.int i)) (.val (.int j))=some (.val (.bool (decide (i<j)))):=Eq.trans rfl rfl
theorem a6k{i j:Int}(h: -18446744073709551616<i/\i<18446744073709551616):V9 (.val (.int i)) (.val (.int j))=some (.val (.int (i*j))):=(show _=a30 (.val (.int i)) (.val (.int j)) from rfl).trans (b32 h)
theorem b34{i j:Int}(h: -18446744073709551616<j/\j<18446744073709551616):V9 (.val (.int i)) (.val (.int j))=some (.val (.int (i*j))):=(show _=a30 (.val (.int i)) (.val (.int j)) from rfl).trans (b33 h)
theorem b5v(a b:Bool):gNe (.val (.bool a)) (.val (.bool b))=some (.val (.bool (!(a==b)))):=Eq.trans rfl rfl
abbrev row(l:List Nat):PV:= .str (S l)
def b5n(rows:List (List Nat)):PV:= .tuple (rows.map row)
theorem a9D(a b:List Nat):PyData.eqv (row a) (row b)=(a==b):=by
 show PyData.eqv (.str (S a)) (.str (S b))=_
 rw [show PyData.eqv (.str (S a)) (.str (S b))=(S a==S b) by simp only [PyData.eqv],b7o]
theorem a1u(a:List Nat)(n:Nat):n4 (row a) n=true:=by cases n<;>rfl
theorem a7A{body:MS}{tg:PV->a8->Option a8}{I:Nat->a8->Prop}:∀{ps:List PV} {ρ:a8} (k:Nat),(∀(i:Nat) p,ps[i]?=some p->∀ρ,I (k+i) ρ->∃ρ1 ρ2,tg p ρ=some ρ1/\(body ρ1=some (.nx ρ2)\/body ρ1=some (.ct ρ2))/\I (k+i+1) ρ2)->I k ρ->∃ρ',w4 body tg ps ρ=some (.nx ρ')/\I (k+ps.length) ρ'
 |[],ρ,k,_,h=>⟨ρ,rfl,h⟩
 |p::ps,ρ,k,s,h=>by
  obtain⟨ρ1,ρ2,h1,h2,h3⟩:=s 0 p rfl ρ h
  obtain⟨ρ',h4,h5⟩:=a7A (ps:=ps) (ρ:=ρ2) (k+1) (fun i q hq ρ hi=>by
   have e:k+1+i=k+(i+1):=by lia
   rw [e] at hi ⊢
   exact s (i+1) q (by simpa using hq) ρ hi) h3
  refine⟨ρ', ?_,by rw [AT];have e:k+(ps.length+1)=k+1+ps.length:=by lia
                   rw [e];exact h5⟩
  unfold w4
  rw [h1]
  show(body ρ1).bind _=_
  rcases h2 with h2|h2<;>rw [h2]<;>exact h4
theorem m7{body:MS}{tg:PV->a8->Option a8}(I:Nat->a8->Prop){ps:List PV}{ρ:a8}(s:∀(i:Nat) p,ps[i]?=some p->∀ρ,I i ρ->∃ρ1 ρ2,tg p ρ=some ρ1/\(body ρ1=some (.nx ρ2)\/body ρ1=some (.ct ρ2))/\I (i+1) ρ2)(h:I 0 ρ):∃ρ',w4 body tg ps ρ=some (.nx ρ')/\I ps.length ρ':=by
 obtain⟨ρ',a,b⟩:=a7A (I:=I) 0 (fun i p hp ρ hi=>by rw [Nat.zero_add] at hi ⊢;exact s i p hp ρ hi) h
 rw [Nat.zero_add] at b
 exact⟨ρ',a,b⟩
theorem p4{body:MS}{tg:PV->a8->Option a8}{I:a8->Prop}{p:PV}{ρ ρ1 ρ2:a8}(h1:tg p ρ=some ρ1)(h2:body ρ1=some (.nx ρ2))(h3:I ρ2):∃ρ1 ρ2,tg p ρ=some ρ1/\(body ρ1=some (.nx ρ2)\/body ρ1=some (.ct ρ2))/\I ρ2:=⟨ρ1,ρ2,h1,.inl h2,h3⟩
theorem G9{lo hi:Int}{i:Nat}{p:PV}(h:(G4 lo hi)[i]?=some p):p= .int (lo+i)/\lo+i<hi:=by
 have hi':=(Ar.mp h).1
 rw [C4] at hi'
 rw [a79 hi'] at h
 cases h
 exact⟨rfl,by lia⟩
theorem b4U(n:Nat):G4 0 (n:Int)=(AW n).map fun k=> .int (k:Nat):=by
 unfold G4
 have e:((n:Int) - 0).toNat=n:=by lia
 rw [e]
 exact List.map_congr_left fun k _=>by simp
theorem a5G(k:Nat)(it:MI)(tg:PV->a8->Option a8)(c:MT)(elt:M)(ρ:a8):a0I k it tg c elt ρ=(it ρ).bind fun ps=>if ps.length<=AK then(a0z c elt tg (ρ++AV k none) ps).bind fun r=>some (.own r) else none:=Eq.trans rfl rfl
theorem a5q{α:Type}{ι f:α->PV}{elt:M}{tg:PV->a8->Option a8}{ρ:a8}:∀{xs:List α},(∀x∈xs,∃ρ1,tg (ι x) ρ=some ρ1/\(elt ρ1).bind d7.toVal=some (f x))->a0z a4l elt tg ρ (xs.map ι)=some (xs.map f)
 |[],_=>rfl
 |x::xs,h=>by
  obtain⟨ρ1,h1,h2⟩:=h x Al
  rw [AM,AM]
  unfold a0z
  rw [h1,AH]
  show((elt ρ1).bind d7.toVal).bind _=_
  rw [h2,AH,a5q fun y hy=>h y (Ai _ hy),AH]
theorem b0D{α:Type}{ι f:α->PV}{k:Nat}{it:MI}{elt:M}{tg:PV->a8->Option a8}{ρ:a8}(xs:List α)(h1:it ρ=some (xs.map ι))(h2:xs.length<=16777216)
 (h:∀x∈xs,∃ρ1,tg (ι x) (ρ++AV k none)=some ρ1/\(elt ρ1).bind d7.toVal=some (f x)):a0I k it tg a4l elt ρ=some (.own (xs.map f)):=by
 rw [a5G,h1,AH,if_pos (by rw [AU,sizeLine_eq];exact h2),a5q h,AH]
theorem a1t{α:Type}{ι f:α->PV}{q:α->Bool}{c:MT}{elt:M}{tg:PV->a8->Option a8}{ρ:a8}:∀{xs:List α},(∀x∈xs,∃ρ1,tg (ι x) ρ=some ρ1/\c ρ1=some (q x)/\(q x=true->(elt ρ1).bind d7.toVal=some (f x)))->a0z c elt tg ρ (xs.map ι)=some ((xs.filter q).map f)
 |[],_=>rfl
 |x::xs,h=>by
  obtain⟨ρ1,h1,h2,h3⟩:=h x Al
  have ih:=a1t (xs:=xs) fun y hy=>h y (Ai _ hy)
  rw [AM]
  unfold a0z
  rw [h1,AH,h2,AH]
  cases e:q x with
  |true=>rw [if_pos rfl,h3 e,AH,ih,AH,List.filter_cons_of_pos (by rw [e])];rfl
  |false=>rw [if_neg As,ih,List.filter_cons_of_neg (by rw [e];exact As)]
theorem D0(ps:List PV):PyData.items? (.list ps)=some ps:=Eq.trans rfl rfl
theorem a2O(ps:List PV):PyData.items? (.tuple ps)=some ps:=Eq.trans rfl rfl
theorem w6(m:M)(ρ:a8):K8 m ρ=((m ρ).bind d7.toVal).bind PyData.items?:=Eq.trans rfl rfl
theorem a4k(m:M)(lo hi:MO)(ρ:a8):a8W m lo hi ρ=(m ρ).bind fun r=>(lo ρ).bind fun l=>(hi ρ).bind fun h=>gSl r l h:=Eq.trans rfl rfl
theorem a4r(m:M)(ρ:a8):a8Z m ρ=(m ρ).bind a9H:=Eq.trans rfl rfl
theorem a4q(ρ:a8):a8Y ρ=some none:=Eq.trans rfl rfl
theorem a9I(i:Int):a9H (.val (.int i))=some (some i):=Eq.trans rfl rfl
theorem a2S{m:M}{ρ:a8}{r:d7}{ps:List PV}(h:m ρ=some r)(h2:PyData.items? r.rd=some ps):P5 m ρ=some ps:=by
 unfold P5
 rw [h,AH,h2]
theorem a8K(ps:List PV):a6o (.bor ps)=some (.val (.tuple ps)):=Eq.trans rfl rfl
theorem t8{i:Nat}{m:M}{ρ:a8}{r:d7}{p:PV}{ps:List PV}(h1:m ρ=some r)(h2:r.toVal=some p)(h3:ρ[i]?=some (some (.own ps)))(h:ps.length<16777216):z6 i m ρ=some (.nx (ρ.set i (some (.own (ps++[p]))))):=by
 unfold z6
 rw [h1,AH,h2,AH,h3]
 simp only [sizeLine_eq,if_pos h]
theorem a0m(p:d7)(ρ:a8):S3 0 (some p::ρ)=some (.rt p):=Eq.trans rfl rfl
theorem a0n(n:Nat)(r:Option d7)(ρ:a8):S3 (n+1) (r::ρ)=S3 n ρ:=Eq.trans rfl rfl
theorem y8(k:List f8)(v:PV)(D:List (List f8×PV))(k':List f8):m6 ((k,v)::D) k'=if k=k' then some v else m6 D k':=by
 unfold m6
 rw [List.find?_cons]
 by_cases h:k=k'
 ·simp [h]
 ·simp [h]
theorem a8i(k:List f8)(v:PV)(k':List f8):∀D:List (List f8×PV),m6 (D++[(k,v)]) k'=if(m6 D k').isSome=true then m6 D k' else if k=k' then some v else none
 |[]=>by rw [Ak,y8];rfl
 |(a,b)::D=>by
  rw [Ao,y8,y8,a8i k v k' D]
  by_cases h:a=k'
  ·simp [h]
  ·simp [h]
theorem a58(k:List f8):∀D:List (List f8×PV),(D.any fun kv=>decide (kv.1=k))=(m6 D k).isSome
 |[]=>rfl
 |(a,b)::D=>by
  rw [List.any_cons,a58 k D,y8]
  by_cases h:a=k
  ·simp [h]
  ·simp [h]
theorem a51(k:List f8)(v:PV)(k':List f8):∀D:List (List f8×PV),m6 (D.map fun kv=>if kv.1=k then(kv.1,v) else kv) k'=if k=k' then(m6 D k').map (fun _=>v) else m6 D k'
 |[]=>by simp [m6]
 |(a,b)::D=>by
  rw [AM]
  have ih:=a51 k v k' D
  by_cases h:a=k
  ·simp only [h,if_true]
   rw [y8,y8,ih]
   by_cases h2:k=k'
   ·simp [h2]
   ·simp [h2]
  ·simp only [h,if_false]
   rw [y8,y8,ih]
   by_cases h2:a=k'
   ·have:¬k=k':=fun z=>h (h2.trans z.symm)
    simp [h2,this]
   ·simp [h2]
theorem O3(D:List (List f8×PV))(k:List f8)(v:PV)(k':List f8):m6 (M1 D k v) k'=if k=k' then some v else m6 D k':=by
 unfold M1
 rw [a58]
 cases h:(m6 D k).isSome with
 |true=>
  rw [if_pos rfl,a51]
  by_cases h2:k=k'
  ·subst h2
   rw [if_pos rfl,if_pos rfl]
   obtain⟨x,hx⟩:=Option.isSome_iff_exists.mp h
   rw [hx];rfl
  ·rw [if_neg h2,if_neg h2]
 |false=>
  rw [if_neg As,a8i]
  by_cases h2:k=k'
  ·subst h2;rw [h];simp
  ·simp only [if_neg h2]
   cases h3:m6 D k'<;>simp
theorem a75(D:List (List f8×PV))(k:List f8)(v:PV):(M1 D k v).length<=D.length+1:=by
 unfold M1
 split
 ·rw [AU];lia
 ·rw [AZ,List.length_singleton];lia
theorem X9{i:Nat}{ρ:a8}{p:PV}{k:List f8}{D:List (List f8×PV)}(h:ρ[i]?=some (some (.ow (.dct D))))(hl:D.length<16777216):a0C i ρ p k=some (.nx (ρ.set i (some (.ow (.dct (M1 D k p)))))):=by
 unfold a0C
 rw [h]
 show(if D.length<AK then _ else none)=_
 rw [if_pos (by rw [sizeLine_eq];exact hl)]
theorem b1r{i:Nat}{ρ:a8}{k:List f8}{D:List (List f8×PV)}{p:PV}(h:ρ[i]?=some (some (.ow (.dct D))))(hv:m6 D k=some p):a0B i ρ k=some (.val p):=by
 unfold a0B
 rw [h]
 show(m6 D k).map _=_
 rw [hv];rfl
theorem K3(neg:Bool)(D:List (List f8×PV))(ρ:a8)(k:List f8):a6g neg 0 (some (.ow (.dct D))::ρ) k=some (.val (.bool (if neg then !(m6 D k).isSome else(m6 D k).isSome))):=Eq.trans rfl rfl
theorem K4(neg:Bool)(i:Nat)(r:Option d7)(ρ:a8)(k:List f8):a6g neg (i+1) (r::ρ) k=a6g neg i ρ k:=Eq.trans rfl rfl
theorem a9v(D:List (List f8×PV))(ρ:a8)(k:List f8):a0B 0 (some (.ow (.dct D))::ρ) k=(m6 D k).map .val:=Eq.trans rfl rfl
theorem a9w(i:Nat)(r:Option d7)(ρ:a8)(k:List f8):a0B (i+1) (r::ρ) k=a0B i ρ k:=Eq.trans rfl rfl
theorem b4j{i:Nat}{ma:MA}{mv:M}{ρ:a8}{a b:Int}{r:d7}{p:PV}{D:List (List f8×PV)}(h1:mv ρ=some r)(h2:r.toVal=some p)(h3:ma ρ=some [.int a,.int b])(h:ρ[i]?=some (some (.ow (.dct D))))(hl:D.length<16777216):
 a9P i ma mv ρ=some (.nx (ρ.set i (some (.ow (.dct (M1 D [.inl a,.inl b] p)))))):=by
 unfold a9P
 rw [h1,AH,h2,AH,h3,AH,if_pos (by rw [sizeLine_eq];simp),show keysOf [.int a,.int b]=some [.inl a,.inl b] from rfl,AH,X9 h hl]
theorem b4h{i:Nat}{ma:MA}{ρ:a8}{a b:Int}{p:PV}{D:List (List f8×PV)}(h3:ma ρ=some [.int a,.int b])(h:ρ[i]?=some (some (.ow (.dct D))))(hv:m6 D [.inl a,.inl b]=some p):a7L i ma ρ=some (.val p):=by
 unfold a7L
 rw [h3,AH,if_pos (by rw [sizeLine_eq];simp),show keysOf [.int a,.int b]=some [.inl a,.inl b] from rfl,AH,b1r h hv]
theorem a5I(ρ:a8):a9Q ρ=some (.ow (.dct [])):=Eq.trans rfl rfl
theorem T2(i:Nat)(ρ:a8)(c:M4):b3y i ρ (.ow c)=some (.nx (ρ.set i (some (.ow c)))):=Eq.trans rfl rfl
theorem a9R(c:M4)(ρ:a8):a6 0 (some (.ow c)::ρ)=some (.bo c):=Eq.trans rfl rfl
theorem a0g{body:MS}{tg:PV->a8->Option a8}{I:a8->Prop}{f:Nat->Option d7}{n:Nat}{ρ:a8}
 (sg:∀k<n,∀ρ,I ρ->f k=none->∃ρ1 ρ2,tg (.int (k:Nat)) ρ=some ρ1/\body ρ1=some (.nx ρ2)/\I ρ2)
 (sb:∀k<n,∀ρ,I ρ->∀r,f k=some r->∃ρ1,tg (.int (k:Nat)) ρ=some ρ1/\body ρ1=some (.rt r)) (h:I ρ):
 ((AW n).findSome? f=none/\∃ρ',w4 body tg (G4 0 n) ρ=some (.nx ρ')/\I ρ')\/(∃r,(AW n).findSome? f=some r/\w4 body tg (G4 0 n) ρ=some (.rt r)):=by
 rw [b4U]
 have go:∀(xs:List Nat) (ρ:a8),(∀k∈xs,k<n)->I ρ->
  (xs.findSome? f=none/\∃ρ',w4 body tg (xs.map fun k=> .int (k:Nat)) ρ=some (.nx ρ')/\I ρ')\/(∃r,xs.findSome? f=some r/\w4 body tg (xs.map fun k=> .int (k:Nat)) ρ=some (.rt r)):=by
  intro xs
  induction xs with
  |nil=>intro ρ _ h;exact .inl ⟨rfl,ρ,rfl,h⟩
  |cons k xs ih=>
   intro ρ hx h
   rw [List.findSome?_cons,AM]
   cases e:f k with
   |none=>
    obtain⟨ρ1,ρ2,h1,h2,h3⟩:=sg k (hx k Al) ρ h e
    have hf:w4 body tg (.int (k:Nat)::xs.map fun k=> .int (k:Nat)) ρ=w4 body tg (xs.map fun k=> .int (k:Nat)) ρ2:=by
     rw [w4,h1]
     show(body ρ1).bind _=_
     rw [h2];rfl
    rw [hf]
    exact ih ρ2 (fun j hj=>hx j (Ai _ hj)) h3
   |some r=>
    obtain⟨ρ1,h1,h2⟩:=sb k (hx k Al) ρ h r e
    refine .inr ⟨r,rfl, ?_⟩
    rw [w4,h1]
    show(body ρ1).bind _=_
    rw [h2];rfl
 exact go (AW n) ρ (fun k hk=>List.mem_range.mp hk) h
theorem a5w{body:MS}{tg:PV->a8->Option a8}{I:a8->Prop}{f:PV->Option d7}:∀{ps:List PV} {ρ:a8},
 (∀p∈ps,∀ρ,I ρ->f p=none->∃ρ1 ρ2,tg p ρ=some ρ1/\body ρ1=some (.nx ρ2)/\I ρ2)->
 (∀p∈ps,∀ρ,I ρ->∀r,f p=some r->∃ρ1,tg p ρ=some ρ1/\body ρ1=some (.rt r))->I ρ->
 (ps.findSome? f=none/\∃ρ',w4 body tg ps ρ=some (.nx ρ')/\I ρ')\/(∃r,ps.findSome? f=some r/\w4 body tg ps ρ=some (.rt r))
 |[],ρ,_,_,h=> .inl ⟨rfl,ρ,rfl,h⟩
 |k::xs,ρ,sg,sb,h=>by
  rw [List.findSome?_cons]
  cases e:f k with
  |none=>
   obtain⟨ρ1,ρ2,h1,h2,h3⟩:=sg k Al ρ h e
   have hf:w4 body tg (k::xs) ρ=w4 body tg xs ρ2:=by
    rw [w4,h1]
    show(body ρ1).bind _=_
    rw [h2];rfl
   rw [hf]
   exact a5w (fun q hq=>sg q (Ai _ hq)) (fun q hq=>sb q (Ai _ hq)) h3
  |some r=>
   obtain⟨ρ1,h1,h2⟩:=sb k Al ρ h r e
   refine .inr ⟨r,rfl, ?_⟩
   rw [w4,h1]
   show(body ρ1).bind _=_
   rw [h2];rfl
theorem a6y{α:Type}{ι f:α->PV}{q:α->Bool}{k:Nat}{it:MI}{c:MT}{elt:M}{tg:PV->a8->Option a8}{ρ:a8}(xs:List α)(h1:it ρ=some (xs.map ι))(h2:xs.length<=16777216)
 (h:∀x∈xs,∃ρ1,tg (ι x) (ρ++AV k none)=some ρ1/\c ρ1=some (q x)/\(q x=true->(elt ρ1).bind d7.toVal=some (f x))):a0I k it tg c elt ρ=some (.own ((xs.filter q).map f)):=by
 rw [a5G,h1,AH,if_pos (by rw [AU,sizeLine_eq];exact h2),a1t h,AH]
theorem a4W{body:MS}{tg:PV->a8->Option a8}{I:a8->Prop}{p:PV}{ρ ρ1 ρ2:a8}(h1:tg p ρ=some ρ1)(h2:body ρ1=some (.nx ρ2))(h3:I ρ2):∃ρ1 ρ2,tg p ρ=some ρ1/\body ρ1=some (.nx ρ2)/\I ρ2:=⟨ρ1,ρ2,h1,h2,h3⟩
theorem J9{c:MT}{body:MS}{I:Nat->a8->Prop}(s:∀m ρ,I m ρ->c ρ=some false\/(c ρ=some true/\∃ρ' m',body ρ=some (.nx ρ')/\m'<m/\I m' ρ')):∀(n m:Nat) (ρ:a8),m<n->I m ρ->∃ρ' m',B9 c body n ρ=some (.nx ρ')/\I m' ρ'/\c ρ'=some false
 |0,m,ρ,h,_=>by lia
 |n+1,m,ρ,h,hi=>by
  rcases s m ρ hi with hc|⟨hc,ρ',m',h1,h2,h3⟩
  ·refine⟨ρ,m, ?_,hi,hc⟩
   unfold B9
   rw [hc];rfl
  ·obtain⟨ρ2,m2,g1,g2,g3⟩:=J9 s n m' ρ' (by lia) h3
   refine⟨ρ2,m2, ?_,g2,g3⟩
   unfold B9
   rw [hc]
   show(body ρ).bind _=_
   rw [h1]
   exact g1
theorem a3O{α:Type}{q q':α->Bool}:∀{l:List α},(∀x∈l,q' x=true->q x=true)->(∃x∈l,q x=true/\q' x=false)->l.countP q'<l.countP q
 |[],_,⟨x,hx,_⟩=>by cases hx
 |a::l,h,⟨x,hx,h1,h2⟩=>by
  have le:l.countP q'<=l.countP q:=List.countP_mono_left fun x hx=>h x (Ai _ hx)
  rw [List.countP_cons,List.countP_cons]
  by_cases ha:q' a=true
  ·have ha2:=h a Al ha
   rw [if_pos ha,if_pos ha2]
   have hne:x≠a:=fun z=>by rw [z,ha] at h2;cases h2
   have hx':x∈l:=by
    rcases Ag.mp hx with z|z
    ·exact absurd z hne
    ·exact z
   have:=a3O (l:=l) (fun x hx=>h x (Ai _ hx)) ⟨x,hx',h1,h2⟩
   lia
  ·rw [if_neg ha]
   by_cases hxa:x=a
   ·subst hxa
    rw [if_pos h1];lia
   ·have hx':x∈l:=by
     rcases Ag.mp hx with z|z
     ·exact absurd z hxa
     ·exact z
    have:=a3O (l:=l) (fun x hx=>h x (Ai _ hx)) ⟨x,hx',h1,h2⟩
    split<;>lia
def a2t(n:Nat):List (Nat×Nat):=(AW n).flatMap fun r=>(AW n).map fun c=>(r,c)
theorem a8X{n:Nat}{r c:Nat}:(r,c)∈a2t n↔r<n/\c<n:=by
 unfold a2t
 simp [List.mem_flatMap,Aj,List.mem_range]
theorem a8R(n:Nat):(a2t n).length=n*n:=by
 unfold a2t
 rw [List.length_flatMap]
 have h:∀l:List Nat,(l.map fun _=>n).sum=l.length*n:=by
  intro l
  induction l with
  |nil=>simp
  |cons a l ih=>rw [AM,List.sum_cons,ih,AT,Nat.succ_mul,Nat.add_comm]
 simp only [AU,BD]
 rw [h,BD]
theorem a7x{ps:List PV}{n:Nat}(h:∀p∈ps,n4 p n=true):C1 ps n=true:=by
 induction ps with
 |nil=>rfl
 |cons p ps ih=>simp [C1,h p Al,ih fun q hq=>h q (Ai _ hq)]
theorem a9F{W:List PV}(h:∀p∈W,n4 p 49=true):gNe (.bo (.lst W)) (.ow (.lst []))=some (.val (.bool (!W.isEmpty))):=by
 rw [a2d (x:= .bo (.lst W)) (y:= .ow (.lst [])) ⟨by show n4 (.list W) 50=true;simp only [n4];exact a7x h,rfl⟩]
 show some (d7.val (.bool (!PyData.eqv (.list W) (.list []))))=_
 cases W with
 |nil=>simp [PyData.eqv,PyData.eqvAll]
 |cons a W=>simp [PyData.eqv,PyData.eqvAll]
theorem a3h(a b:List Nat):gNe (.val (row a)) (.val (row b))=some (.val (.bool (!(a==b)))):=by
 rw [a2d (x:= .val (row a)) (y:= .val (row b)) ⟨a1u a 50,a1u b 50⟩,a03,a03,a9D]
def b0q:List Str->Str->Option Nat
 |[],_=>none
 |k::ks,x=>if k=x then some 0 else(b0q ks x).map (· +1)
theorem a7K{x:Str}:∀{kk:List Str} {ps:List PV} {j:Nat} {p:PV},b0q kk x=some j->ps[j]?=some p->a0G kk ps x=some p
 |[],_,_,_,h,_=>by simp [b0q] at h
 |k::ks,[],j,_,_,h2=>by simp at h2
 |k::ks,q::ps,j,p,h,h2=>by
  unfold b0q at h
  unfold a0G
  by_cases c:k=x
  ·rw [if_pos c] at h;cases h
   rw [if_pos c];simpa using h2
  ·rw [if_neg c] at h
   rw [if_neg c]
   cases h3:b0q ks x with
   |none=>rw [h3] at h;cases h
   |some i=>
    rw [h3] at h;cases h
    exact a7K h3 (by simpa using h2)
end PU
set_option maxHeartbeats 4000000
namespace LW
open PySem PySem.Spec PyProof.Rows L2 PU
def a6X:PV:=(.tuple [(.str "stay"),(.str "turn"),(.str "half"),(.str "back"),(.str "side"),(.str "flip"),(.str "cross"),(.str "other")])
def z7:List (f8×PV):=[((.inr "stay"),(.tuple [(.int 1),(.int 0),(.int 0),(.int 1)])),((.inr "turn"),(.tuple [(.int 0),(.int 1),(.int (-1)),(.int 0)])),((.inr "half"),(.tuple [(.int (-1)),(.int 0),(.int 0),(.int (-1))])),((.inr "back"),(.tuple [(.int 0),(.int (-1)),(.int 1),(.int 0)])),((.inr "side"),(.tuple [(.int 1),(.int 0),(.int 0),(.int (-1))])),((.inr "flip"),(.tuple [(.int (-1)),(.int 0),(.int 0),(.int 1)])),((.inr "cross"),(.tuple [(.int 0),(.int 1),(.int 1),(.int 0)])),((.inr "other"),(.tuple [(.int 0),(.int (-1)),(.int (-1)),(.int 0)]))]
def a0q:PV:=(.tuple [(.int 1),(.int 2)])
def a1c:List (List f8×PV):=[([(.inl 1),(.inl 2)],(.str "stay")),([(.inl 2),(.inl (-1))],(.str "turn")),([(.inl (-1)),(.inl (-2))],(.str "half")),([(.inl (-2)),(.inl 1)],(.str "back")),([(.inl 1),(.inl (-2))],(.str "side")),([(.inl (-1)),(.inl 2)],(.str "flip")),([(.inl 2),(.inl 1)],(.str "cross")),([(.inl (-2)),(.inl (-1))],(.str "other"))]
def a2I:MS:=
 (z8 (a6z ["stay","turn","half","back","side","flip","cross","other"] (a5 (u9 (a5 (a6 1) (a5 (a6 2) c8))) (a5 (u9 (a5 (a6 2) (a5 (a3a (a6 1)) c8))) (a5 (u9 (a5 (a3a (a6 1)) (a5 (a3a (a6 2)) c8))) (a5 (u9 (a5 (a3a (a6 2)) (a5 (a6 1) c8))) (a5 (u9 (a5 (a6 1) (a5 (a3a (a6 2)) c8))) (a5 (u9 (a5 (a3a (a6 1)) (a5 (a6 2) c8))) (a5 (u9 (a5 (a6 2) (a5 (a6 1) c8))) (a5 (u9 (a5 (a3a (a6 2)) (a5 (a3a (a6 1)) c8))) c8)))))))) (a6 0)))
def v8:List PV->Option d7:=C5 0 a2I
def a2H:MS:=
 (a7P (b0H [3,4] (k0 v8 (a5 (m2 t6 (a6 1) (mC (.int 0))) (a5 (m2 t6 (a6 2) (mC (.int 0))) (a5 (m2 t6 (a6 2) (mC (.int 1))) c8)))))
 (z8 (u9 (a5 (m2 (gIc (fun _ j=>0<j) fun i j=> .int (i % j)) (m2 O7 (a6 3) (m2 t6 (a6 1) (mC (.int 1)))) (a6 0)) (a5 (m2 (gIc (fun _ j=>0<j) fun i j=> .int (i % j)) (m2 O7 (a6 4) (m2 t6 (a6 1) (mC (.int 2)))) (a6 0)) c8)))))
def A4:List PV->Option d7:=b24 2 a2H
def A8:MS:=
 (a5J 8 2 (k0 A4 (a5 (a6 0) (a5 (a6 7) (a5 (a6 6) c8)))) (u9 (a5 (a6 3) (a5 (a6 4) c8))) (z6 5 (a6 8))
 D8)
def G0:MS:=
 (j7 (a7O 6 5)
 (B7 (K8 (a6 1)) (f7 7) A8))
def A9:MS:=
 (U5 (S8 (a9N true 2 (u9 (a5 (a6 3) (a5 (a6 4) c8))))) (j7 (a9P 2 (a5 (a6 3) (a5 (a6 4) c8)) (u9 (a5 (a6 3) (a5 (a6 4) c8))))
 (j7 (p5 5 (M0 (a5 (u9 (a5 (a6 3) (a5 (a6 4) c8))) c8)))
 (B9 (S8 (m2 gNe (a6 5) (M0 c8))) G0 100))) D8)
def N6:MS:=
 (B7 (D9 (a5 (a6 0) c8)) (f7 4) A9)
def a2J:MS:=
 (j7 (p5 2 a9Q)
 (j7 (B7 (D9 (a5 (a6 0) c8)) (f7 3) N6)
 (S3 2)))
def P2:List PV->Option d7:=C5 7 a2J
def a2G:MS:=
 (z8 (m2 (gIc (fun _ j=>0<j) fun i j=> .int (i % j)) (m2 V9 (m2 O7 (m2 O7 (m2 (gIc (fun _ j=>0<j) fun i j=> .int (i % j)) (a6 0) (mC (.int 1000003))) (m2 V9 (a6 1) (a6 1))) (mC (.int 1))) (mC (.int 48271))) (mC (.int 2147483647))))
def A3:List PV->Option d7:=C5 0 a2G
def X4:MS:=
 (j7 (p5 2 (m2 t6 (M0 (a5 (mC (.str "stay")) (a5 (mC (.str "turn")) (a5 (mC (.str "half")) (a5 (mC (.str "back")) (a5 (mC (.str "side")) (a5 (mC (.str "flip")) (a5 (mC (.str "cross")) (a5 (mC (.str "other")) c8))))))))) (m2 (gIc (fun _ j=>0<j) fun i j=> .int (i % j)) (a6 1) (mC (.int 8)))))
 (z8 (u9 (a5 (a6 2) (a5 (m2 (gIc (fun _ j=>0<j) fun i j=> .int (i % j)) (m2 (gIc a62 fun i j=> .int (i / j)) (a6 1) (mC (.int 8))) (a6 0)) (a5 (m2 (gIc (fun _ j=>0<j) fun i j=> .int (i % j)) (m2 (gIc a62 fun i j=> .int (i / j)) (a6 1) (mC (.int 64))) (a6 0)) c8))))))
def F9:List PV->Option d7:=C5 1 X4
def a0y:MS:=
 (j7 (U5 (S8 (m2 a28 (a6 1) (m1 E8 (a6 0)))) (z8 (m2 t6 (a6 0) (a6 1))) D8)
 (z8 (mC (.int 0))))
def r6:List PV->Option d7:=C5 0 a0y
def K5:MS:=
 (z6 3 (k0 F9 (a5 (a6 2) (a5 (k0 A3 (a5 (k0 r6 (a5 (a6 0) (a5 (mC (.int 1)) c8))) (a5 (m2 O7 (mC (.int 3)) (a6 4)) c8))) c8))))
def C8:MS:=
 (j7 (p5 11 (a7L 5 (a5 (a6 8) (a5 (a6 10) c8))))
 (j7 (p5 12 (k0 A3 (a5 (k0 r6 (a5 (a6 0) (a5 (m2 O7 (m2 O7 (mC (.int 3)) (m2 V9 (m2 t6 (a6 11) (mC (.int 0))) (a6 2))) (m2 t6 (a6 11) (mC (.int 1)))) c8))) (a5 (m2 O7 (m2 O7 (mC (.int 11)) (m2 V9 (m2 t6 (a6 11) (mC (.int 0))) (a6 2))) (m2 t6 (a6 11) (mC (.int 1)))) c8))))
 (p5 9 (m2 O7 (a6 9) (m2 t6 (a6 6) (m2 (gIc (fun _ j=>0<j) fun i j=> .int (i % j)) (m2 (gIc a62 fun i j=> .int (i / j)) (a6 12) (mC (.int 16))) (m1 E8 (a6 6))))))))
def C9:MS:=
 (j7 (p5 9 (mC (.str "")))
 (j7 (B7 (D9 (a5 (a6 2) c8)) (f7 10) C8)
 (z6 7 (a6 9))))
def a1l:MS:=
 (j7 (p5 2 (m2 O7 (mC (.int 1)) (m2 (gIc (fun _ j=>0<j) fun i j=> .int (i % j)) (k0 A3 (a5 (k0 r6 (a5 (a6 0) (a5 (mC (.int 0)) c8))) (a5 (mC (.int 1)) c8))) (a6 1))))
 (j7 (p5 3 (M0 c8))
 (j7 (B7 (D9 (a5 (m2 t6 (M0 (a5 (mC (.int 0)) (a5 (mC (.int 1)) (a5 (mC (.int 1)) (a5 (mC (.int 2)) (a5 (mC (.int 2)) (a5 (mC (.int 3)) c8))))))) (m2 (gIc (fun _ j=>0<j) fun i j=> .int (i % j)) (k0 r6 (a5 (a6 0) (a5 (mC (.int 1)) c8))) (mC (.int 6)))) c8)) (f7 4) K5)
 (j7 (a4j 3 (p5 5 (k0 P2 (a5 (a6 2) (a5 (a6 3) c8)))))
 (j7 (p5 6 (m2 t6 (M0 (a5 (mC (.str "ab")) (a5 (mC (.str "abc")) (a5 (mC (.str "xy")) (a5 (mC (.str "qwe")) (a5 (mC (.str "za")) c8)))))) (m2 (gIc (fun _ j=>0<j) fun i j=> .int (i % j)) (k0 A3 (a5 (k0 r6 (a5 (a6 0) (a5 (mC (.int 2)) c8))) (a5 (mC (.int 2)) c8))) (mC (.int 5)))))
 (j7 (p5 7 (M0 c8))
 (j7 (B7 (D9 (a5 (a6 2) c8)) (f7 8) C9)
 (z8 (m1 a6o (a6 7))))))))))
def L6:List PV->Option d7:=C5 11 a1l
def a0Y:MS:=
 (z6 1 (u9 (a5 (a6 2) (a5 (a6 3) (a5 (a6 4) c8)))))
def a0Z:MS:=
 (B7 (D9 (a5 (a6 0) c8)) (f7 4) a0Y)
def N5:MS:=
 (B7 (D9 (a5 (a6 0) c8)) (f7 3) a0Z)
def V7:MS:=
 (j7 (p5 1 (M0 c8))
 (j7 (B7 (K8 (m1 a6n (mC a6X))) (f7 2) N5)
 (S3 1)))
def C7:List PV->Option d7:=C5 4 V7
def a8z:MS:=
 (j7 (U5 (S8 (m2 gEq (a6 0) (mC (.str "turn")))) (z8 (mC (.str "back"))) D8)
 (j7 (U5 (S8 (m2 gEq (a6 0) (mC (.str "back")))) (z8 (mC (.str "turn"))) D8)
 (S3 0)))
def a0X:List PV->Option d7:=C5 0 a8z
def a3H:MS:=
 (j7 (p5 2 (b6p z7 (a6 0)))
 (z8 (u9 (a5 (m2 O7 (m2 V9 (m2 t6 (a6 2) (mC (.int 0))) (m2 t6 (a6 1) (mC (.int 0)))) (m2 V9 (m2 t6 (a6 2) (mC (.int 1))) (m2 t6 (a6 1) (mC (.int 1))))) (a5 (m2 O7 (m2 V9 (m2 t6 (a6 2) (mC (.int 2))) (m2 t6 (a6 1) (mC (.int 0)))) (m2 V9 (m2 t6 (a6 2) (mC (.int 3))) (m2 t6 (a6 1) (mC (.int 1))))) c8)))))
def A5:List PV->Option d7:=C5 1 a3H
def a1n:MS:=
 (j7 (p5 2 (k0 a0X (a5 (m2 t6 (a6 1) (mC (.int 0))) c8)))
 (j7 (p5 3 (k0 A5 (a5 (a6 2) (a5 (u9 (a5 (a3a (m2 t6 (a6 1) (mC (.int 1)))) (a5 (a3a (m2 t6 (a6 1) (mC (.int 2)))) c8))) c8))))
 (z8 (u9 (a5 (a6 2) (a5 (m2 (gIc (fun _ j=>0<j) fun i j=> .int (i % j)) (m2 t6 (a6 3) (mC (.int 0))) (a6 0)) (a5 (m2 (gIc (fun _ j=>0<j) fun i j=> .int (i % j)) (m2 t6 (a6 3) (mC (.int 1))) (a6 0)) c8)))))))
def L7:List PV->Option d7:=C5 2 a1n
def b5m:MS:=
 (j7 (p5 3 (k0 A5 (a5 (m2 t6 (a6 1) (mC (.int 0))) (a5 (a6 2) c8))))
 (z8 (u9 (a5 (m2 (gIc (fun _ j=>0<j) fun i j=> .int (i % j)) (m2 O7 (m2 t6 (a6 3) (mC (.int 0))) (m2 t6 (a6 1) (mC (.int 1)))) (a6 0)) (a5 (m2 (gIc (fun _ j=>0<j) fun i j=> .int (i % j)) (m2 O7 (m2 t6 (a6 3) (mC (.int 1))) (m2 t6 (a6 1) (mC (.int 2)))) (a6 0)) c8)))))
def a5y:List PV->Option d7:=C5 1 b5m
def b1f:MS:=
 (j7 (p5 3 (m1 E8 (a6 0)))
 (z8 (m2 t6 (m2 t6 (a6 0) (m2 (gIc (fun _ j=>0<j) fun i j=> .int (i % j)) (a6 1) (a6 3))) (m2 (gIc (fun _ j=>0<j) fun i j=> .int (i % j)) (a6 2) (a6 3)))))
def a33:List PV->Option d7:=C5 1 b1f
def v0:MS:=
 (j7 (p5 6 (k0 a5y (a5 (a6 2) (a5 (a6 3) (a5 (u9 (a5 (a6 4) (a5 (a6 5) c8))) c8)))))
 (U5 (S8 (m2 gNe (k0 a33 (a5 (a6 0) (a5 (a6 4) (a5 (a6 5) c8)))) (k0 a33 (a5 (a6 0) (a5 (m2 t6 (a6 6) (mC (.int 0))) (a5 (m2 t6 (a6 6) (mC (.int 1))) c8)))))) (z8 (u9 (a5 (a6 4) (a5 (a6 5) c8)))) D8))
def G3:MS:=
 (B7 (D9 (a5 (a6 2) c8)) (f7 5) v0)
def a2K:MS:=
 (j7 (p5 2 (m1 E8 (a6 0)))
 (j7 (p5 3 (k0 L7 (a5 (a6 2) (a5 (a6 1) c8))))
 (j7 (B7 (D9 (a5 (a6 2) c8)) (f7 4) G3)
 (z8 (mC .none)))))
def D7:List PV->Option d7:=C5 5 a2K
def a7f:MS:=
 (z8 (m2 (a7D false) (k0 D7 (a5 (a6 0) (a5 (a6 1) c8))) (mC .none)))
def Y2:List PV->Option d7:=C5 0 a7f
def a1D:M:=
 (a6 1)
def a5j:MS:=
 (z8 (a0I 1 (P5 (k0 C7 (a5 (m1 E8 (a6 0)) c8))) (f7 1) (mtV (k0 Y2 (a5 (a6 0) (a5 (a6 1) c8)))) a1D))
def a0i:List PV->Option d7:=C5 0 a5j
def a3I:MS:=
 (z8 (b2o a1c (k0 A5 (a5 (a6 1) (a5 (k0 A5 (a5 (a6 0) (a5 (mC a0q) c8))) c8)))))
def U2:List PV->Option d7:=C5 0 a3I
def b1g:MS:=
 (j7 (p5 3 (k0 a5y (a5 (a6 0) (a5 (a6 2) (a5 (u9 (a5 (m2 t6 (a6 1) (mC (.int 1))) (a5 (m2 t6 (a6 1) (mC (.int 2))) c8))) c8)))))
 (z8 (u9 (a5 (k0 U2 (a5 (m2 t6 (a6 1) (mC (.int 0))) (a5 (m2 t6 (a6 2) (mC (.int 0))) c8))) (a5 (m2 t6 (a6 3) (mC (.int 0))) (a5 (m2 t6 (a6 3) (mC (.int 1))) c8))))))
def a2g:List PV->Option d7:=C5 1 b1g
def G1:MS:=
 (j7 (p5 6 (k0 a2g (a5 (a6 0) (a5 (m2 t6 (a6 3) (a6 4)) (a5 (a6 5) c8)))))
 (U5 (S8 (a1G true 2 (a6 6))) (j7 (a1H 2 (a6 6) (mC (.bool true)))
 (z6 3 (a6 6))) D8))
def L8:MS:=
 (j7 (B7 (K8 (a6 1)) (f7 5) G1)
 (b4g 4 (gI fun i j=> .int (i+j)) (mC (.int 1))))
def a5k:MS:=
 (j7 (p5 2 (a4i (u9 (a5 (mC (.str "stay")) (a5 (mC (.int 0)) (a5 (mC (.int 0)) c8)))) (mC (.bool true))))
 (j7 (p5 3 (M0 (a5 (u9 (a5 (mC (.str "stay")) (a5 (mC (.int 0)) (a5 (mC (.int 0)) c8)))) c8)))
 (j7 (p5 4 (mC (.int 0)))
 (j7 (B9 (S8 (m2 a28 (a6 4) (m1 E8 (a6 3)))) L8 1000)
 (S3 2)))))
def B5:List PV->Option d7:=C5 5 a5k
def P3:MS:=
 (U5 (S8 (a1G true 4 (a6 6))) (j7 (z6 2 (a6 5))
 (j7 (z6 3 (a6 6))
 (p5 4 (a2p B5 3 (a6 0))))) D8)
def a7g:MS:=
 (j7 (p5 2 (M0 c8))
 (j7 (p5 3 (M0 c8))
 (j7 (p5 4 (a2p B5 3 (a6 0)))
 (j7 (B7 (b2l (a5 (a6 1) c8)) (a94 [5,6]) P3)
 (S3 2)))))
def J5:List PV->Option d7:=C5 5 a7g
def J7:M:=
 (m2 t6 (a6 2) (a6 3))
def a7e:MS:=
 (j7 (p5 2 (m1 a31 (a6 1)))
 (a4j 2 (z8 (a0I 1 (P5 (k0 J5 (a5 (a6 0) (a5 (a6 2) c8)))) (f7 3) a4l J7))))
def a1z:List PV->Option d7:=C5 1 a7e
def G2:MS:=
 (j7 (p5 7 (k0 a2g (a5 (a6 0) (a5 (m2 t6 (a6 4) (a6 5)) (a5 (m2 t6 (a6 1) (a6 6)) c8)))))
 (U5 (S8 (a1G true 3 (a6 7))) (j7 (a1H 3 (a6 7) (m2 a7B (a3l 3 (m2 t6 (a6 4) (a6 5))) (M0 (a5 (a6 6) c8))))
 (z6 4 (a6 7))) D8))
def L9:MS:=
 (j7 (a4j 2 (B7 (K8 (a6 2)) (f7 6) G2))
 (b4g 5 (gI fun i j=> .int (i+j)) (mC (.int 1))))
def a5l:MS:=
 (j7 (p5 2 (k0 J5 (a5 (a6 0) (a5 (a6 1) c8))))
 (j7 (p5 3 (a4i (u9 (a5 (mC (.str "stay")) (a5 (mC (.int 0)) (a5 (mC (.int 0)) c8)))) (M0 c8)))
 (j7 (p5 4 (M0 (a5 (u9 (a5 (mC (.str "stay")) (a5 (mC (.int 0)) (a5 (mC (.int 0)) c8)))) c8)))
 (j7 (p5 5 (mC (.int 0)))
 (j7 (B9 (S8 (m2 a28 (a6 5) (m1 E8 (a6 4)))) L9 1000)
 (S3 3))))))
def a0j:List PV->Option d7:=C5 6 a5l
def a6u:MS:=
 (z6 1 (u9 (a5 (a6 2) (a5 (a6 3) (a5 (a6 4) c8)))))
def a6v:MS:=
 (B7 (D9 (a5 (a6 0) c8)) (f7 4) a6u)
def a1C:MS:=
 (B7 (D9 (a5 (a6 0) c8)) (f7 3) a6v)
def a5i:MS:=
 (j7 (p5 1 (M0 c8))
 (j7 (B7 (K8 (u9 (a5 (mC (.str "back")) (a5 (mC (.str "cross")) (a5 (mC (.str "flip")) (a5 (mC (.str "half")) (a5 (mC (.str "other")) (a5 (mC (.str "side")) (a5 (mC (.str "stay")) (a5 (mC (.str "turn")) c8)))))))))) (f7 2) a1C)
 (S3 1)))
def a0h:List PV->Option d7:=C5 4 a5i
def y4:MS:=
 (j7 (b0H [5,6] (k0 A4 (a5 (a6 2) (a5 (a6 1) (a5 (u9 (a5 (a6 3) (a5 (a6 4) c8))) c8)))))
 (U5 (S8 (m2 gNe (m2 t6 (m2 t6 (a6 0) (a6 5)) (a6 6)) (m2 t6 (m2 t6 (a6 0) (a6 3)) (a6 4)))) (z8 (mC (.bool false))) D8))
def G7:MS:=
 (B7 (D9 (a5 (a6 2) c8)) (f7 4) y4)
def a3G:MS:=
 (j7 (p5 2 (m1 E8 (a6 0)))
 (j7 (B7 (D9 (a5 (a6 2) c8)) (f7 3) G7)
 (z8 (mC (.bool true)))))
def N3:List PV->Option d7:=C5 5 a3G
def x9:MS:=
 (U5 (S8 (m2 gEq (k0 v8 (a5 (a6 4) (a5 (mC (.int 1)) (a5 (mC (.int 2)) c8)))) (a6 3))) (j7 (b0H [5,6] (k0 A4 (a5 (a6 0) (a5 (a6 2) (a5 (u9 (a5 (m2 t6 (a6 1) (mC (.int 1))) (a5 (m2 t6 (a6 1) (mC (.int 2))) c8))) c8)))))
 (z8 (u9 (a5 (a6 4) (a5 (a6 5) (a5 (a6 6) c8)))))) D8)
def a1k:MS:=
 (j7 (p5 3 (k0 v8 (a5 (m2 t6 (a6 1) (mC (.int 0))) (a5 (mC (.int 1)) (a5 (mC (.int 2)) c8)))))
 (j7 (p5 3 (k0 v8 (a5 (m2 t6 (a6 2) (mC (.int 0))) (a5 (m2 t6 (a6 3) (mC (.int 0))) (a5 (m2 t6 (a6 3) (mC (.int 1))) c8)))))
 (j7 (B7 (K8 (u9 (a5 (mC (.str "back")) (a5 (mC (.str "cross")) (a5 (mC (.str "flip")) (a5 (mC (.str "half")) (a5 (mC (.str "other")) (a5 (mC (.str "side")) (a5 (mC (.str "stay")) (a5 (mC (.str "turn")) c8)))))))))) (f7 4) x9)
 (z8 (mC .none)))))
def F8:List PV->Option d7:=C5 4 a1k
def C2:MS:=
 (j7 (p5 6 (k0 F8 (a5 (a6 0) (a5 (a6 4) (a5 (a6 5) c8)))))
 (U5 (S8 (a1G true 2 (a6 6))) (j7 (a1H 2 (a6 6) (mC (.bool true)))
 (z6 3 (a6 6))) D8))
def G6:MS:=
 (j7 (a7O 4 3)
 (B7 (K8 (a6 1)) (f7 5) C2))
def a3F:MS:=
 (j7 (p5 2 (a4i (u9 (a5 (mC (.str "stay")) (a5 (mC (.int 0)) (a5 (mC (.int 0)) c8)))) (mC (.bool true))))
 (j7 (p5 3 (M0 (a5 (u9 (a5 (mC (.str "stay")) (a5 (mC (.int 0)) (a5 (mC (.int 0)) c8)))) c8)))
 (j7 (B9 (S8 (m2 gNe (a6 3) (M0 c8))) G6 2000)
 (z8 (m1 Y1 (a6 2))))))
def U1:List PV->Option d7:=C5 5 a3F
def K6:MS:=
 (a8U 3 (k0 A4 (a5 (a6 2) (a5 (a6 1) (a5 (u9 (a5 (a6 4) (a5 (a6 5) c8))) c8)))) (m2 t6 (m2 t6 (a6 0) (a6 4)) (a6 5)))
def K7:MS:=
 (B7 (D9 (a5 (a6 2) c8)) (f7 5) K6)
def a1m:MS:=
 (j7 (p5 2 (m1 E8 (a6 0)))
 (j7 (p5 3 a9Q)
 (j7 (B7 (D9 (a5 (a6 2) c8)) (f7 4) K7)
 (S3 3))))
def B4:List PV->Option d7:=C5 4 a1m
def Y4:MS:=
 (p5 7 (k0 F8 (a5 (a6 2) (a5 (a6 7) (a5 (m2 t6 (a6 4) (a6 8)) c8)))))
def a4b:MS:=
 (j7 (p5 7 (u9 (a5 (mC (.str "stay")) (a5 (mC (.int 0)) (a5 (mC (.int 0)) c8)))))
 (j7 (B7 (K8 (a3l 5 (a6 6))) (f7 8) Y4)
 (U5 (S8 (m2 gNe (a6 7) (a6 6))) (z8 (mC (.bool false))) D8)))
def a4c:MS:=
 (U5 (b2t (S8 (m2 (a2c true) (m2 t6 (a6 4) (a6 9)) (a6 3))) (S8 (m2 (a2c false) (m2 t6 (a6 4) (a6 9)) (k0 U1 (a5 (a6 2) (a5 (a8W (a6 4) a8Y (a8Z (a6 9))) c8)))))) (z8 (mC (.bool false))) D8)
def a1B:MS:=
 (j7 (p5 10 (k0 N3 (a5 (a6 1) (a5 (a6 6) c8))))
 (j7 (p5 8 (k0 D7 (a5 (a6 1) (a5 (a6 6) c8))))
 (j7 (U5 (b2t (S8 (m2 gNe (a6 10) (a1G false 5 (a6 6)))) (S8 (m2 gNe (a6 10) (m2 (a7D false) (a6 8) (mC .none))))) (z8 (mC (.bool false))) D8)
 (U5 (S8 (m2 (a7D true) (a6 8) (mC .none))) (j7 (b0H [11,12] (a6 8))
 (U5 (S8 (m2 gEq (a9O (k0 B4 (a5 (a6 1) (a5 (a6 6) c8))) (a5 (a6 11) (a5 (a6 12) c8))) (m2 t6 (m2 t6 (a6 1) (a6 11)) (a6 12)))) (z8 (mC (.bool false))) D8)) D8))))
def b5l:MS:=
 (j7 (p5 1 (k0 L6 (a5 (a6 0) (a5 (mC (.int 5)) c8))))
 (j7 (p5 2 (m1 E8 (a6 1)))
 (j7 (p5 3 (k0 a0i (a5 (a6 1) c8)))
 (j7 (p5 4 (k0 a1z (a5 (a6 2) (a5 (m1 a3Z (a6 3)) c8))))
 (j7 (p5 5 (k0 a0j (a5 (a6 2) (a5 (m1 a3Z (a6 4)) c8))))
 (j7 (U5 (b2t (S8 (m2 (gI fun i j=> .bool (decide (j<i))) (m1 E8 (a6 4)) (mC (.int 9)))) (S8 (m2 gNe (m1 Y1 (a6 5)) (a6 3)))) (z8 (mC (.bool false))) D8)
 (j7 (a4j 3 (B7 (K8 (a6 3)) (f7 6) a4b))
 (j7 (B7 (D9 (a5 (m1 E8 (a6 4)) c8)) (f7 9) a4c)
 (j7 (B7 (K8 (k0 a0h (a5 (a6 2) c8))) (f7 6) a1B)
 (z8 (mC (.bool true))))))))))))
def b11:List PV->Option d7:=C5 12 b5l
end LW
set_option maxHeartbeats 1000000
namespace LW
open PySem PySem.Spec PyProof.Rows L2 PU
def k6:List Str:=[AI "stay",AI "turn",AI "half",AI "back",AI "side",AI "flip",AI "cross",AI "other"]
abbrev b8D:List PV:=[.str (AI "stay"),.str (AI "turn"),.str (AI "half"),.str (AI "back"),.str (AI "side"),.str (AI "flip"),.str (AI "cross"),.str (AI "other")]
def i6(w:Str)(a b:Int):Int:=if w=AI "stay" then a else if w=AI "turn" then b else if w=AI "half" then -a else if w=AI "back" then -b else if w=AI "side" then a else if w=AI "flip" then -a else if w=AI "cross" then b else -b
def i5(w:Str)(a b:Int):Int:=if w=AI "stay" then b else if w=AI "turn" then -a else if w=AI "half" then -b else if w=AI "back" then a else if w=AI "side" then -b else if w=AI "flip" then b else if w=AI "cross" then a else -a
theorem v5{w:Str}(h:w∈k6):w=AI "stay"\/w=AI "turn"\/w=AI "half"\/w=AI "back"\/w=AI "side"\/w=AI "flip"\/w=AI "cross"\/w=AI "other":=by
 simpa [k6] using h
theorem b8d:z3 z7 (.inr (AI "stay"))=some (.tuple [.int 1,.int 0,.int 0,.int 1]):=by kernel_rfl
theorem b8e:z3 z7 (.inr (AI "turn"))=some (.tuple [.int 0,.int 1,.int (-1),.int 0]):=by kernel_rfl
theorem b8f:z3 z7 (.inr (AI "half"))=some (.tuple [.int (-1),.int 0,.int 0,.int (-1)]):=by kernel_rfl
theorem b8g:z3 z7 (.inr (AI "back"))=some (.tuple [.int 0,.int (-1),.int 1,.int 0]):=by kernel_rfl
theorem b8h:z3 z7 (.inr (AI "side"))=some (.tuple [.int 1,.int 0,.int 0,.int (-1)]):=by kernel_rfl
theorem b8i:z3 z7 (.inr (AI "flip"))=some (.tuple [.int (-1),.int 0,.int 0,.int 1]):=by kernel_rfl
theorem b8j:z3 z7 (.inr (AI "cross"))=some (.tuple [.int 0,.int 1,.int 1,.int 0]):=by kernel_rfl
theorem b8k:z3 z7 (.inr (AI "other"))=some (.tuple [.int 0,.int (-1),.int (-1),.int 0]):=by kernel_rfl
theorem P7{w:Str}(hw:w∈k6)(a b:Int):A5 [.str w,.tuple [.int a,.int b]]=some (.val (.tuple [.int (i6 w a b),.int (i5 w a b)])):=by
 have key:∀x y z t r c:Int,z3 z7 (.inr w)=some (.tuple [.int x,.int y,.int z,.int t])->(-2<x/\x<2)->(-2<y/\y<2)->(-2<z/\z<2)->(-2<t/\t<2)->x*a+y*b=r->z*a+t*b=c->
  A5 [.str w,.tuple [.int a,.int b]]=some (.val (.tuple [.int r,.int c])):=by
  intro x y z t r c h hx hy hz ht e1 e2
  subst e1 e2
  unfold A5 a3H
  simp (disch:=omega) only [N2,a6k,E7,A2,R9,b1U,k9,l9,c9,d8,b9,a9,b0,l0,g8,n6,m5,x4,f6,g0,j8,m9,b2p,b64,AH,BF,AM,Ad,Ac,Af,Ao,Ak,AR,AS,AT,Aa,↓reduceIte,sz,Nat.reduceAdd,Ah,h]
 rcases v5 hw with rfl|rfl|rfl|rfl|rfl|rfl|rfl|rfl
 ·exact key _ _ _ _ _ _ b8d (by decide) (by decide) (by decide) (by decide) (by show _=a;lia) (by show _=b;lia)
 ·exact key _ _ _ _ _ _ b8e (by decide) (by decide) (by decide) (by decide) (by show _=b;lia) (by show _= -a;lia)
 ·exact key _ _ _ _ _ _ b8f (by decide) (by decide) (by decide) (by decide) (by show _= -a;lia) (by show _= -b;lia)
 ·exact key _ _ _ _ _ _ b8g (by decide) (by decide) (by decide) (by decide) (by show _= -b;lia) (by show _=a;lia)
 ·exact key _ _ _ _ _ _ b8h (by decide) (by decide) (by decide) (by decide) (by show _=a;lia) (by show _= -b;lia)
 ·exact key _ _ _ _ _ _ b8i (by decide) (by decide) (by decide) (by decide) (by show _= -a;lia) (by show _=b;lia)
 ·exact key _ _ _ _ _ _ b8j (by decide) (by decide) (by decide) (by decide) (by show _=b;lia) (by show _=a;lia)
 ·exact key _ _ _ _ _ _ b8k (by decide) (by decide) (by decide) (by decide) (by show _= -b;lia) (by show _= -a;lia)
theorem b2h{w:Str}(hw:w∈k6){s:Int}(hs:0<s)(d r a b:Int):a5y [.int s,.tuple [.str w,.int d,.int r],.tuple [.int a,.int b]]=some (.val (.tuple [.int ((i6 w a b+d) % s),.int ((i5 w a b+r) % s)])):=by
 unfold a5y b5m
 simp (disch:=omega) only [N2,E9,E7,A2,R9,k9,l9,c9,d8,b9,a9,b0,l0,f9,g8,n6,m5,x4,f6,g0,j8,m9,AH,AM,Ad,Ac,Af,Ao,Ak,AR,AS,AT,Aa,↓reduceIte,sz,Nat.reduceAdd,Ah,P7 hw a b]
abbrev T3(w:Str)(d r:Int):PV:= .tuple [.str w,.int d,.int r]
theorem a1P{w:Str}(hw:w∈k6)(a b x y:Int):i6 w (a+x) (b+y)=i6 w a b+i6 w x y:=by
 rcases v5 hw with rfl|rfl|rfl|rfl|rfl|rfl|rfl|rfl
 ·show a+x=a+x;rfl
 ·show b+y=b+y;rfl
 ·show -(a+x)= -a+ -x;lia
 ·show -(b+y)= -b+ -y;lia
 ·show a+x=a+x;rfl
 ·show -(a+x)= -a+ -x;lia
 ·show b+y=b+y;rfl
 ·show -(b+y)= -b+ -y;lia
theorem a1r{w:Str}(hw:w∈k6)(a b x y:Int):i5 w (a+x) (b+y)=i5 w a b+i5 w x y:=by
 rcases v5 hw with rfl|rfl|rfl|rfl|rfl|rfl|rfl|rfl
 ·show b+y=b+y;rfl
 ·show -(a+x)= -a+ -x;lia
 ·show -(b+y)= -b+ -y;lia
 ·show a+x=a+x;rfl
 ·show -(b+y)= -b+ -y;lia
 ·show b+y=b+y;rfl
 ·show a+x=a+x;rfl
 ·show -(a+x)= -a+ -x;lia
theorem b21{w:Str}(hw:w∈k6)(s x y:Int):∃k,i6 w (s*x) (s*y)=s*k:=by
 rcases v5 hw with rfl|rfl|rfl|rfl|rfl|rfl|rfl|rfl
 ·exact⟨x,rfl⟩
 ·exact⟨y,rfl⟩
 ·exact⟨-x,by show -(s*x)=s* -x;rw [Int.mul_neg]⟩
 ·exact⟨-y,by show -(s*y)=s* -y;rw [Int.mul_neg]⟩
 ·exact⟨x,rfl⟩
 ·exact⟨-x,by show -(s*x)=s* -x;rw [Int.mul_neg]⟩
 ·exact⟨y,rfl⟩
 ·exact⟨-y,by show -(s*y)=s* -y;rw [Int.mul_neg]⟩
theorem b1i{w:Str}(hw:w∈k6)(s x y:Int):∃k,i5 w (s*x) (s*y)=s*k:=by
 rcases v5 hw with rfl|rfl|rfl|rfl|rfl|rfl|rfl|rfl
 ·exact⟨y,rfl⟩
 ·exact⟨-x,by show -(s*x)=s* -x;rw [Int.mul_neg]⟩
 ·exact⟨-y,by show -(s*y)=s* -y;rw [Int.mul_neg]⟩
 ·exact⟨x,rfl⟩
 ·exact⟨-y,by show -(s*y)=s* -y;rw [Int.mul_neg]⟩
 ·exact⟨y,rfl⟩
 ·exact⟨x,rfl⟩
 ·exact⟨-x,by show -(s*x)=s* -x;rw [Int.mul_neg]⟩
theorem a7R(x s k d:Int):(x+s*k+d) % s=(x+d) % s:=by
 rw [Int.add_right_comm,Int.add_mul_emod_self_left]
theorem a6A(x s:Int):x % s=x+s*(-(x / s)):=by
 have:=Int.emod_add_mul_ediv x s
 rw [Int.mul_neg]
 lia
theorem a1Q{w:Str}(hw:w∈k6)(s x y e:Int):(i6 w (x % s) (y % s)+e) % s=(i6 w x y+e) % s:=by
 rw [a6A x s,a6A y s,a1P hw]
 obtain⟨k,hk⟩:=b21 hw s (-(x / s)) (-(y / s))
 rw [hk,a7R]
theorem a1s{w:Str}(hw:w∈k6)(s x y e:Int):(i5 w (x % s) (y % s)+e) % s=(i5 w x y+e) % s:=by
 rw [a6A x s,a6A y s,a1r hw]
 obtain⟨k,hk⟩:=b1i hw s (-(x / s)) (-(y / s))
 rw [hk,a7R]
def mat(w:Str):Int×Int×Int×Int:=(i6 w 1 0,i6 w 0 1,i5 w 1 0,i5 w 0 1)
theorem a3p{w:Str}(hw:w∈k6)(a b:Int):i6 w a b=(mat w).1*a+(mat w).2.1*b:=by
 rcases v5 hw with rfl|rfl|rfl|rfl|rfl|rfl|rfl|rfl
 ·show a=1*a+0*b;lia
 ·show b=0*a+1*b;lia
 ·show -a=(-1)*a+ -0*b;lia
 ·show -b= -0*a+(-1)*b;lia
 ·show a=1*a+0*b;lia
 ·show -a=(-1)*a+ -0*b;lia
 ·show b=0*a+1*b;lia
 ·show -b= -0*a+(-1)*b;lia
theorem a3d{w:Str}(hw:w∈k6)(a b:Int):i5 w a b=(mat w).2.2.1*a+(mat w).2.2.2*b:=by
 rcases v5 hw with rfl|rfl|rfl|rfl|rfl|rfl|rfl|rfl
 ·show b=0*a+1*b;lia
 ·show -a=(-1)*a+ -0*b;lia
 ·show -b= -0*a+(-1)*b;lia
 ·show a=1*a+0*b;lia
 ·show -b= -0*a+(-1)*b;lia
 ·show b=0*a+1*b;lia
 ·show a=1*a+0*b;lia
 ·show -a=(-1)*a+ -0*b;lia
def o0(a b:Str):Str:=match z3 a1c [.inl (i6 b (i6 a 1 2) (i5 a 1 2)),.inl (i5 b (i6 a 1 2) (i5 a 1 2))] with
 |some (.str w)=>w
 |_=>AI ""
def W7(w:Str):Str:=if w=AI "turn" then AI "back" else if w=AI "back" then AI "turn" else w
def a3N(a b:Str):Bool:=decide (o0 a b∈k6)&& decide ((mat (o0 a b)).1=(mat b).1*(mat a).1+(mat b).2.1*(mat a).2.2.1)&& decide ((mat (o0 a b)).2.1=(mat b).1*(mat a).2.1+(mat b).2.1*(mat a).2.2.2)&&
 decide ((mat (o0 a b)).2.2.1=(mat b).2.2.1*(mat a).1+(mat b).2.2.2*(mat a).2.2.1)&& decide ((mat (o0 a b)).2.2.2=(mat b).2.2.1*(mat a).2.1+(mat b).2.2.2*(mat a).2.2.2)
theorem a8C:(k6.all fun a=>k6.all fun b=>a3N a b)=true:=by decide+kernel
theorem a14{a b:Str}(ha:a∈k6)(hb:b∈k6):a3N a b=true:=List.all_eq_true.mp (List.all_eq_true.mp a8C a ha) b hb
theorem b1m{a b:Str}(ha:a∈k6)(hb:b∈k6):o0 a b∈k6:=by
 have h:=a14 ha hb
 simp only [a3N,Bool.and_eq_true,decide_eq_true_eq] at h
 exact h.1.1.1.1
theorem alg(p q s t u v x y:Int):(p*s+q*u)*x+(p*t+q*v)*y=p*(s*x+t*y)+q*(u*x+v*y):=by
 simp only [Int.add_mul,Int.mul_add,Int.mul_assoc]
 lia
theorem a8a{a b:Str}(ha:a∈k6)(hb:b∈k6)(x y:Int):i6 (o0 a b) x y=i6 b (i6 a x y) (i5 a x y):=by
 have h:=a14 ha hb
 simp only [a3N,Bool.and_eq_true,decide_eq_true_eq] at h
 rw [a3p h.1.1.1.1,a3p hb,a3p ha,a3d ha,h.1.1.1.2,h.1.1.2,alg]
theorem a7j{a b:Str}(ha:a∈k6)(hb:b∈k6)(x y:Int):i5 (o0 a b) x y=i5 b (i6 a x y) (i5 a x y):=by
 have h:=a14 ha hb
 simp only [a3N,Bool.and_eq_true,decide_eq_true_eq] at h
 rw [a3d h.1.1.1.1,a3d hb,a3p ha,a3d ha,h.1.2,h.2,alg]
theorem b0g:(k6.all fun a=>k6.all fun b=>k6.all fun c=>decide (o0 (o0 a b) c=o0 a (o0 b c)))=true:=by decide+kernel
theorem a8D{a b c:Str}(ha:a∈k6)(hb:b∈k6)(hc:c∈k6):o0 (o0 a b) c=o0 a (o0 b c):=
 of_decide_eq_true (List.all_eq_true.mp (List.all_eq_true.mp (List.all_eq_true.mp b0g a ha) b hb) c hc)
theorem b2e(x y:Int):keysOf [.int x,.int y]=some [.inl x,.inl y]:=rfl
theorem a8n{a b:Str}(ha:a∈k6)(hb:b∈k6):U2 [.str a,.str b]=some (.val (.str (o0 a b))):=by
 have hl:z3 a1c [.inl (i6 b (i6 a 1 2) (i5 a 1 2)),.inl (i5 b (i6 a 1 2) (i5 a 1 2))]=some (.str (o0 a b)):=by
  rcases v5 ha with rfl|rfl|rfl|rfl|rfl|rfl|rfl|rfl<;>rcases v5 hb with rfl|rfl|rfl|rfl|rfl|rfl|rfl|rfl<;>kernel_rfl
 unfold U2 a3I
 simp (disch:=omega) only [l9,c9,d8,b9,a9,b0,f9,m5,x4,j8,m9,b0G,b49,AH,BF,AM,Ad,Af,Am,show a0q= .tuple [.int 1,.int 2] from rfl,P7 ha,P7 hb,b2e,hl]
theorem b5b{a b:Str}(ha:a∈k6)(hb:b∈k6){s:Int}(hs:0<s)(d r e t:Int):a2g [.int s,T3 a d r,T3 b e t]=some (.val (T3 (o0 a b) ((i6 b d r+e) % s) ((i5 b d r+t) % s))):=by
 unfold a2g b1g
 simp (disch:=omega) only [E7,A2,R9,k9,l9,c9,d8,b9,a9,b0,l0,f9,g8,n6,m5,x4,f6,g0,j8,m9,AH,AM,Ad,Ac,Af,Ao,Ak,AR,AS,AT,Aa,↓reduceIte,sz,Nat.reduceAdd,Ah,b2h hb hs,a8n ha hb]
theorem a8m{a:Str}(ha:a∈k6):a0X [.str a]=some (.val (.str (W7 a))):=by
 rcases v5 ha with rfl|rfl|rfl|rfl|rfl|rfl|rfl|rfl<;>kernel_rfl
theorem b22(x y:Int):i6 (AI "stay") x y=x:=rfl
theorem b1j(x y:Int):i5 (AI "stay") x y=y:=rfl
theorem b5V:(k6.all fun a=>decide (W7 a∈k6)&& decide (W7 (W7 a)=a))=true:=by decide+kernel
theorem a7h{a:Str}(ha:a∈k6):W7 a∈k6/\W7 (W7 a)=a:=by
 have h:=List.all_eq_true.mp b5V a ha
 simp only [Bool.and_eq_true,decide_eq_true_eq] at h
 exact h
theorem a8A{w:Str}(hw:w∈k6)(x y:Int):i6 (W7 w) (i6 w x y) (i5 w x y)=x/\i5 (W7 w) (i6 w x y) (i5 w x y)=y:=by
 rcases v5 hw with rfl|rfl|rfl|rfl|rfl|rfl|rfl|rfl
 ·exact⟨by show x=x;rfl,by show y=y;rfl⟩
 ·exact⟨by show - -x=x;lia,by show y=y;rfl⟩
 ·exact⟨by show - -x=x;lia,by show - -y=y;lia⟩
 ·exact⟨by show x=x;rfl,by show - -y=y;lia⟩
 ·exact⟨by show x=x;rfl,by show - -y=y;lia⟩
 ·exact⟨by show - -x=x;lia,by show y=y;rfl⟩
 ·exact⟨by show x=x;rfl,by show y=y;rfl⟩
 ·exact⟨by show - -x=x;lia,by show - -y=y;lia⟩
def lr(s:Int)(w:Str)(d t a b:Int):Int:=(i6 w a b+d) % s
def lc(s:Int)(w:Str)(d t a b:Int):Int:=(i5 w a b+t) % s
def bd(n:Int)(w:Str)(d t:Int):Int:=i6 (W7 w) (-d) (-t) % n
def bt(n:Int)(w:Str)(d t:Int):Int:=i5 (W7 w) (-d) (-t) % n
theorem a1E{n:Int}(hn:0<n)(w:Str)(d t a b:Int):(0<=lr n w d t a b/\lr n w d t a b<n)/\0<=lc n w d t a b/\lc n w d t a b<n:=
 ⟨⟨Int.emod_nonneg _ (by lia),Int.emod_lt_of_pos _ (by lia)⟩,Int.emod_nonneg _ (by lia),Int.emod_lt_of_pos _ (by lia)⟩
theorem b23{w:Str}(hw:w∈k6)(x y d t:Int):i6 w x y+i6 w (-d) (-t)=i6 w (x - d) (y - t):=by
 rw [<-a1P hw];congr 1
theorem b1k{w:Str}(hw:w∈k6)(x y d t:Int):i5 w x y+i5 w (-d) (-t)=i5 w (x - d) (y - t):=by
 rw [<-a1r hw];congr 1
theorem a3J{n:Int}(hn:0<n){w:Str}(hw:w∈k6)(d t:Int){a b:Int}(ha:0<=a/\a<n)(hb:0<=b/\b<n):
 lr n (W7 w) (bd n w d t) (bt n w d t) (lr n w d t a b) (lc n w d t a b)=a/\lc n (W7 w) (bd n w d t) (bt n w d t) (lr n w d t a b) (lc n w d t a b)=b:=by
 have h1:=(a7h hw).1
 unfold lr lc bd bt
 constructor
 ·rw [Int.add_emod_emod,a1Q h1,b23 h1,Int.add_sub_cancel,Int.add_sub_cancel,(a8A hw a b).1,Int.emod_eq_of_lt ha.1 ha.2]
 ·rw [Int.add_emod_emod,a1s h1,b1k h1,Int.add_sub_cancel,Int.add_sub_cancel,(a8A hw a b).2,Int.emod_eq_of_lt hb.1 hb.2]
theorem a6Y{w:Str}(hw:w∈k6)(x y:Int):i6 w (i6 (W7 w) x y) (i5 (W7 w) x y)=x/\i5 w (i6 (W7 w) x y) (i5 (W7 w) x y)=y:=by
 obtain⟨h1,h2⟩:=a7h hw
 have:=a8A h1 x y
 rw [h2] at this
 exact this
theorem b2g{n:Int}(hn:0<n){w:Str}(hw:w∈k6)(d t:Int){a b:Int}(ha:0<=a/\a<n)(hb:0<=b/\b<n):
 lr n w d t (lr n (W7 w) (bd n w d t) (bt n w d t) a b) (lc n (W7 w) (bd n w d t) (bt n w d t) a b)=a/\lc n w d t (lr n (W7 w) (bd n w d t) (bt n w d t) a b) (lc n (W7 w) (bd n w d t) (bt n w d t) a b)=b:=by
 have h1:=(a7h hw).1
 have e1:∀x y e:Int,(i6 w ((x+bd n w d t) % n) ((y+bt n w d t) % n)+e) % n=(i6 w x y+ - d+e) % n:=fun x y e=>by
  rw [a1Q hw,a1P hw,Int.add_assoc,<-Int.add_emod_emod,show(i6 w (bd n w d t) (bt n w d t)+e) % n=(-d+e) % n from ?_,Int.add_emod_emod,Int.add_assoc]
  unfold bd bt
  rw [a1Q hw,(a6Y hw _ _).1]
 have e2:∀x y e:Int,(i5 w ((x+bd n w d t) % n) ((y+bt n w d t) % n)+e) % n=(i5 w x y+ - t+e) % n:=fun x y e=>by
  rw [a1s hw,a1r hw,Int.add_assoc,<-Int.add_emod_emod,show(i5 w (bd n w d t) (bt n w d t)+e) % n=(-t+e) % n from ?_,Int.add_emod_emod,Int.add_assoc]
  unfold bd bt
  rw [a1s hw,(a6Y hw _ _).2]
 unfold lr lc
 rw [e1,e2,(a6Y hw _ _).1,(a6Y hw _ _).2,Int.add_assoc,Int.add_assoc,Int.add_left_neg,Int.add_left_neg,Int.add_zero,Int.add_zero,Int.emod_eq_of_lt ha.1 ha.2,Int.emod_eq_of_lt hb.1 hb.2]
 exact⟨rfl,rfl⟩
def t0(n:Nat)(f:Nat->Nat->Nat):PV:=b5n ((AW n).map fun r=>(AW n).map fun c=>f r c)
theorem J0(n:Nat)(f:Nat->Nat->Nat):E8 (.val (t0 n f))=some (.val (.int n)):=by
 show E8 (.val (.tuple _))=_
 rw [b1V,AU,AU,BD]
theorem T4{n:Nat}{f:Nat->Nat->Nat}{i:Int}(h0:0<=i)(h1:i<n):t6 (.val (t0 n f)) (.val (.int i))=some (.val (row ((AW n).map fun c=>f i.toNat c))):=by
 refine a1y ?_
 rw [a3E h0,Aq,Aq,List.getElem?_range (by lia)]
 rfl
theorem a04{n:Nat}{g:Nat->Nat}{j:Int}(h0:0<=j)(h1:j<n)(hn:n<=16777216):t6 (.val (row ((AW n).map g))) (.val (.int j))=some (.val (row [g j.toNat])):=by
 refine b5u (by rw [AU,BD];exact hn) ?_
 rw [a3E h0,Aq,List.getElem?_range (by lia)]
 rfl
theorem tn(k:Nat):((k:Nat):Int).toNat=k:=by lia
theorem a9J{w:Str}(hw:w∈k6){s:Int}(hs:0<s)(d r a b:Int):a5y [.int s,.tuple [.str w,.int d,.int r],.tuple [.int a,.int b]]=some (.val (.tuple [.int (lr s w d r a b),.int (lc s w d r a b)])):=b2h hw hs d r a b
theorem b3h{a:Str}(ha:a∈k6){s:Int}(hs:0<s)(d r:Int):L7 [.int s,T3 a d r]=some (.val (T3 (W7 a) (bd s a d r) (bt s a d r))):=by
 unfold L7 a1n bd bt
 simp (disch:=omega) only [E9,E7,A2,R9,k9,l9,c9,d8,b9,a9,b0,l0,f9,g8,n6,m5,x4,f6,g0,j8,m9,a7N,b2u,AH,AM,Ad,Ac,Af,Ao,Ak,AR,AS,AT,Aa,↓reduceIte,sz,Nat.reduceAdd,Ah,a8m ha,P7 (a7h ha).1]
theorem b2s{n:Nat}(hn:0<n)(x:Int):0<=x % n/\x % n<n:=⟨Int.emod_nonneg _ (by lia),Int.emod_lt_of_pos _ (by lia)⟩
theorem a7I{n:Nat}(hn:0<n)(hn8:n<=100)(f:Nat->Nat->Nat)(r c:Int):a33 [t0 n f,.int r,.int c]=some (.val (row [f (r % n).toNat (c % n).toNat])):=by
 obtain⟨a1,a2⟩:=b2s hn r
 obtain⟨b1,b2⟩:=b2s hn c
 unfold a33 b1f
 simp (disch:=omega) only [E9,k9,B0,c9,d8,g8,n6,m5,x4,f6,g0,j8,m9,AH,AM,Ad,Ac,Af,Ao,Ak,AR,AS,J0,T4 a1 a2,a04 b1 b2 (by lia)]
def mvd(n:Nat)(f:Nat->Nat->Nat)(w:Str)(d t:Int)(r c:Nat):Nat:=f (lr n (W7 w) (bd n w d t) (bt n w d t) r c).toNat (lc n (W7 w) (bd n w d t) (bt n w d t) r c).toNat
theorem a4s{n:Nat}(hn:0<n)(f:Nat->Nat->Nat){w:Str}(hw:w∈k6)(d t:Int){r c:Nat}(hr:r<n)(hc:c<n):mvd n f w d t (lr n w d t r c).toNat (lc n w d t r c).toNat=f r c:=by
 obtain⟨⟨b1,b2⟩,b3,b4⟩:=a1E (n:=(n:Int)) (by lia) w d t r c
 have h:=a3J (n:=(n:Int)) (by lia) hw d t (a:=r) (b:=c) (by lia) (by lia)
 unfold mvd
 rw [Int.toNat_of_nonneg b1,Int.toNat_of_nonneg b3,h.1,h.2]
 simp
theorem a2m{n:Nat}(hn:0<n){w:Str}(hw:w∈k6)(d t:Int){r c:Nat}(hr:r<n)(hc:c<n):∃a b:Nat,a<n/\b<n/\lr n w d t a b=r/\lc n w d t a b=c:=by
 obtain⟨⟨b1,b2⟩,b3,b4⟩:=a1E (n:=(n:Int)) (by lia) (W7 w) (bd n w d t) (bt n w d t) r c
 have h:=b2g (n:=(n:Int)) (by lia) hw d t (a:=r) (b:=c) (by lia) (by lia)
 refine⟨(lr n (W7 w) (bd n w d t) (bt n w d t) r c).toNat,(lc n (W7 w) (bd n w d t) (bt n w d t) r c).toNat,by lia,by lia, ?_, ?_⟩
 ·rw [Int.toNat_of_nonneg b1,Int.toNat_of_nonneg b3];exact h.1
 ·rw [Int.toNat_of_nonneg b1,Int.toNat_of_nonneg b3];exact h.2
def uaC(n:Nat)(f:Nat->Nat->Nat)(w:Str)(d t:Int)(r c:Nat):Option d7:=if(f r c==mvd n f w d t r c)=true then none else some (.val (.tuple [.int (r:Nat),.int (c:Nat)]))
def uaR(n:Nat)(f:Nat->Nat->Nat)(w:Str)(d t:Int):Option d7:=(AW n).findSome? fun r=>(AW n).findSome? fun c=>uaC n f w d t r c
theorem a1o(a b:Nat):([a]==[b])=(a==b):=by
 rw [Bool.eq_iff_iff];simp
theorem a1Y{n:Nat}(hn:0<n)(hn8:n<=100)(f:Nat->Nat->Nat){w:Str}(hw:w∈k6)(d t:Int):D7 [t0 n f,T3 w d t]=some ((uaR n f w d t).getD (.val .none)):=by
 have hb:=(a7h hw).1
 have inner:∀(r:Nat),r<n->∀(q5 q6:Option d7),((AW n).findSome? (uaC n f w d t r)=none/\∃ρ',w4 v0 (f7 5) (G4 0 n) [some (.val (t0 n f)),some (.val (T3 w d t)),some (.val (.int n)),some (.val (T3 (W7 w) (bd n w d t) (bt n w d t))),some (.val (.int (r:Nat))),q5,q6]=some (.nx ρ')/\∃q4 q5 q6:Option d7,ρ'=[some (.val (t0 n f)),some (.val (T3 w d t)),some (.val (.int n)),some (.val (T3 (W7 w) (bd n w d t) (bt n w d t))),q4,q5,q6])\/(∃x,(AW n).findSome? (uaC n f w d t r)=some x/\w4 v0 (f7 5) (G4 0 n) [some (.val (t0 n f)),some (.val (T3 w d t)),some (.val (.int n)),some (.val (T3 (W7 w) (bd n w d t) (bt n w d t))),some (.val (.int (r:Nat))),q5,q6]=some (.rt x)):=by
  intro r hr q5 q6
  have st:∀c<n,f ((lr n (W7 w) (bd n w d t) (bt n w d t) r c) % n).toNat ((lc n (W7 w) (bd n w d t) (bt n w d t) r c) % n).toNat=mvd n f w d t r c:=by
   intro c hc
   obtain⟨⟨b1,b2⟩,b3,b4⟩:=a1E (n:=(n:Int)) (by lia) (W7 w) (bd n w d t) (bt n w d t) r c
   rw [Int.emod_eq_of_lt b1 b2,Int.emod_eq_of_lt b3 b4]
   rfl
  have kk:∀c<n,f (((r:Nat):Int) % n).toNat (((c:Nat):Int) % n).toNat=f r c:=by
   intro c hc
   rw [Int.emod_eq_of_lt (by lia) (by lia),Int.emod_eq_of_lt (by lia) (by lia),tn,tn]
  rcases a0g (body:=v0) (tg:=f7 5) (I:=fun ρ=>∃q5 q6:Option d7,ρ=[some (.val (t0 n f)),some (.val (T3 w d t)),some (.val (.int n)),some (.val (T3 (W7 w) (bd n w d t) (bt n w d t))),some (.val (.int (r:Nat))),q5,q6]) (f:=uaC n f w d t r) (n:=n) (ρ:=[some (.val (t0 n f)),some (.val (T3 w d t)),some (.val (.int n)),some (.val (T3 (W7 w) (bd n w d t) (bt n w d t))),some (.val (.int (r:Nat))),q5,q6])
   (by
    rintro c hc ρ ⟨q5,q6,rfl⟩ hf
    have hq:(f r c==mvd n f w d t r c)=true:=by
     unfold uaC at hf
     split at hf
     ·assumption
     ·cases hf
    apply a4W rfl
    ·unfold v0
     simp (disch:=omega) only [E7,A2,k9,l9,c9,d8,b9,a9,b0,l0,f9,g8,n6,f6,g0,m4,S1,r8,m8,p6,AH,AR,AS,AT,Aa,↓reduceIte,Bool.not_true,sz,Nat.reduceAdd,Ah,a9J hb (s:=(n:Int)) (by lia),a7I hn hn8,st c hc,kk c hc,a3h,a1o,hq]
     try rfl
    ·exact⟨_,_,rfl⟩)
   (by
    rintro c hc ρ ⟨q5,q6,rfl⟩ x hf
    have hq:(f r c==mvd n f w d t r c)=false/\x= .val (.tuple [.int (r:Nat),.int (c:Nat)]):=by
     unfold uaC at hf
     split at hf
     ·cases hf
     ·rename_i h;cases hf;exact⟨by simpa using h,rfl⟩
    obtain⟨hq,rfl⟩:=hq
    refine⟨_,rfl, ?_⟩
    unfold v0
    simp (disch:=omega) only [E7,A2,k9,l9,c9,d8,b9,a9,b0,l0,f9,g8,n6,m5,x4,f6,g0,m4,a0D,m8,p6,AH,AR,AS,AT,Aa,↓reduceIte,Bool.not_false,sz,Nat.reduceAdd,Ah,a9J hb (s:=(n:Int)) (by lia),a7I hn hn8,st c hc,kk c hc,a3h,a1o,hq]
    try rfl) ⟨q5,q6,rfl⟩ with⟨h1,ρ',h2,a,b,rfl⟩|⟨x,h1,h2⟩
  ·exact .inl ⟨h1,_,h2,_,_,_,rfl⟩
  ·exact .inr ⟨x,h1,h2⟩
 have outer:=a0g (body:=G3) (tg:=f7 4) (I:=fun ρ=>∃q4 q5 q6:Option d7,ρ=[some (.val (t0 n f)),some (.val (T3 w d t)),some (.val (.int n)),some (.val (T3 (W7 w) (bd n w d t) (bt n w d t))),q4,q5,q6]) (f:=fun r=>(AW n).findSome? (uaC n f w d t r)) (n:=n) (ρ:=[some (.val (t0 n f)),some (.val (T3 w d t)),some (.val (.int n)),some (.val (T3 (W7 w) (bd n w d t) (bt n w d t))),none,none,none])
  (by
   rintro r hr ρ ⟨q4,q5,q6,rfl⟩ hf
   rcases inner r hr q5 q6 with⟨_,ρ',h2,h3⟩|⟨x,h1,_⟩
   ·apply a4W rfl
    ·unfold G3
     simp (disch:=omega) only [c9,d8,b9,a9,b0,j9,n5,r9,AH,AR,AS]
     exact h2
    ·exact h3
   ·rw [h1] at hf;cases hf)
  (by
   rintro r hr ρ ⟨q4,q5,q6,rfl⟩ x hf
   rcases inner r hr q5 q6 with⟨h1,_⟩|⟨y,h1,h2⟩
   ·rw [h1] at hf;cases hf
   ·rw [h1] at hf;cases hf
    refine⟨_,rfl, ?_⟩
    unfold G3
    simp (disch:=omega) only [c9,d8,b9,a9,b0,j9,n5,r9,AH,AR,AS]
    exact h2) ⟨none,none,none,rfl⟩
 unfold D7 a2K
 rcases outer with⟨h1,ρ',h2,a,b,c,rfl⟩|⟨x,h1,h2⟩
 ·rw [show uaR n f w d t=none from h1]
  simp (disch:=omega) only [B0,l9,c9,d8,b9,a9,b0,f9,g8,n6,m5,x4,f6,g0,j8,m9,j9,n5,r9,AH,AM,Ad,Ac,Af,Ao,Ak,AR,AS,J0,b3h hw (s:=(n:Int)) (by lia),h2]
  try rfl
 ·rw [show uaR n f w d t=some x from h1]
  simp (disch:=omega) only [B0,c9,d8,b9,a9,b0,f9,g8,n6,f6,g0,a3q,j8,m9,j9,n5,r9,AH,AM,Ad,Ac,Af,Ao,Ak,AR,AS,J0,b3h hw (s:=(n:Int)) (by lia),h2]
  try rfl
theorem a50{n:Nat}{f:Nat->Nat->Nat}{w:Str}{d t:Int}{x:d7}(h:uaR n f w d t=some x):∃r c:Nat,x= .val (.tuple [.int (r:Nat),.int (c:Nat)])/\r<n/\c<n/\(f r c==mvd n f w d t r c)=false:=by
 unfold uaR at h
 obtain⟨r,hr,h⟩:=List.exists_of_findSome?_eq_some h
 obtain⟨c,hc,h⟩:=List.exists_of_findSome?_eq_some h
 unfold uaC at h
 split at h
 ·cases h
 ·rename_i hq
  cases h
  exact⟨r,c,rfl,List.mem_range.mp hr,List.mem_range.mp hc,by simpa using hq⟩
theorem a41{n:Nat}{f:Nat->Nat->Nat}{w:Str}{d t:Int}:uaR n f w d t=none↔∀r c:Nat,r<n->c<n->f r c=mvd n f w d t r c:=by
 unfold uaR
 constructor
 ·intro h r c hr hc
  have h1:=List.findSome?_eq_none_iff.mp h r (List.mem_range.mpr hr)
  have h2:=List.findSome?_eq_none_iff.mp h1 c (List.mem_range.mpr hc)
  unfold uaC at h2
  split at h2
  ·rename_i hq;simpa using hq
  ·cases h2
 ·intro h
  refine List.findSome?_eq_none_iff.mpr fun r hr=>List.findSome?_eq_none_iff.mpr fun c hc=> ?_
  unfold uaC
  rw [if_pos (by rw [beq_iff_eq];exact h r c (List.mem_range.mp hr) (List.mem_range.mp hc))]
theorem b0A{n:Nat}(hn:0<n)(hn8:n<=100)(f:Nat->Nat->Nat){w:Str}(hw:w∈k6)(d t:Int):Y2 [t0 n f,T3 w d t]=some (.val (.bool (uaR n f w d t).isNone)):=by
 unfold Y2 a7f
 simp (disch:=omega) only [k9,l9,c9,d8,b9,a9,b0,f9,m5,j8,AH,AM,Ad,Af,Am,a1Y hn hn8 f hw]
 cases h:uaR n f w d t with
 |none=>rfl
 |some x=>
  obtain⟨r,c,rfl,_⟩:=a50 h
  rfl
def mix(c k:Int):Int:=(c % 1000003+k*k+1)*48271 % 2147483647
theorem a1I{c k:Int}(hk:0<=k/\k<100000):A3 [.int c,.int k]=some (.val (.int (mix c k))):=by
 unfold A3 a2G mix
 simp (disch:=omega) only [N2,a6k,b34,E9,k9,l9,c9,d8,m5,x4,j8,m9,AH,AM,Ad,Af,Am]
theorem E1{w:Str}(a b:Int){j:Nat}{p:PV}(h1:b0q k6 w=some j)(h2:[PyData.tuple [.int a,.int b],.tuple [.int b,.int (-a)],.tuple [.int (-a),.int (-b)],.tuple [.int (-b),.int a],.tuple [.int a,.int (-b)],.tuple [.int (-a),.int b],.tuple [.int b,.int a],.tuple [.int (-b),.int (-a)]][j]?=some p):v8 [.str w,.int a,.int b]=some (.val p):=by
 have h:=a7K h1 h2
 unfold k6 at h
 unfold v8 a2I
 simp (disch:=omega) only [c9,d8,b9,a9,b0,l0,m5,x4,j8,m9,a7N,b2u,AH,BF,AM,Ad,Af,Am,AT,Aa,↓reduceIte,sz,Nat.reduceAdd,Ah,a7M,b6j,h]
theorem Z3{w:Str}(hw:w∈k6)(a b:Int):v8 [.str w,.int a,.int b]=some (.val (.tuple [.int (i6 w a b),.int (i5 w a b)])):=by
 rcases v5 hw with rfl|rfl|rfl|rfl|rfl|rfl|rfl|rfl
 ·exact E1 a b (j:=0) (by decide+kernel) rfl
 ·exact E1 a b (j:=1) (by decide+kernel) rfl
 ·exact E1 a b (j:=2) (by decide+kernel) rfl
 ·exact E1 a b (j:=3) (by decide+kernel) rfl
 ·exact E1 a b (j:=4) (by decide+kernel) rfl
 ·exact E1 a b (j:=5) (by decide+kernel) rfl
 ·exact E1 a b (j:=6) (by decide+kernel) rfl
 ·exact E1 a b (j:=7) (by decide+kernel) rfl
theorem S5{w:Str}(hw:w∈k6){s:Int}(hs:0<s)(d r a b:Int):A4 [.int s,.tuple [.str w,.int d,.int r],.tuple [.int a,.int b]]=some (.val (.tuple [.int (lr s w d r a b),.int (lc s w d r a b)])):=by
 have pl:=Z3 hw a b
 unfold A4 a2H lr lc b24
 show(a7P _ _ [some (.val (.int s)),some (.val (.tuple [.str w,.int d,.int r])),some (.val (.tuple [.int a,.int b])),none,none]).bind _=_
 rw [b2q (ρ':=[some (.val (.int s)),some (.val (.tuple [.str w,.int d,.int r])),some (.val (.tuple [.int a,.int b])),some (.val (.int (i6 w a b))),some (.val (.int (i5 w a b)))]) (by simp (disch:=omega) only [E7,A2,k9,l9,c9,d8,b9,a9,b0,f9,Y6,a42,AH,AR,AS,pl])]
 simp (disch:=omega) only [N2,E9,A2,R9,k9,l9,c9,d8,b9,a9,b0,l0,m5,x4,AH,AT,Aa,↓reduceIte,sz,Nat.reduceAdd,Ah]
theorem b5h(N:Int):∃w∈k6,t6 (.own b8D) (.val (.int (N % 8)))=some (.val (.str w)):=by
 have h0:0<=N % 8:=by lia
 have h1:N % 8<8:=by lia
 generalize N % 8=k at h0 h1 ⊢
 have h:k=0\/k=1\/k=2\/k=3\/k=4\/k=5\/k=6\/k=7:=by lia
 rcases h with rfl|rfl|rfl|rfl|rfl|rfl|rfl|rfl
 ·exact⟨_,by decide+kernel,rfl⟩
 ·exact⟨_,by decide+kernel,rfl⟩
 ·exact⟨_,by decide+kernel,rfl⟩
 ·exact⟨_,by decide+kernel,rfl⟩
 ·exact⟨_,by decide+kernel,rfl⟩
 ·exact⟨_,by decide+kernel,rfl⟩
 ·exact⟨_,by decide+kernel,rfl⟩
 ·exact⟨_,by decide+kernel,rfl⟩
theorem b4q{n:Int}(N:Int)(hn:0<n):∃w∈k6,F9 [.int n,.int N]=some (.val (T3 w (N / 8 % n) (N / 64 % n))):=by
 obtain⟨w,hw,e⟩:=b5h N
 refine⟨w,hw, ?_⟩
 unfold F9 X4
 simp (disch:=omega) only [E9,a7C,k9,l9,c9,d8,b9,a9,b0,l0,v4,g8,n6,m5,x4,f6,g0,j8,m9,AH,AM,Ad,Ac,Af,Ao,Ak,AR,AS,AT,Aa,↓reduceIte,sz,Nat.reduceAdd,Ah,e]
theorem a1p{ns:List Int}{k:Int}(h0:0<=k):∃c:Int,r6 [.list (ns.map .int),.int k]=some (.val (.int c)):=by
 unfold r6 a0y
 by_cases h:k<ns.length
 ·have hk:k.toNat<ns.length:=by lia
  have e:L2.atI (ns.map PyData.int) k=some (.int ns[k.toNat]):=by
   rw [a3E h0,Aq,BA hk];rfl
  refine⟨ns[k.toNat], ?_⟩
  simp (disch:=omega) only [a6j,a5x,k9,B0,c9,d8,f6,m4,j8,m8,p6,AH,AM,Ad,Af,Am,AU,a1x e]
  simp only [h,decide_true]
  simp (disch:=omega) only [k9,c9,d8,m5,x4,a3q,a0D,m9,AH,a1x e]
 ·refine⟨0, ?_⟩
  simp (disch:=omega) only [a6j,a5x,k9,B0,c9,d8,f6,m4,j8,m8,p6,AH,AM,Ad,Af,Am,AU]
  simp only [h,decide_false]
  simp (disch:=omega) only [l9,m5,x4,g0,S1,r8,m9,AH]
def unv(n:Nat)(D:List (List f8×PV)):Nat:=(a2t n).countP fun p=>(m6 D [.inl (p.1:Nat),.inl (p.2:Nat)]).isNone
def a57(n:Nat)(p:PV):Prop:=∃a b:Nat,a<n/\b<n/\p= .tuple [.int (a:Nat),.int (b:Nat)]
structure RI(n:Nat)(D:List (List f8×PV))(W:List PV):Prop where
 val:∀k v,m6 D k=some v->a57 n v
 wai:∀p∈W,a57 n p
 len:D.length+unv n D<=n*n
def Gr(D D':List (List f8×PV)):Prop:=∀k,(m6 D k).isSome=true->(m6 D' k).isSome=true
theorem Gr.refl(D:List (List f8×PV)):Gr D D:=fun _ h=>h
theorem Gr.trans{A B C:List (List f8×PV)}(h:Gr A B)(g:Gr B C):Gr A C:=fun k x=>g k (h k x)
theorem Gr.put(D:List (List f8×PV))(k:List f8)(v:PV):Gr D (M1 D k v):=fun k' h=>by
 rw [O3];split
 ·rfl
 ·exact h
theorem a6W{n:Nat}{D:List (List f8×PV)}{a b:Nat}(ha:a<n)(hb:b<n)(v:PV)(h:(m6 D [.inl (a:Nat),.inl (b:Nat)]).isSome=false):unv n (M1 D [.inl (a:Nat),.inl (b:Nat)] v)<unv n D:=by
 unfold unv
 refine a3O (fun p _ hp=> ?_) ⟨(a,b),a8X.mpr ⟨ha,hb⟩, ?_, ?_⟩
 ·rw [O3] at hp
  split at hp
  ·cases hp
  ·exact hp
 ·cases hv:m6 D [.inl (a:Nat),.inl (b:Nat)] with
  |none=>rfl
  |some x=>rw [hv] at h;cases h
 ·rw [O3,if_pos rfl];rfl
theorem RI.put{n:Nat}{D:List (List f8×PV)}{W W':List PV}(R:RI n D W){a b:Nat}(ha:a<n)(hb:b<n){v:PV}(hv:a57 n v)(h:(m6 D [.inl (a:Nat),.inl (b:Nat)]).isSome=false)(hw:∀p∈W',a57 n p):RI n (M1 D [.inl (a:Nat),.inl (b:Nat)] v) W':=by
 refine⟨fun k x hx=> ?_,hw, ?_⟩
 ·rw [O3] at hx
  split at hx
  ·cases hx;exact hv
  ·exact R.val k x hx
 ·have h1:=a6W ha hb v h
  have h2:=a75 D [.inl (a:Nat),.inl (b:Nat)] v
  have h3:=R.len
  lia
theorem b36{n:Nat}{p:PV}(h:a57 n p):n4 p 49=true:=by
 obtain⟨a,b,_,_,rfl⟩:=h
 rfl
theorem b5z{x:Int}{n:Nat}(h:0<=x/\x<n):∃a:Nat,a<n/\x=(a:Nat):=⟨x.toNat,by lia,by lia⟩
theorem b4V{n:Nat}(hn:0<n)(hn8:n<=8){D:List (List f8×PV)}{W:List PV}(R:RI n D W){r c:Nat}(hr:r<n)(hc:c<n){x y:Nat}(hx:x<n)(hy:y<n){w:Str}(hw:w∈k6)(d t:Int)(s1 q8:Option d7)(hl:W.length+unv n D<=64):
 ∃(D':List (List f8×PV)) (W':List PV) (q8':Option d7),A8 [some (.val (.int n)),s1,some (.ow (.dct D)),some (.val (.int (r:Nat))),some (.val (.int (c:Nat))),some (.own W),some (.val (.tuple [.int (x:Nat),.int (y:Nat)])),some (.val (T3 w d t)),q8]
  =some (.nx [some (.val (.int n)),s1,some (.ow (.dct D')),some (.val (.int (r:Nat))),some (.val (.int (c:Nat))),some (.own W'),some (.val (.tuple [.int (x:Nat),.int (y:Nat)])),some (.val (T3 w d t)),q8'])
  /\RI n D' W'/\Gr D D'/\W'.length+unv n D'<=W.length+unv n D:=by
 obtain⟨b1,b2⟩:=a1E (n:=(n:Int)) (by lia) w d t x y
 obtain⟨a,ha,ea⟩:=b5z b1
 obtain⟨b,hb,eb⟩:=b5z b2
 have pe:=S5 hw (s:=(n:Int)) (by lia) d t x y
 rw [ea,eb] at pe
 have hnn:n*n<=8*8:=Nat.mul_le_mul hn8 hn8
 have hlen:=R.len
 cases hv:(m6 D [.inl (a:Nat),.inl (b:Nat)]).isSome with
 |true=>
  refine⟨D,W,some (.val (.tuple [.int (a:Nat),.int (b:Nat)])), ?_,R,Gr.refl D,AN _⟩
  unfold A8
  rw [b2m (r:= .val (.tuple [.int (a:Nat),.int (b:Nat)])) (by simp (disch:=omega) only [c9,d8,b9,a9,b0,f9,AH,pe]) (a39 _ _) rfl rfl (by simp) rfl hv]
  rfl
 |false=>
  have hu:=a6W ha hb (.tuple [.int (r:Nat),.int (c:Nat)]) hv
  refine⟨M1 D [.inl (a:Nat),.inl (b:Nat)] (.tuple [.int (r:Nat),.int (c:Nat)]),W++[.tuple [.int (a:Nat),.int (b:Nat)]],some (.val (.tuple [.int (a:Nat),.int (b:Nat)])), ?_,R.put ha hb ⟨r,c,hr,hc,rfl⟩ hv fun p hp=> ?_,Gr.put _ _ _,by rw [AZ,List.length_singleton];lia⟩
  ·unfold A8
   rw [b0F (r:= .val (.tuple [.int (a:Nat),.int (b:Nat)])) (r2:= .val (.tuple [.int (r:Nat),.int (c:Nat)])) (by simp (disch:=omega) only [c9,d8,b9,a9,b0,f9,AH,pe]) (a39 _ _) rfl rfl (by simp) rfl hv (by
       show u9 _ [some (.val (.int n)),s1,some (.ow (.dct D)),some (.val (.int (r:Nat))),some (.val (.int (c:Nat))),some (.own W),some (.val (.tuple [.int (x:Nat),.int (y:Nat)])),some (.val (T3 w d t)),some (.val (.tuple [.int (a:Nat),.int (b:Nat)]))]=_
       simp (disch:=omega) only [c9,d8,b9,a9,b0,l0,AH,AT,Aa,↓reduceIte,sz,Nat.reduceAdd,Ah]) rfl (by lia) (t8 (r:= .val (.tuple [.int (a:Nat),.int (b:Nat)])) rfl rfl rfl (by lia))]
   rfl
  ·rcases Ap.mp hp with h|h
   ·exact R.wai p h
   ·have:p= .tuple [.int (a:Nat),.int (b:Nat)]:=by simpa using h
    rw [this];exact⟨a,b,ha,hb,rfl⟩
def Mvs(ws:List PV):Prop:=∀p∈ws,∃w∈k6,∃d t:Int,p=T3 w d t
theorem b4W{n:Nat}(hn:0<n)(hn8:n<=8){ws:List PV}(hws:Mvs ws){D:List (List f8×PV)}{W:List PV}{p:PV}(R:RI n D (W++[p])){r c:Nat}(hr:r<n)(hc:c<n)(q6 q7 q8:Option d7)(hl:W.length+unv n D<=64):
 ∃(D':List (List f8×PV)) (W':List PV) (q6' q7' q8':Option d7),G0 [some (.val (.int n)),some (.val (.list ws)),some (.ow (.dct D)),some (.val (.int (r:Nat))),some (.val (.int (c:Nat))),some (.own (W++[p])),q6,q7,q8]
  =some (.nx [some (.val (.int n)),some (.val (.list ws)),some (.ow (.dct D')),some (.val (.int (r:Nat))),some (.val (.int (c:Nat))),some (.own W'),q6',q7',q8'])
  /\RI n D' W'/\Gr D D'/\W'.length+unv n D'<=W.length+unv n D:=by
 obtain⟨x,y,hx,hy,rfl⟩:=R.wai p (by simp)
 have R0:RI n D W:=⟨R.val,fun q hq=>R.wai q (Ay _ hq),R.len⟩
 obtain⟨ρ1,e1,D',W',q7',q8',rfl,R',g',l'⟩:=m7 (body:=A8) (tg:=f7 7) (fun _ ρ=>∃(D':List (List f8×PV)) (W':List PV) (q7 q8:Option d7),ρ=[some (.val (.int n)),some (.val (.list ws)),some (.ow (.dct D')),some (.val (.int (r:Nat))),some (.val (.int (c:Nat))),some (.own W'),some (.val (.tuple [.int (x:Nat),.int (y:Nat)])),q7,q8]/\RI n D' W'/\Gr D D'/\W'.length+unv n D'<=W.length+unv n D)
  (ps:=ws) (ρ:=[some (.val (.int n)),some (.val (.list ws)),some (.ow (.dct D)),some (.val (.int (r:Nat))),some (.val (.int (c:Nat))),some (.own W),some (.val (.tuple [.int (x:Nat),.int (y:Nat)])),q7,q8])
  (by
   rintro i p hp ρ ⟨D1,W1,q7,q8,rfl,R1,g1,l1⟩
   obtain⟨w,hw,d,t,rfl⟩:=hws p (Au hp)
   obtain⟨D2,W2,q8',e2,R2,g2,l2⟩:=b4V hn hn8 R1 hr hc hx hy hw d t (some (.val (.list ws))) q8 (by lia)
   exact p4 rfl e2 ⟨D2,W2,_,_,rfl,R2,g1.trans g2,by lia⟩) ⟨D,W,q7,q8,rfl,R0,Gr.refl D,AN _⟩
 refine⟨D',W',some (.val (.tuple [.int (x:Nat),.int (y:Nat)])),q7',q8', ?_,R',g',l'⟩
 unfold G0
 rw [f6,b2n rfl]
 simp (disch:=omega) only [c9,d8,b0,g0,j9,AH,AR,AS,D0,w6,e1]
theorem a9r{n:Nat}{W:List PV}(h:∀p∈W,a57 n p)(s0 s1 s2 s3 s4 s6 s7 s8:Option d7):S8 (m2 gNe (a6 5) (M0 c8)) [s0,s1,s2,s3,s4,some (.ow (.lst W)),s6,s7,s8]=some (!W.isEmpty):=by
 simp (disch:=omega) only [k9,d8,b9,v4,m8,p6,AH,Aa,↓reduceIte,sz,Ah,a9R,a9F fun p hp=>b36 (h p hp)]
theorem b4X{n:Nat}(hn:0<n)(hn8:n<=8){ws:List PV}(hws:Mvs ws){D:List (List f8×PV)}(R:RI n D []){r c:Nat}(hr:r<n)(hc:c<n)(q5 q6 q7 q8:Option d7):
 ∃(D':List (List f8×PV)) (q5' q6' q7' q8':Option d7),A9 [some (.val (.int n)),some (.val (.list ws)),some (.ow (.dct D)),some (.val (.int (r:Nat))),some (.val (.int (c:Nat))),q5,q6,q7,q8]
  =some (.nx [some (.val (.int n)),some (.val (.list ws)),some (.ow (.dct D')),some (.val (.int (r:Nat))),some (.val (.int (c:Nat))),q5',q6',q7',q8'])
  /\RI n D' []/\Gr D D'/\(m6 D' [.inl (r:Nat),.inl (c:Nat)]).isSome=true:=by
 have hnn:n*n<=8*8:=Nat.mul_le_mul hn8 hn8
 have hlen:=R.len
 cases hv:(m6 D [.inl (r:Nat),.inl (c:Nat)]).isSome with
 |true=>
  refine⟨D,q5,q6,q7,q8, ?_,R,Gr.refl D,hv⟩
  unfold A9
  simp (disch:=omega) only [c9,d8,b9,a9,b0,l0,m4,S1,r8,m8,p6,AH,AT,Aa,↓reduceIte,Bool.not_true,sz,Nat.reduceAdd,Ah,a5H,a39,K4,K3,hv]
 |false=>
  have hu:=a6W hr hc (.tuple [.int (r:Nat),.int (c:Nat)]) hv
  have R1:RI n (M1 D [.inl (r:Nat),.inl (c:Nat)] (.tuple [.int (r:Nat),.int (c:Nat)])) [.tuple [.int (r:Nat),.int (c:Nat)]]:=R.put hr hc ⟨r,c,hr,hc,rfl⟩ hv fun p hp=>by
   have:p= .tuple [.int (r:Nat),.int (c:Nat)]:=by simpa using hp
   rw [this];exact⟨r,c,hr,hc,rfl⟩
  have hlen1:=R1.len
  obtain⟨ρ',m',e,⟨D2,W2,q6',q7',q8',rfl,R2,g2,l2⟩,hc2⟩:=J9 (c:=S8 (m2 gNe (a6 5) (M0 c8))) (body:=G0)
   (I:=fun m ρ=>∃(D2:List (List f8×PV)) (W2:List PV) (q6 q7 q8:Option d7),ρ=[some (.val (.int n)),some (.val (.list ws)),some (.ow (.dct D2)),some (.val (.int (r:Nat))),some (.val (.int (c:Nat))),some (.own W2),q6,q7,q8]/\RI n D2 W2/\Gr (M1 D [.inl (r:Nat),.inl (c:Nat)] (.tuple [.int (r:Nat),.int (c:Nat)])) D2/\W2.length+unv n D2<=m/\m<=65)
   (by
    rintro m ρ ⟨D2,W2,q6,q7,q8,rfl,R2,g2,l2,lm⟩
    rcases List.eq_nil_or_concat W2 with rfl|⟨W3,p,rfl⟩
    ·left
     rw [a9r (fun p hp=>R2.wai p hp)];rfl
    ·right
     rw [List.concat_eq_append] at*
     refine⟨by rw [a9r (fun p hp=>R2.wai p hp)];simp, ?_⟩
     rw [AZ,List.length_singleton] at l2
     obtain⟨D4,W4,a,b,c',e4,R4,g4,l4⟩:=b4W hn hn8 hws R2 hr hc q6 q7 q8 (by lia)
     exact⟨_,W4.length+unv n D4,e4,by lia,D4,W4,a,b,c',rfl,R4,g2.trans g4,AN _,by lia⟩)
   100 (1+unv n (M1 D [.inl (r:Nat),.inl (c:Nat)] (.tuple [.int (r:Nat),.int (c:Nat)]))) [some (.val (.int n)),some (.val (.list ws)),some (.ow (.dct (M1 D [.inl (r:Nat),.inl (c:Nat)] (.tuple [.int (r:Nat),.int (c:Nat)])))),some (.val (.int (r:Nat))),some (.val (.int (c:Nat))),some (.own [.tuple [.int (r:Nat),.int (c:Nat)]]),q6,q7,q8] (by lia)
   ⟨_,_,q6,q7,q8,rfl,R1,Gr.refl _,by simp,by lia⟩
  rw [a9r (fun p hp=>R2.wai p hp)] at hc2
  have hW:W2=[]:=by
   cases W2 with
   |nil=>rfl
   |cons a b=>simp at hc2
  subst hW
  refine⟨D2,some (.own []),q6',q7',q8', ?_,R2,(Gr.put _ _ _).trans g2,g2 _ (by rw [O3,if_pos rfl];rfl)⟩
  unfold A9
  simp (disch:=omega) only [c9,d8,b9,a9,b0,l0,f6,m4,a0D,m8,p6,AH,AT,Aa,↓reduceIte,Bool.not_false,sz,Nat.reduceAdd,Ah,a5H,a39,K4,K3,hv]
  rw [b4j (a:=((r:Nat):Int)) (b:=((c:Nat):Int)) (r:= .val (.tuple [.int (r:Nat),.int (c:Nat)])) (by simp (disch:=omega) only [c9,d8,b9,a9,b0,l0,AH,AT,Aa,↓reduceIte,sz,Nat.reduceAdd,Ah]) rfl (by simp (disch:=omega) only [c9,d8,b9,a9,b0,AH]) rfl (by lia)]
  simp (disch:=omega) only [c9,d8,b9,a9,b0,l0,v4,g8,a3D,f6,g0,AH,AR,AS,AT,Aa,↓reduceIte,sz,Nat.reduceAdd,Ah]
  exact e
theorem RI.nil{n:Nat}:RI n [] []:=by
 refine⟨fun k v h=>(by simp [m6] at h),fun p h=>(by cases h), ?_⟩
 have e:unv n []=(a2t n).length:=by unfold unv;exact List.countP_eq_length.mpr fun _ _=>rfl
 rw [e,a8R];simp
theorem b20{n:Nat}(hn:0<n)(hn8:n<=8){ws:List PV}(hws:Mvs ws):∃D:List (List f8×PV),(∀r c:Nat,r<n->c<n->∃p,m6 D [.inl (r:Nat),.inl (c:Nat)]=some p/\a57 n p)/\P2 [.int n,.list ws]=some (.ow (.dct D)):=by
 obtain⟨ρ1,e1,D,R,hD,q3,q4,q5,q6,q7,q8,rfl⟩:=m7 (body:=N6) (tg:=f7 3) (fun i ρ=>∃D:List (List f8×PV),RI n D []/\(∀r c:Nat,r<i->c<n->(m6 D [.inl (r:Nat),.inl (c:Nat)]).isSome=true)/\∃q3 q4 q5 q6 q7 q8:Option d7,ρ=[some (.val (.int n)),some (.val (.list ws)),some (.ow (.dct D)),q3,q4,q5,q6,q7,q8])
  (ps:=G4 0 n) (ρ:=[some (.val (.int n)),some (.val (.list ws)),some (.ow (.dct [])),none,none,none,none,none,none])
  (by
   rintro i p hp ρ ⟨D,R,hD,q3,q4,q5,q6,q7,q8,rfl⟩
   obtain⟨rfl,hi⟩:=G9 hp
   have hi':(0:Int)+(i:Int)=(i:Int):=by lia
   rw [hi'] at hi ⊢
   obtain⟨ρ2,e2,D2,R2,g2,hD2,q4',q5',q6',q7',q8',rfl⟩:=m7 (body:=A9) (tg:=f7 4) (fun j ρ=>∃D2:List (List f8×PV),RI n D2 []/\Gr D D2/\(∀c:Nat,c<j->(m6 D2 [.inl (i:Nat),.inl (c:Nat)]).isSome=true)/\∃q4 q5 q6 q7 q8:Option d7,ρ=[some (.val (.int n)),some (.val (.list ws)),some (.ow (.dct D2)),some (.val (.int (i:Nat))),q4,q5,q6,q7,q8])
    (ps:=G4 0 n) (ρ:=[some (.val (.int n)),some (.val (.list ws)),some (.ow (.dct D)),some (.val (.int (i:Nat))),q4,q5,q6,q7,q8])
    (by
     rintro j p hp ρ ⟨D2,R2,g2,hD2,q4,q5,q6,q7,q8,rfl⟩
     obtain⟨rfl,hj⟩:=G9 hp
     have hj':(0:Int)+(j:Int)=(j:Int):=by lia
     rw [hj'] at hj ⊢
     obtain⟨D3,a,b,c',d',e3,R3,g3,h3⟩:=b4X hn hn8 hws R2 (r:=i) (c:=j) (by lia) (by lia) q5 q6 q7 q8
     refine p4 rfl e3 ⟨D3,R3,g2.trans g3,fun c hc=> ?_,_,_,_,_,_,rfl⟩
     by_cases h:c<j
     ·exact g3 _ (hD2 c h)
     ·have:c=j:=by lia
      rw [this];exact h3) ⟨D,R,Gr.refl D,fun c h=>by lia,q4,q5,q6,q7,q8,rfl⟩
   rw [C4] at hD2
   apply p4 rfl
   ·unfold N6
    simp (disch:=omega) only [c9,b9,a9,b0,j9,n5,r9,AH,AR,AS]
    exact e2
   ·refine⟨D2,R2,fun r c hr hc=> ?_,_,_,_,_,_,_,rfl⟩
    by_cases h:r<i
    ·exact g2 _ (hD r c h hc)
    ·have:r=i:=by lia
     rw [this];exact hD2 c (by lia)) ⟨[],RI.nil,fun r c h=>by lia,none,none,none,none,none,none,rfl⟩
 rw [C4] at hD
 refine⟨D,fun r c hr hc=> ?_, ?_⟩
 ·have h:=hD r c (by lia) hc
  obtain⟨p,hp⟩:=Option.isSome_iff_exists.mp h
  exact⟨p,hp,R.val _ _ hp⟩
 ·unfold P2 a2J
  simp (disch:=omega) only [c9,b9,a9,b0,g8,f6,g0,j8,m9,j9,n5,r9,AH,AM,Ad,Ac,Af,Ao,Ak,AR,AS,a0m,a0n,a5I,T2,e1]
theorem b3i(N:Int):∃ls:List Nat,(2<=ls.length/\ls.length<=3)/\(∀x∈ls,97<=x/\x<=122)/\t6 (.own [.str (AI "ab"),.str (AI "abc"),.str (AI "xy"),.str (AI "qwe"),.str (AI "za")]) (.val (.int (N % 5)))=some (.val (.str (S ls))):=by
 have h0:0<=N % 5:=by lia
 have h1:N % 5<5:=by lia
 generalize N % 5=k at h0 h1 ⊢
 have h:k=0\/k=1\/k=2\/k=3\/k=4:=by lia
 rcases h with rfl|rfl|rfl|rfl|rfl
 ·exact⟨[97,98],by decide,by decide,by rw [show AI "ab"=S [97,98] from by decide+kernel];rfl⟩
 ·exact⟨[97,98,99],by decide,by decide,by rw [show AI "abc"=S [97,98,99] from by decide+kernel];rfl⟩
 ·exact⟨[120,121],by decide,by decide,by rw [show AI "xy"=S [120,121] from by decide+kernel];rfl⟩
 ·exact⟨[113,119,101],by decide,by decide,by rw [show AI "qwe"=S [113,119,101] from by decide+kernel];rfl⟩
 ·exact⟨[122,97],by decide,by decide,by rw [show AI "za"=S [122,97] from by decide+kernel];rfl⟩
theorem b4d{l:List Nat}(h:l.length<=1000):E8 (.val (.str (S l)))=some (.val (.int l.length)):=by
 show(if(S l).length<=AK then some (d7.val (.int (S l).length)) else none)=_
 rw [if_pos (by rw [a69,sizeLine_eq];lia),a69]
theorem b4e{ls:List Nat}(h:ls.length<=1000){i:Int}(h0:0<=i)(h1:i<ls.length):∃x∈ls,t6 (.val (.str (S ls))) (.val (.int i))=some (.val (row [x])):=by
 have hk:i.toNat<ls.length:=by lia
 exact⟨ls[i.toNat],List.getElem_mem _,b5u (by lia) (by rw [a3E h0,BA hk])⟩
theorem b0E{i:Nat}{nn:MS}{ρ:a8}{ps:List PV}(h:ρ[i]?=some (some (.ow (.lst ps)))):a4j i nn ρ=nn (ρ.set i (some (.val (.list ps)))):=by
 unfold a4j
 rw [h]
theorem b3z{ns:List Int}{n:Nat}(hn:0<n)(hn8:n<=8){D:List (List f8×PV)}(hD:∀r c:Nat,r<n->c<n->∃p,m6 D [.inl (r:Nat),.inl (c:Nat)]=some p/\a57 n p){ls:List Nat}(hls:2<=ls.length/\ls.length<=3)(hl:∀x∈ls,97<=x/\x<=122)
 (s1 s3 s4 s7 q11 q12:Option d7) {r c:Nat} (hr:r<n) (hc:c<n) {l:List Nat} (hl2:l.length<1000):
 ∃x:Nat,(97<=x/\x<=122)/\∃q11' q12':Option d7,C8 [some (.val (.list (ns.map .int))),s1,some (.val (.int n)),s3,s4,some (.ow (.dct D)),some (.val (.str (S ls))),s7,some (.val (.int (r:Nat))),some (.val (.str (S l))),some (.val (.int (c:Nat))),q11,q12]
  =some (.nx [some (.val (.list (ns.map .int))),s1,some (.val (.int n)),s3,s4,some (.ow (.dct D)),some (.val (.str (S ls))),s7,some (.val (.int (r:Nat))),some (.val (.str (S (l++[x])))),some (.val (.int (c:Nat))),q11',q12']):=by
 obtain⟨p,hp,a,b,ha,hb,rfl⟩:=hD r c hr hc
 have m0:0<=(a:Int)*n:=Int.mul_nonneg (by lia) (by lia)
 have m1:(a:Int)*n<=8*8:=Int.mul_le_mul (by lia) (by lia) (by lia) (by lia)
 obtain⟨v,hv⟩:=a1p (ns:=ns) (k:=3+(a:Int)*n+b) (by lia)
 have hx:=a1I (c:=v) (k:=11+(a:Int)*n+b) (by lia)
 have i0:0<=mix v (11+(a:Int)*n+b)/ 16 %(ls.length:Int):=Int.emod_nonneg _ (by lia)
 have i1:mix v (11+(a:Int)*n+b)/ 16 %(ls.length:Int)<ls.length:=Int.emod_lt_of_pos _ (by lia)
 obtain⟨x,hxm,ex⟩:=b4e (ls:=ls) (by lia) i0 i1
 refine⟨x,hl x hxm, ?_⟩
 have hd:a7L 5 (a5 (a6 8) (a5 (a6 10) c8)) [some (.val (.list (ns.map .int))),s1,some (.val (.int n)),s3,s4,some (.ow (.dct D)),some (.val (.str (S ls))),s7,some (.val (.int (r:Nat))),some (.val (.str (S l))),some (.val (.int (c:Nat))),q11,q12]=some (.val (.tuple [.int (a:Nat),.int (b:Nat)])):=b4h (by simp (disch:=omega) only [c9,d8,b9,a9,b0,AH]) rfl hp
 unfold C8
 simp (disch:=omega) only [N2,a6k,E9,a7C,E7,A2,k9,B0,l9,c9,d8,b9,a9,b0,f9,g8,n6,f6,g0,AH,AR,AS,hd,hv,hx,b4d,ex,b3Z]
 exact⟨_,_,rfl⟩
theorem b3A{ns:List Int}{n:Nat}(hn:0<n)(hn8:n<=8){D:List (List f8×PV)}(hD:∀r c:Nat,r<n->c<n->∃p,m6 D [.inl (r:Nat),.inl (c:Nat)]=some p/\a57 n p){ls:List Nat}(hls:2<=ls.length/\ls.length<=3)(hl:∀x∈ls,97<=x/\x<=122)
 (s1 s3 s4 q9 q10 q11 q12:Option d7) {r:Nat} (hr:r<n) {rows:List (List Nat)} (hR:rows.length<1000):
 ∃k:List Nat,k.length=n/\(∀x∈k,97<=x/\x<=122)/\∃q9' q10' q11' q12':Option d7,C9 [some (.val (.list (ns.map .int))),s1,some (.val (.int n)),s3,s4,some (.ow (.dct D)),some (.val (.str (S ls))),some (.own (rows.map row)),some (.val (.int (r:Nat))),q9,q10,q11,q12]
  =some (.nx [some (.val (.list (ns.map .int))),s1,some (.val (.int n)),s3,s4,some (.ow (.dct D)),some (.val (.str (S ls))),some (.own ((rows++[k]).map row)),some (.val (.int (r:Nat))),q9',q10',q11',q12']):=by
 obtain⟨ρ3,e5,k,hk1,hk2,r10,r11,r12,rfl⟩:=m7 (body:=C8) (tg:=f7 10) (fun j ρ=>∃k:List Nat,k.length=j/\(∀x∈k,97<=x/\x<=122)/\∃q10 q11 q12:Option d7,ρ=[some (.val (.list (ns.map .int))),s1,some (.val (.int n)),s3,s4,some (.ow (.dct D)),some (.val (.str (S ls))),some (.own (rows.map row)),some (.val (.int (r:Nat))),some (.val (.str (S k))),q10,q11,q12])
  (ps:=G4 0 n) (ρ:=[some (.val (.list (ns.map .int))),s1,some (.val (.int n)),s3,s4,some (.ow (.dct D)),some (.val (.str (S ls))),some (.own (rows.map row)),some (.val (.int (r:Nat))),some (.val (.str (S []))),q10,q11,q12])
  (by
   rintro j p hp ρ ⟨k,hk1,hk2,q10,q11,q12,rfl⟩
   obtain⟨rfl,hj⟩:=G9 hp
   have hj':(0:Int)+(j:Int)=(j:Int):=by lia
   rw [hj'] at hj ⊢
   obtain⟨x,hx,b,c',e⟩:=b3z (ns:=ns) hn hn8 hD hls hl s1 s3 s4 (some (.own (rows.map row))) q11 q12 hr (c:=j) (by lia) (l:=k) (by lia)
   exact⟨_,_,rfl,.inl e,k++[x],by simp [hk1],fun y hy=>by
    rcases Ap.mp hy with h|h
    ·exact hk2 y h
    ·have:y=x:=by simpa using h
     rw [this];exact hx,_,_,_,rfl⟩) ⟨[],rfl,(by intro x h;cases h),q10,q11,q12,rfl⟩
 rw [C4] at hk1
 refine⟨k,by lia,hk2, ?_⟩
 unfold C9
 simp (disch:=omega) only [l9,c9,d8,b9,a9,b0,g8,n6,f6,g0,j9,n5,r9,AH,AR,AS,show AI ""=S [] from rfl,e5]
 rw [t8 rfl rfl rfl (by rw [AU];lia)]
 exact⟨_,_,_,_,by rw [Ax];rfl⟩
theorem a8B{rows:List (List Nat)}{n:Nat}(h1:rows.length=n)(h2:∀l∈rows,l.length=n):b5n rows=t0 n fun r c=>(rows.getD r []).getD c 0:=by
 unfold t0
 congr 1
 refine List.ext_getElem (by rw [AU,BD,h1]) fun i hi hi'=> ?_
 rw [List.getElem_map,List.getElem_range]
 have hl:=h2 rows[i] (List.getElem_mem _)
 refine List.ext_getElem (by rw [AU,BD,hl]) fun j hj hj'=> ?_
 rw [List.getElem_map,List.getElem_range]
 simp [List.getD,hi,hj]
theorem b4n(N:Int):∃m:Nat,m<=3/\t6 (.own [.int 0,.int 1,.int 1,.int 2,.int 2,.int 3]) (.val (.int (N % 6)))=some (.val (.int m)):=by
 have h0:0<=N % 6:=by lia
 have h1:N % 6<6:=by lia
 generalize N % 6=k at h0 h1 ⊢
 have h:k=0\/k=1\/k=2\/k=3\/k=4\/k=5:=by lia
 rcases h with rfl|rfl|rfl|rfl|rfl|rfl
 ·exact⟨0,by decide,rfl⟩
 ·exact⟨1,by decide,rfl⟩
 ·exact⟨1,by decide,rfl⟩
 ·exact⟨2,by decide,rfl⟩
 ·exact⟨2,by decide,rfl⟩
 ·exact⟨3,by decide,rfl⟩
theorem b1h{ns:List Int}{most:Int}(hm:0<most/\most<=8):∃(n:Nat) (f:Nat->Nat->Nat),(0<n/\(n:Int)<=most)/\(∀r c,r<n->c<n->97<=f r c/\f r c<=122)/\L6 [.list (ns.map .int),.int most]=some (.val (t0 n f)):=by
 obtain⟨c0,hc0⟩:=a1p (ns:=ns) (k:=0) (by lia)
 obtain⟨c1,hc1⟩:=a1p (ns:=ns) (k:=1) (by lia)
 obtain⟨c2,hc2⟩:=a1p (ns:=ns) (k:=2) (by lia)
 have h0:0<=mix c0 1 % most/\mix c0 1 % most<most:=⟨Int.emod_nonneg _ (by lia),Int.emod_lt_of_pos _ (by lia)⟩
 obtain⟨n,en⟩:∃n:Nat,1+mix c0 1 % most=(n:Int):=⟨(1+mix c0 1 % most).toNat,by lia⟩
 have hn:0<n:=by lia
 have hn8:n<=8:=by lia
 obtain⟨m,hm3,em⟩:=b4n c1
 obtain⟨ls,hls,hl,els⟩:=b3i (mix c2 2)
 have x1:=a1I (c:=c0) (k:=1) (by lia)
 have x2:=a1I (c:=c2) (k:=2) (by lia)
 obtain⟨ρ1,e1,ws,hws,hwl,q4,rfl⟩:=m7 (body:=K5) (tg:=f7 4) (fun i ρ=>∃ws:List PV,Mvs ws/\ws.length=i/\∃q4:Option d7,ρ=[some (.val (.list (ns.map .int))),some (.val (.int most)),some (.val (.int n)),some (.own ws),q4,none,none,none,none,none,none,none,none])
  (ps:=G4 0 m) (ρ:=[some (.val (.list (ns.map .int))),some (.val (.int most)),some (.val (.int n)),some (.own []),none,none,none,none,none,none,none,none,none])
  (by
   rintro i p hp ρ ⟨ws,hws,hwl,q4,rfl⟩
   obtain⟨rfl,hi⟩:=G9 hp
   have hi':(0:Int)+(i:Int)=(i:Int):=by lia
   rw [hi'] at hi ⊢
   obtain⟨w,hw,ew⟩:=b4q (n:=(n:Int)) (mix c1 (3+(i:Int))) (by lia)
   have x3:=a1I (c:=c1) (k:=3+(i:Int)) (by lia)
   refine p4 rfl (ρ2:=[some (.val (.list (ns.map .int))),some (.val (.int most)),some (.val (.int n)),some (.own (ws++[T3 w (mix c1 (3+(i:Int))/ 8 % n) (mix c1 (3+(i:Int))/ 64 % n)])),some (.val (.int (i:Nat))),none,none,none,none,none,none,none,none]) ?_ ⟨_, ?_, ?_,_,rfl⟩
   ·unfold K5
    rw [t8 (r:= .val (T3 w (mix c1 (3+(i:Int))/ 8 % n) (mix c1 (3+(i:Int))/ 64 % n))) (by simp (disch:=omega) only [N2,k9,l9,c9,d8,b9,a9,b0,f9,AH,AR,AS,hc1,x3,ew]) rfl rfl (by lia)]
    rfl
   ·intro p hp
    rcases Ap.mp hp with h|h
    ·exact hws p h
    ·have:p=T3 w (mix c1 (3+(i:Int))/ 8 % n) (mix c1 (3+(i:Int))/ 64 % n):=by simpa using h
     exact⟨w,hw,_,_,this⟩
   ·rw [AZ,List.length_singleton,hwl]) ⟨[],(by intro p h;cases h),rfl,none,rfl⟩
 obtain⟨D,hD,eD⟩:=b20 hn hn8 hws
 obtain⟨ρ2,e2,rows,hr1,hr2,hr3,q8,q9,q10,q11,q12,rfl⟩:=m7 (body:=C9) (tg:=f7 8) (fun i ρ=>∃rows:List (List Nat),rows.length=i/\(∀l∈rows,l.length=n)/\(∀l∈rows,∀x∈l,97<=x/\x<=122)/\∃q8 q9 q10 q11 q12:Option d7,ρ=[some (.val (.list (ns.map .int))),some (.val (.int most)),some (.val (.int n)),some (.val (.list ws)),q4,some (.ow (.dct D)),some (.val (.str (S ls))),some (.own (rows.map row)),q8,q9,q10,q11,q12])
  (ps:=G4 0 n) (ρ:=[some (.val (.list (ns.map .int))),some (.val (.int most)),some (.val (.int n)),some (.val (.list ws)),q4,some (.ow (.dct D)),some (.val (.str (S ls))),some (.own []),none,none,none,none,none])
  (by
   rintro i p hp ρ ⟨rows,h1,h2,h3,q8,q9,q10,q11,q12,rfl⟩
   obtain⟨rfl,hi⟩:=G9 hp
   have hi':(0:Int)+(i:Int)=(i:Int):=by lia
   rw [hi'] at hi ⊢
   obtain⟨l,hl1,hl2,a,b',c',d',e⟩:=b3A (ns:=ns) hn hn8 hD hls hl (some (.val (.int most))) (some (.val (.list ws))) q4 q9 q10 q11 q12 (r:=i) (by lia) (rows:=rows) (by lia)
   refine⟨_,_,rfl,.inl e,rows++[l],by simp [h1],fun x hx=> ?_,fun x hx=> ?_,_,_,_,_,_,rfl⟩
   ·rcases Ap.mp hx with h|h
    ·exact h2 x h
    ·have:x=l:=by simpa using h
     rw [this];lia
   ·rcases Ap.mp hx with h|h
    ·exact h3 x h
    ·have:x=l:=by simpa using h
     rw [this];exact hl2) ⟨[],rfl,(by intro x h;cases h),(by intro x h;cases h),none,none,none,none,none,rfl⟩
 rw [C4] at hr1
 have hrl:rows.length=n:=by lia
 refine⟨n,fun r c=>(rows.getD r []).getD c 0,⟨hn,by lia⟩,fun r c hr hc=> ?_, ?_⟩
 ·have g1:r<rows.length:=by lia
  have g2:=hr2 rows[r] (List.getElem_mem _)
  have g3:c<rows[r].length:=by lia
  have:(rows.getD r []).getD c 0=rows[r][c]:=by simp [List.getD,g1,g3]
  show 97<=(rows.getD r []).getD c 0/\(rows.getD r []).getD c 0<=122
  rw [this]
  exact hr3 _ (List.getElem_mem _) _ (List.getElem_mem _)
 ·unfold L6 a1l
  simp (disch:=omega) only [N2,E9,k9,l9,c9,d8,b9,a9,b0,v4,f9,g8,n6,a3D,f6,g0,j8,j9,n5,r9,AH,AM,Ad,Ac,Af,Ao,Ak,AR,AS,AT,Aa,↓reduceIte,sz,Nat.reduceAdd,Ah,hc0,x1,en,hc1,em,e1]
  rw [b0E rfl]
  simp (disch:=omega) only [E9,k9,B0,l9,c9,G8,d8,b9,a9,b0,v4,f9,g8,n6,m5,x4,f6,g0,m9,j9,n5,r9,AH,AR,AS,AT,Aa,↓reduceIte,a8K,sz,Nat.reduceAdd,Ah,eD,T2,hc2,x2,els,e2]
  rw [<-a8B hrl hr2]
  rfl
theorem b2j{n:Nat}(hn:0<n)(hn8:n<=100)(f:Nat->Nat->Nat){w:Str}(hw:w∈k6)(d t:Int):N3 [t0 n f,T3 w d t]=some (.val (.bool (uaR n f w d t).isNone)):=by
 have inner:∀(r:Nat),r<n->∀(q4 q5 q6:Option d7),((AW n).findSome? (fun(c:Nat)=>if(f (lr n w d t r c).toNat (lc n w d t r c).toNat==f r c)=true then none else some (d7.val (.bool false)))=none/\∃ρ',w4 y4 (f7 4) (G4 0 n) [some (.val (t0 n f)),some (.val (T3 w d t)),some (.val (.int n)),some (.val (.int (r:Nat))),q4,q5,q6]=some (.nx ρ')/\∃q3 q4 q5 q6:Option d7,ρ'=[some (.val (t0 n f)),some (.val (T3 w d t)),some (.val (.int n)),q3,q4,q5,q6])\/(∃x,(AW n).findSome? (fun(c:Nat)=>if(f (lr n w d t r c).toNat (lc n w d t r c).toNat==f r c)=true then none else some (d7.val (.bool false)))=some x/\w4 y4 (f7 4) (G4 0 n) [some (.val (t0 n f)),some (.val (T3 w d t)),some (.val (.int n)),some (.val (.int (r:Nat))),q4,q5,q6]=some (.rt x)):=by
  intro r hr q4 q5 q6
  rcases a0g (body:=y4) (tg:=f7 4) (I:=fun ρ=>∃q4 q5 q6:Option d7,ρ=[some (.val (t0 n f)),some (.val (T3 w d t)),some (.val (.int n)),some (.val (.int (r:Nat))),q4,q5,q6]) (f:=fun(c:Nat)=>if(f (lr n w d t r c).toNat (lc n w d t r c).toNat==f r c)=true then none else some (d7.val (.bool false))) (n:=n) (ρ:=[some (.val (t0 n f)),some (.val (T3 w d t)),some (.val (.int n)),some (.val (.int (r:Nat))),q4,q5,q6])
   (by
    rintro c hc ρ ⟨q4,q5,q6,rfl⟩ hf
    obtain⟨⟨b1,b2⟩,b3,b4⟩:=a1E (n:=(n:Int)) (by lia) w d t r c
    have hq:(f (lr n w d t r c).toNat (lc n w d t r c).toNat==f r c)=true:=by
     split at hf
     ·assumption
     ·cases hf
    apply a4W rfl
    ·unfold y4
     simp (disch:=omega) only [k9,c9,d8,b9,a9,b0,l0,f9,f6,g0,m4,S1,r8,m8,p6,Y6,a42,AH,AR,AS,AT,Aa,↓reduceIte,Bool.not_true,sz,Nat.reduceAdd,Ah,S5 hw (s:=(n:Int)) (by lia),T4 b1 b2,a04 b3 b4 (by lia),T4 (n:=n) (f:=f) (i:=((r:Nat):Int)) (by lia) (by lia),a04 (n:=n) (g:=fun c=>f r c) (j:=((c:Nat):Int)) (by lia) (by lia) (by lia),tn,a3h,a1o,hq]
     try rfl
    ·exact⟨_,_,_,rfl⟩)
   (by
    rintro c hc ρ ⟨q4,q5,q6,rfl⟩ x hf
    obtain⟨⟨b1,b2⟩,b3,b4⟩:=a1E (n:=(n:Int)) (by lia) w d t r c
    have hq:(f (lr n w d t r c).toNat (lc n w d t r c).toNat==f r c)=false/\x= .val (.bool false):=by
     split at hf
     ·cases hf
     ·rename_i h;cases hf;exact⟨by simpa using h,rfl⟩
    obtain⟨hq,rfl⟩:=hq
    refine⟨_,rfl, ?_⟩
    unfold y4
    simp (disch:=omega) only [k9,l9,c9,d8,b9,a9,b0,l0,f9,m5,x4,f6,g0,m4,a0D,m8,p6,Y6,a42,AH,AR,AS,AT,Aa,↓reduceIte,Bool.not_false,sz,Nat.reduceAdd,Ah,S5 hw (s:=(n:Int)) (by lia),T4 b1 b2,a04 b3 b4 (by lia),T4 (n:=n) (f:=f) (i:=((r:Nat):Int)) (by lia) (by lia),a04 (n:=n) (g:=fun c=>f r c) (j:=((c:Nat):Int)) (by lia) (by lia) (by lia),tn,a3h,a1o,hq]
    try rfl) ⟨q4,q5,q6,rfl⟩ with⟨h1,ρ',h2,a,b,c,rfl⟩|⟨x,h1,h2⟩
  ·exact .inl ⟨h1,_,h2,_,_,_,_,rfl⟩
  ·exact .inr ⟨x,h1,h2⟩
 have outer:=a0g (body:=G7) (tg:=f7 3) (I:=fun ρ=>∃q3 q4 q5 q6:Option d7,ρ=[some (.val (t0 n f)),some (.val (T3 w d t)),some (.val (.int n)),q3,q4,q5,q6]) (f:=fun(r:Nat)=>(AW n).findSome? (fun(c:Nat)=>if(f (lr n w d t r c).toNat (lc n w d t r c).toNat==f r c)=true then none else some (d7.val (.bool false)))) (n:=n) (ρ:=[some (.val (t0 n f)),some (.val (T3 w d t)),some (.val (.int n)),none,none,none,none])
  (by
   rintro r hr ρ ⟨q3,q4,q5,q6,rfl⟩ hf
   rcases inner r hr q4 q5 q6 with⟨_,ρ',h2,h3⟩|⟨x,h1,_⟩
   ·apply a4W rfl
    ·unfold G7
     simp (disch:=omega) only [c9,d8,b9,a9,b0,j9,n5,r9,AH,AR,AS]
     exact h2
    ·exact h3
   ·rw [h1] at hf;cases hf)
  (by
   rintro r hr ρ ⟨q3,q4,q5,q6,rfl⟩ x hf
   rcases inner r hr q4 q5 q6 with⟨h1,_⟩|⟨y,h1,h2⟩
   ·rw [h1] at hf;cases hf
   ·rw [h1] at hf;cases hf
    refine⟨_,rfl, ?_⟩
    unfold G7
    simp (disch:=omega) only [c9,d8,b9,a9,b0,j9,n5,r9,AH,AR,AS]
    exact h2) ⟨none,none,none,none,rfl⟩
 unfold N3 a3G
 rcases outer with⟨h1,ρ',h2,a,b,c,e,rfl⟩|⟨x,h1,h2⟩
 ·have hN:uaR n f w d t=none:=by
   refine a41.mpr fun r c hr hc=> ?_
   obtain⟨a,b,ha,hb,e1,e2⟩:=a2m hn hw d t hr hc
   have g1:=List.findSome?_eq_none_iff.mp h1 a (List.mem_range.mpr ha)
   have g2:=List.findSome?_eq_none_iff.mp g1 b (List.mem_range.mpr hb)
   have g3:=a4s hn f hw d t ha hb
   have g4:f (lr n w d t a b).toNat (lc n w d t a b).toNat=f a b:=by
    split at g2
    ·rename_i h;simpa using h
    ·cases g2
   rw [<-g3,e1,e2,tn,tn] at g4
   exact g4
  rw [hN]
  simp (disch:=omega) only [B0,l9,c9,d8,b9,a9,b0,g8,n6,m5,x4,f6,g0,j8,m9,j9,n5,r9,AH,AM,Ad,Ac,Af,Ao,Ak,AR,AS,J0,h2]
  try rfl
 ·obtain⟨r,hr,g1⟩:=List.exists_of_findSome?_eq_some h1
  obtain⟨c,hc,g2⟩:=List.exists_of_findSome?_eq_some g1
  have hr:=List.mem_range.mp hr
  have hc:=List.mem_range.mp hc
  have hq:(f (lr n w d t r c).toNat (lc n w d t r c).toNat==f r c)=false/\x= .val (.bool false):=by
   split at g2
   ·cases g2
   ·rename_i h;cases g2;exact⟨by simpa using h,rfl⟩
  obtain⟨hq,rfl⟩:=hq
  have hS:(uaR n f w d t).isNone=false:=by
   cases hu:uaR n f w d t with
   |some _=>rfl
   |none=>
    obtain⟨⟨b1,b2⟩,b3,b4⟩:=a1E (n:=(n:Int)) (by lia) w d t r c
    have g3:=a41.mp hu (lr n w d t r c).toNat (lc n w d t r c).toNat (by lia) (by lia)
    rw [a4s hn f hw d t hr hc] at g3
    rw [g3] at hq
    simp at hq
  rw [hS]
  simp (disch:=omega) only [B0,c9,d8,b9,a9,b0,g8,n6,f6,g0,a3q,j8,m9,j9,n5,r9,AH,AM,Ad,Ac,Af,Ao,Ak,AR,AS,J0,h2]
  try rfl
def a0r(ws:List Str)(n:Nat):List PV:=ws.flatMap fun w=>(AW n).flatMap fun d=>(AW n).map fun t=>T3 w (d:Nat) (t:Nat)
def b66:MS:=z6 1 (u9 (a5 (a6 2) (a5 (a6 3) (a5 (a6 4) c8))))
def b5c:MS:=B7 (D9 (a5 (a6 0) c8)) (f7 4) b66
def b5d:MS:=B7 (D9 (a5 (a6 0) c8)) (f7 3) b5c
theorem b71{n:Nat}(hn8:n<=8)(w:Str)(d:Nat)(ps:List PV)(hl:ps.length<10000)(q4:Option d7):∃q4':Option d7,b5c [some (.val (.int n)),some (.own ps),some (.val (.str w)),some (.val (.int (d:Nat))),q4]=some (.nx [some (.val (.int n)),some (.own (ps++(AW n).map fun t=>T3 w (d:Nat) (t:Nat))),some (.val (.str w)),some (.val (.int (d:Nat))),q4']):=by
 obtain⟨ρ1,e1,q,rfl⟩:=m7 (body:=b66) (tg:=f7 4) (fun j ρ=>∃q:Option d7,ρ=[some (.val (.int n)),some (.own (ps++(AW j).map fun t=>T3 w (d:Nat) (t:Nat))),some (.val (.str w)),some (.val (.int (d:Nat))),q])
  (ps:=G4 0 n) (ρ:=[some (.val (.int n)),some (.own ps),some (.val (.str w)),some (.val (.int (d:Nat))),q4])
  (by
   rintro j p hp ρ ⟨q,rfl⟩
   obtain⟨rfl,hj⟩:=G9 hp
   have hj':(0:Int)+(j:Int)=(j:Int):=by lia
   rw [hj'] at hj ⊢
   refine p4 rfl (ρ2:=[some (.val (.int n)),some (.own (ps++(AW (j+1)).map fun t=>T3 w (d:Nat) (t:Nat))),some (.val (.str w)),some (.val (.int (d:Nat))),some (.val (.int (j:Nat)))]) ?_ ⟨_,rfl⟩
   unfold b66
   rw [t8 (r:= .val (T3 w (d:Nat) (j:Nat))) (by simp (disch:=omega) only [c9,d8,b9,a9,b0,l0,AH,AR,AS,AT,Aa,↓reduceIte,sz,Nat.reduceAdd,Ah]) rfl rfl (by rw [AZ,AU,BD];lia),List.range_succ,Ax,List.append_assoc]
   rfl) ⟨q4,by simp⟩
 rw [C4,show((n:Int) - 0).toNat=n by lia] at e1
 refine⟨q, ?_⟩
 unfold b5c
 simp (disch:=omega) only [c9,b9,a9,b0,j9,n5,r9,AH]
 exact e1
theorem a96(n d:Nat)(w:Str):((AW d).flatMap fun d=>(AW n).map fun t=>T3 w (d:Nat) (t:Nat)).length=d*n:=by
 induction d with
 |zero=>simp
 |succ d ih=>rw [List.range_succ,List.flatMap_append,AZ,ih];simp [Nat.succ_mul]
theorem b72{n:Nat}(hn8:n<=8)(w:Str)(ps:List PV)(hl:ps.length<5000)(q3 q4:Option d7):∃q3' q4':Option d7,b5d [some (.val (.int n)),some (.own ps),some (.val (.str w)),q3,q4]=some (.nx [some (.val (.int n)),some (.own (ps++(AW n).flatMap fun d=>(AW n).map fun t=>T3 w (d:Nat) (t:Nat))),some (.val (.str w)),q3',q4']):=by
 obtain⟨ρ1,e1,q3',q4',rfl⟩:=m7 (body:=b5c) (tg:=f7 3) (fun j ρ=>∃q3 q4:Option d7,ρ=[some (.val (.int n)),some (.own (ps++(AW j).flatMap fun d=>(AW n).map fun t=>T3 w (d:Nat) (t:Nat))),some (.val (.str w)),q3,q4])
  (ps:=G4 0 n) (ρ:=[some (.val (.int n)),some (.own ps),some (.val (.str w)),q3,q4])
  (by
   rintro j p hp ρ ⟨q3,q4,rfl⟩
   obtain⟨rfl,hj⟩:=G9 hp
   have hj':(0:Int)+(j:Int)=(j:Int):=by lia
   rw [hj'] at hj ⊢
   have hjn:j*n<=8*8:=Nat.mul_le_mul (by lia) hn8
   obtain⟨q4',e⟩:=b71 hn8 w j (ps++(AW j).flatMap fun d=>(AW n).map fun t=>T3 w (d:Nat) (t:Nat)) (by rw [AZ,a96];lia) q4
   refine p4 rfl e ⟨some (.val (.int (j:Nat))),q4', ?_⟩
   rw [List.range_succ,List.flatMap_append,List.append_assoc]
   simp) ⟨q3,q4,by simp⟩
 rw [C4,show((n:Int) - 0).toNat=n by lia] at e1
 refine⟨q3',q4', ?_⟩
 unfold b5d
 simp (disch:=omega) only [c9,b9,a9,b0,j9,n5,r9,AH]
 exact e1
theorem a3C(ws:List Str)(n:Nat):(a0r ws n).length=ws.length*(n*n):=by
 induction ws with
 |nil=>simp [a0r]
 |cons w ws ih=>
  have e:a0r (w::ws) n=((AW n).flatMap fun d=>(AW n).map fun t=>T3 w (d:Nat) (t:Nat))++a0r ws n:=rfl
  rw [e,AZ,ih,a96,AT,Nat.succ_mul,Nat.add_comm]
theorem a95{n:Nat}(hn8:n<=8)(ws:List Str)(hw:ws.length<=8):∃q2 q3 q4:Option d7,w4 b5d (f7 2) (ws.map .str) [some (.val (.int n)),some (.own []),none,none,none]=some (.nx [some (.val (.int n)),some (.own (a0r ws n)),q2,q3,q4]):=by
 have hnn:n*n<=8*8:=Nat.mul_le_mul hn8 hn8
 obtain⟨ρ1,e1,q2,q3,q4,rfl⟩:=m7 (body:=b5d) (tg:=f7 2) (fun j ρ=>∃q2 q3 q4:Option d7,ρ=[some (.val (.int n)),some (.own (a0r (ws.take j) n)),q2,q3,q4])
  (ps:=ws.map .str) (ρ:=[some (.val (.int n)),some (.own []),none,none,none])
  (by
   rintro j p hp ρ ⟨q2,q3,q4,rfl⟩
   rw [Aq] at hp
   cases hj:ws[j]? with
   |none=>rw [hj] at hp;cases hp
   |some w=>
    rw [hj] at hp
    cases hp
    have hjl:j<ws.length:=(Ar.mp hj).1
    have hl:(a0r (ws.take j) n).length<5000:=by
     rw [a3C,List.length_take]
     have:min j ws.length*(n*n)<=8*(8*8):=Nat.mul_le_mul (by lia) hnn
     lia
    obtain⟨q3',q4',e⟩:=b72 hn8 w (a0r (ws.take j) n) hl q3 q4
    refine p4 rfl e ⟨some (.val (.str w)),q3',q4', ?_⟩
    have ew:ws[j]=w:=(Ar.mp hj).2
    rw [List.take_succ_eq_append_getElem hjl,ew]
    unfold a0r
    rw [List.flatMap_append]
    simp) ⟨none,none,none,by simp [a0r]⟩
 rw [AU,List.take_length] at e1
 exact⟨q2,q3,q4,e1⟩
def Q7:List Str:=[AI "back",AI "cross",AI "flip",AI "half",AI "other",AI "side",AI "stay",AI "turn"]
theorem a8k:(Q7.all fun w=>decide (w∈k6))=true:=by decide+kernel
theorem b3m:(k6.all fun w=>decide (w∈Q7))=true:=by decide+kernel
theorem a8l{w:Str}:w∈Q7↔w∈k6:=⟨fun h=>of_decide_eq_true (List.all_eq_true.mp a8k w h),fun h=>of_decide_eq_true (List.all_eq_true.mp b3m w h)⟩
theorem b1d{n:Nat}(hn8:n<=8):C7 [.int n]=some (.own (a0r Q7 n)):=by
 obtain⟨q2,q3,q4,e⟩:=a95 hn8 Q7 (by decide)
 have e1:a6n (.val a6X)=some (.own (Q7.map .str)):=by kernel_rfl
 unfold C7 V7
 simp (disch:=omega) only [B0,l9,b9,S7,v4,g8,a3D,f6,g0,j8,j9,AH,AM,Ad,Ac,Af,Ao,Ak,AR,AS,Aa,↓reduceIte,D0,w6,sz,Ah,e1]
 rw [show w4 N5 (f7 2) (Q7.map .str) [some (.val (.int n)),some (.own []),none,none,none]=_ from e]
 simp (disch:=omega) only [g0,m9,AH,a0m,a0n]
abbrev MV:=Str×Int×Int
def tp(x:MV):PV:= .tuple [.str x.1,.int x.2.1,.int x.2.2]
def ky(x:MV):List f8:=[.inr x.1,.inl x.2.1,.inl x.2.2]
theorem a6t{x y:MV}(h:ky x=ky y):x=y:=by
 obtain⟨a,b,c⟩:=x
 obtain⟨a',b',c'⟩:=y
 injection h with h1 h2
 injection h2 with h2 h3
 injection h3 with h3 _
 have a1:a=a':=Sum.inr.inj h1
 have a2:b=b':=Sum.inl.inj h2
 have a3:c=c':=Sum.inl.inj h3
 rw [a1,a2,a3]
def mul(n:Int)(x y:MV):MV:=(o0 x.1 y.1,(i6 y.1 x.2.1 x.2.2+y.2.1) % n,(i5 y.1 x.2.1 x.2.2+y.2.2) % n)
def e0:MV:=(AI "stay",0,0)
def C0(n:Int)(x:MV):Prop:=x.1∈k6/\(0<=x.2.1/\x.2.1<n)/\0<=x.2.2/\x.2.2<n
theorem b4t{n:Int}(hn:0<n):C0 n e0:=⟨by decide+kernel,⟨Int.le_refl _,hn⟩,Int.le_refl _,hn⟩
theorem a6H{n:Int}(hn:0<n){x y:MV}(hx:C0 n x)(hy:C0 n y):C0 n (mul n x y):=
 ⟨b1m hx.1 hy.1,⟨Int.emod_nonneg _ (by lia),Int.emod_lt_of_pos _ hn⟩,Int.emod_nonneg _ (by lia),Int.emod_lt_of_pos _ hn⟩
theorem a0A:(k6.all fun a=>decide (o0 a (AI "stay")=a)&& decide (o0 (AI "stay") a=a))=true:=by decide+kernel
theorem a9T{n:Int}{x:MV}(hx:C0 n x):mul n x e0=x:=by
 obtain⟨w,d,t⟩:=x
 have h:=List.all_eq_true.mp a0A w hx.1
 simp only [Bool.and_eq_true,decide_eq_true_eq] at h
 show(o0 w (AI "stay"),(d+0) % n,(t+0) % n)=_
 rw [h.1,Int.add_zero,Int.add_zero,Int.emod_eq_of_lt hx.2.1.1 hx.2.1.2,Int.emod_eq_of_lt hx.2.2.1 hx.2.2.2]
theorem b1w{n:Int}{x:MV}(hx:C0 n x):mul n e0 x=x:=by
 obtain⟨w,d,t⟩:=x
 have h:=List.all_eq_true.mp a0A w hx.1
 simp only [Bool.and_eq_true,decide_eq_true_eq] at h
 have h0:i6 w 0 0=0/\i5 w 0 0=0:=by
  rcases v5 hx.1 with h|h|h|h|h|h|h|h<;>(have h':w=_:=h;subst h';exact⟨rfl,rfl⟩)
 show(o0 (AI "stay") w,(i6 w 0 0+d) % n,(i5 w 0 0+t) % n)=_
 rw [h.2,h0.1,h0.2,Int.zero_add,Int.zero_add,Int.emod_eq_of_lt hx.2.1.1 hx.2.1.2,Int.emod_eq_of_lt hx.2.2.1 hx.2.2.2]
theorem N8{n:Int}{x y z:MV}(hx:C0 n x)(hy:C0 n y)(hz:C0 n z):mul n (mul n x y) z=mul n x (mul n y z):=by
 obtain⟨a,d1,r1⟩:=x
 obtain⟨b,d2,r2⟩:=y
 obtain⟨c,d3,r3⟩:=z
 have ha:a∈k6:=hx.1
 have hb:b∈k6:=hy.1
 have hc:c∈k6:=hz.1
 show(o0 (o0 a b) c,(i6 c ((i6 b d1 r1+d2) % n) ((i5 b d1 r1+r2) % n)+d3) % n,(i5 c ((i6 b d1 r1+d2) % n) ((i5 b d1 r1+r2) % n)+r3) % n)=
  (o0 a (o0 b c),(i6 (o0 b c) d1 r1+(i6 c d2 r2+d3) % n) % n,(i5 (o0 b c) d1 r1+(i5 c d2 r2+r3) % n) % n)
 rw [a8D ha hb hc,a1Q hc,a1s hc,a8a hb hc,a7j hb hc,a1P hc,a1r hc,Int.add_emod_emod,Int.add_emod_emod,Int.add_assoc,Int.add_assoc]
inductive M5 (n:Int) (G:List MV):MV->Prop
 |base:M5 n G e0
 |step {x g:MV}:M5 n G x->g∈G->M5 n G (mul n x g)
theorem M5.ok{n:Int}(hn:0<n){G:List MV}(hG:∀g∈G,C0 n g){x:MV}(h:M5 n G x):C0 n x:=by
 induction h with
 |base=>exact b4t hn
 |step _ hg ih=>exact a6H hn ih (hG _ hg)
theorem M5.gen{n:Int}{G:List MV}(hG:∀g∈G,C0 n g){g:MV}(h:g∈G):M5 n G g:=by
 have:=M5.step (n:=n) (G:=G) M5.base h
 rwa [b1w (hG g h)] at this
theorem M5.mul{n:Int}(hn:0<n){G:List MV}(hG:∀g∈G,C0 n g){x y:MV}(hx:M5 n G x)(hy:M5 n G y):M5 n G (mul n x y):=by
 induction hy with
 |base=>rw [a9T (hx.ok hn hG)];exact hx
 |step h hg ih=>rw [<-N8 (hx.ok hn hG) (h.ok hn hG) (hG _ hg)];exact ih.step hg
theorem M5.sub{n:Int}(hn:0<n){G D:List MV}(hG:∀g∈G,C0 n g)(hD:∀d∈D,M5 n G d){x:MV}(h:M5 n D x):M5 n G x:=by
 induction h with
 |base=>exact .base
 |step _ hg ih=>exact ih.mul hn hG (hD _ hg)
theorem M5.mono{n:Int}{G D:List MV}(h:∀g∈G,g∈D){x:MV}(r:M5 n G x):M5 n D x:=by
 induction r with
 |base=>exact .base
 |step _ hg ih=>exact ih.step (h _ hg)
def b5S(n:Nat):List MV:=k6.flatMap fun w=>(AW n).flatMap fun d=>(AW n).map fun t=>(w,(d:Nat),(t:Nat))
theorem b2r{n:Nat}{x:MV}(h:C0 n x):x∈b5S n:=by
 obtain⟨w,d,t⟩:=x
 obtain⟨h1,h2,h3⟩:=h
 refine List.mem_flatMap.mpr ⟨w,h1,List.mem_flatMap.mpr ⟨d.toNat,List.mem_range.mpr (by have:0<=d/\d<n:=h2;lia),Aj.mpr ⟨t.toNat,List.mem_range.mpr (by have:0<=t/\t<n:=h3;lia), ?_⟩⟩⟩
 have a:0<=d/\d<n:=h2
 have b:0<=t/\t<n:=h3
 rw [Int.toNat_of_nonneg a.1,Int.toNat_of_nonneg b.1]
theorem a5X(k:Nat):∀m:Nat,((AW m).map fun _=>k).sum=m*k
 |0=>by simp
 |m+1=>by rw [List.range_succ,Ax,List.sum_append,a5X k m,Nat.succ_mul];simp
theorem b1c(n:Nat):(b5S n).length=8*(n*n):=by
 unfold b5S
 rw [List.length_flatMap]
 have:∀w:Str,((AW n).flatMap fun d=>(AW n).map fun t=>((w,(d:Nat),(t:Nat)):MV)).length=n*n:=by
  intro w
  rw [List.length_flatMap]
  simp only [AU,BD]
  exact a5X n n
 simp only [this]
 show([n*n,n*n,n*n,n*n,n*n,n*n,n*n,n*n]:List Nat).sum=_
 simp only [List.sum_cons,List.sum_nil]
 lia
theorem a7V{α:Type}[DecidableEq α]:∀{l m:List α},l.Nodup->(∀x∈l,x∈m)->l.length<=m.length
 |[],_,_,_=>Nat.zero_le _
 |x::l,m,hn,h=>by
  have hx:=h x Al
  have hn':=List.nodup_cons.mp hn
  have ih:=a7V (l:=l) (m:=m.erase x) hn'.2 fun y hy=>(List.mem_erase_of_ne (fun e:y=x=>hn'.1 (e▸hy))).mpr (h y (Ai _ hy))
  rw [List.length_erase_of_mem hx] at ih
  have:0<m.length:=List.length_pos_of_mem hx
  rw [AT];lia
theorem a84{n:Nat}{L:List MV}(hn:L.Nodup)(h:∀x∈L,C0 n x):L.length<=8*(n*n):=by
 rw [<-b1c];exact a7V hn fun x hx=>b2r (h x hx)
def grow(n:Int)(x:MV):List MV->List MV->List MV
 |[],L=>L
 |g::G,L=>grow n x G (if mul n x g∈L then L else L++[mul n x g])
def fresh(n:Int)(x:MV):List MV->List MV->List MV
 |[],_=>[]
 |g::G,L=>if mul n x g∈L then fresh n x G L else mul n x g::fresh n x G (L++[mul n x g])
theorem u7(n:Int)(x:MV):∀(G L:List MV),grow n x G L=L++fresh n x G L
 |[],L=>by show L=L++[];rw [Am]
 |g::G,L=>by
  unfold grow fresh
  split
  ·exact u7 n x G L
  ·rw [u7 n x G,List.append_assoc];rfl
theorem a35(n:Int)(x:MV):∀(G L:List MV),L.Nodup->(grow n x G L).Nodup
 |[],L,h=>h
 |g::G,L,h=>by
  unfold grow
  refine a35 n x G _ ?_
  split
  ·exact h
  ·rename_i c
   refine List.nodup_append.mpr ⟨h,by simp,fun a ha b hb e=>c ?_⟩
   rw [List.mem_singleton.mp hb] at e
   rw [<-e];exact ha
theorem J6(n:Int)(x:MV):∀(G L:List MV) (y:MV),y∈grow n x G L↔y∈L\/∃g∈G,y=mul n x g
 |[],L,y=>by simp [grow]
 |g::G,L,y=>by
  unfold grow
  rw [J6 n x G]
  split
  ·rename_i c
   constructor
   ·rintro(h|⟨q,hq,e⟩)
    ·exact .inl h
    ·exact .inr ⟨q,Ai _ hq,e⟩
   ·rintro(h|⟨q,hq,e⟩)
    ·exact .inl h
    ·rcases Ag.mp hq with rfl|hq
     ·exact .inl (e▸c)
     ·exact .inr ⟨q,hq,e⟩
  ·constructor
   ·rintro(h|⟨q,hq,e⟩)
    ·rcases Ap.mp h with h|h
     ·exact .inl h
     ·exact .inr ⟨g,Al,List.mem_singleton.mp h⟩
    ·exact .inr ⟨q,Ai _ hq,e⟩
   ·rintro(h|⟨q,hq,e⟩)
    ·exact .inl (Ay _ h)
    ·rcases Ag.mp hq with rfl|hq
     ·exact .inl (Av _ (List.mem_singleton.mpr e))
     ·exact .inr ⟨q,hq,e⟩
def O5(L:List MV):List (List f8×PV):=L.map fun x=>(ky x,PyData.bool true)
theorem a6f(L:List MV)(x:MV):(m6 (O5 L) (ky x)).isSome=decide (x∈L):=by
 unfold m6 O5
 induction L with
 |nil=>rfl
 |cons y L ih=>
  rw [AM,List.find?_cons]
  by_cases h:ky y=ky x
  ·have:y=x:=a6t h
   subst this
   simp
  ·rw [show decide ((ky y,PyData.bool true).1=ky x)=false from decide_eq_false h]
   rw [ih]
   have:x≠y:=fun e=>h (by rw [e])
   simp [this]
theorem a9x{L:List MV}{x:MV}(h:x∉L):M1 (O5 L) (ky x) (.bool true)=O5 (L++[x]):=by
 unfold M1
 have:((O5 L).any fun kv=>decide (kv.1=ky x))=false:=by
  rw [List.any_eq_false]
  intro kv hk
  obtain⟨y,hy,rfl⟩:=Aj.mp hk
  simp only [decide_eq_true_eq]
  exact fun e=>h (a6t e▸hy)
 rw [this]
 simp [O5]
theorem b1s(L:List MV):(O5 L).map (·.1)=L.map ky:=by unfold O5;rw [Az];rfl
theorem a6e(L:List MV):(O5 L).length=L.length:=by unfold O5;rw [AU]
def srt(L:List MV):List PV:=(O2 E2 (L.map ky)).map kT
theorem b2M{α β:Type}{f:α->β}:∀{l:List β} {L:List α},(L.map f).Perm l->∃M:List α,M.Perm L/\M.map f=l:=by
 intro l L h
 generalize hK:L.map f=K at h
 induction h generalizing L with
 |nil=>exact⟨[],by rw [List.map_eq_nil_iff] at hK;rw [hK],rfl⟩
 |cons x _ ih=>
  cases L with
  |nil=>cases hK
  |cons y L=>
   rw [AM] at hK
   injection hK with h1 h2
   obtain⟨M,a,b⟩:=ih h2
   exact⟨y::M,a.cons y,by rw [AM,b,h1]⟩
 |swap x y l=>
  match L,hK with
  |a::b::L,hK=>
   injection hK with h1 h2
   injection h2 with h2 h3
   exact⟨b::a::L,List.Perm.swap a b L,by rw [AM,AM,h1,h2,h3]⟩
  |[_],hK=>cases hK
  |[],hK=>cases hK
 |trans _ _ ih1 ih2=>
  obtain⟨M,a,b⟩:=ih1 hK
  obtain⟨N,c,d⟩:=ih2 b
  exact⟨N,c.trans a,d⟩
theorem b6Z(L:List MV):∃M:List MV,M.Perm L/\srt L=M.map tp/\(M.map ky).Pairwise fun a b=>E2 b a=false:=by
 have hp:=a1a (lt:=E2) (L.map ky)
 obtain⟨M,hM,hP⟩:∃M:List MV,M.map ky=O2 E2 (L.map ky)/\M.Perm L:=by
  have h:=hp.symm
  revert h
  generalize O2 E2 (L.map ky)=T
  intro h
  obtain⟨M,h1,h2⟩:=b2M h
  exact⟨M,h2,h1⟩
 refine⟨M,hP, ?_,by rw [hM];exact V2 S2 _⟩
 unfold srt
 rw [<-hM,Az]
 rfl
theorem a80(L:List MV):okK (L.map ky)=true:=by
 cases L with
 |nil=>rfl
 |cons x L=>
  show(!(ky x).isEmpty &&(L.map ky).all fun j=>j.map sgK==(ky x).map sgK)=true
  rw [Bool.and_eq_true]
  refine⟨rfl,List.all_eq_true.mpr fun j hj=> ?_⟩
  obtain⟨y,_,rfl⟩:=Aj.mp hj
  rfl
theorem b3k{n:Int}(hn:0<n){x y:MV}(hx:C0 n x)(hy:C0 n y):a2g [.int n,tp x,tp y]=some (.val (tp (mul n x y))):=b5b hx.1 hy.1 hn _ _ _ _
theorem a98{w:Str}(h:w∈Q7):w∈k6:=of_decide_eq_true (List.all_eq_true.mp a8k w h)
theorem b1K:(k6.all fun a=>k6.all fun b=>decide (Q7.find? (fun w=>decide (i6 w 1 2=i6 b (i6 a 1 2) (i5 a 1 2))&& decide (i5 w 1 2=i5 b (i6 a 1 2) (i5 a 1 2)))=some (o0 a b)))=true:=by decide+kernel
theorem b1P(a b c d:Int):gEq (.val (.tuple [.int a,.int b])) (.val (.tuple [.int c,.int d]))=some (.val (.bool (decide (a=c)&& decide (b=d)))):=by
 rw [b1Q (x:= .val (.tuple [.int a,.int b])) (y:= .val (.tuple [.int c,.int d])) ⟨rfl,rfl⟩]
 congr 3
 show PyData.eqv (.tuple [.int a,.int b]) (.tuple [.int c,.int d])=_
 simp [PyData.eqv,PyData.eqvAll]
 try (by_cases h1:a=c<;>by_cases h2:b=d<;>simp [h1,h2])
theorem a12{n:Int}(hn:0<n){x y:MV}(hx:C0 n x)(hy:C0 n y):F8 [.int n,tp x,tp y]=some (.val (tp (mul n x y))):=by
 obtain⟨a,d,r⟩:=x
 obtain⟨b,e,t⟩:=y
 have ha:a∈k6:=hx.1
 have hb:b∈k6:=hy.1
 have hf:=of_decide_eq_true (List.all_eq_true.mp (List.all_eq_true.mp b1K a ha) b hb)
 generalize hR:i6 b (i6 a 1 2) (i5 a 1 2)=R at hf
 generalize hC:i5 b (i6 a 1 2) (i5 a 1 2)=C at hf
 let f:PV->Option d7:=fun p=>match p with
  | .str w=>if(decide (i6 w 1 2=R)&& decide (i5 w 1 2=C))=true then some (.val (T3 w (lr n b e t d r) (lc n b e t d r))) else none
  |_=>none
 have hfs:∀l:List Str,(l.map PyData.str).findSome? f=(l.find? fun w=>decide (i6 w 1 2=R)&& decide (i5 w 1 2=C)).map fun w=> .val (T3 w (lr n b e t d r) (lc n b e t d r)):=by
  intro l
  induction l with
  |nil=>rfl
  |cons w l ih=>
   rw [AM,List.findSome?_cons,List.find?_cons]
   cases h:(decide (i6 w 1 2=R)&& decide (i5 w 1 2=C)) with
   |true=>rw [show f (.str w)=some (.val (T3 w (lr n b e t d r) (lc n b e t d r))) from by show(if _ then _ else _)=_;rw [if_pos h]];rfl
   |false=>rw [show f (.str w)=none from by show(if _ then _ else _)=_;rw [if_neg (by rw [h];exact As)]];exact ih
 have run:=a5w (body:=x9) (tg:=f7 4) (I:=fun ρ=>∃q4 q5 q6:Option d7,ρ=[some (.val (.int n)),some (.val (T3 a d r)),some (.val (T3 b e t)),some (.val (.tuple [.int R,.int C])),q4,q5,q6]) (f:=f)
  (ps:=Q7.map .str) (ρ:=[some (.val (.int n)),some (.val (T3 a d r)),some (.val (T3 b e t)),some (.val (.tuple [.int R,.int C])),none,none,none])
  (by
   rintro p hp ρ ⟨q4,q5,q6,rfl⟩ hf
   obtain⟨w,hw,rfl⟩:=Aj.mp hp
   have hb':(decide (i6 w 1 2=R)&& decide (i5 w 1 2=C))=false:=by
    cases h:(decide (i6 w 1 2=R)&& decide (i5 w 1 2=C)) with
    |false=>rfl
    |true=>
     have hf:(if(decide (i6 w 1 2=R)&& decide (i5 w 1 2=C))=true then some (d7.val (T3 w (lr n b e t d r) (lc n b e t d r))) else none)=none:=hf
     rw [if_pos h] at hf;cases hf
   apply a4W rfl
   ·unfold x9
    simp (disch:=omega) only [k9,l9,c9,d8,b9,a9,b0,f9,m4,S1,r8,m8,p6,AH,AR,AS,Z3 (a98 hw),b1P,hb']
    rfl
   ·exact⟨_,_,_,rfl⟩)
  (by
   rintro p hp ρ ⟨q4,q5,q6,rfl⟩ v hf
   obtain⟨w,hw,rfl⟩:=Aj.mp hp
   have hf:(if(decide (i6 w 1 2=R)&& decide (i5 w 1 2=C))=true then some (d7.val (T3 w (lr n b e t d r) (lc n b e t d r))) else none)=some v:=hf
   split at hf
   ·rename_i h
    cases hf
    refine⟨_,rfl, ?_⟩
    unfold x9
    simp (disch:=omega) only [A2,R9,k9,l9,c9,d8,b9,a9,b0,l0,f9,m5,x4,f6,g0,m4,a0D,m8,p6,Y6,a42,AH,AR,AS,AT,Aa,↓reduceIte,sz,Nat.reduceAdd,Ah,Z3 (a98 hw),b1P,h,S5 hb hn]
    try rfl
   ·cases hf) ⟨_,_,_,rfl⟩
 have hfind:(Q7.map PyData.str).findSome? f=some (.val (T3 (o0 a b) (lr n b e t d r) (lc n b e t d r))):=by rw [hfs,hf];rfl
 rcases run with⟨h1,_⟩|⟨v,h1,h2⟩
 ·rw [hfind] at h1;cases h1
 ·rw [hfind] at h1
  cases h1
  have h2':w4 x9 (f7 4) [.str (AI "back"),.str (AI "cross"),.str (AI "flip"),.str (AI "half"),.str (AI "other"),.str (AI "side"),.str (AI "stay"),.str (AI "turn")] [some (.val (.int n)),some (.val (.tuple [.str a,.int d,.int r])),some (.val (.tuple [.str b,.int e,.int t])),some (.val (.tuple [.int R,.int C])),none,none,none]=_:=h2
  unfold F8 a1k
  show C5 4 _ [.int n,.tuple [.str a,.int d,.int r],.tuple [.str b,.int e,.int t]]=_
  simp (disch:=omega) only [E7,A2,k9,l9,c9,d8,b9,a9,b0,l0,f9,g8,n6,f6,g0,a3q,j8,m9,j9,AH,AM,Ad,Ac,Af,Ao,Ak,AR,AS,AT,Aa,↓reduceIte,a2O,w6,sz,Nat.reduceAdd,Ah,Z3 ha,Z3 hb,hR,hC,h2']
  try rfl
theorem a34(n:Int)(x g:MV):∀(A L:List MV),grow n x (A++[g]) L=(if mul n x g∈grow n x A L then grow n x A L else grow n x A L++[mul n x g])
 |[],L=>rfl
 |a::A,L=>by
  show grow n x (A++[g]) _=_
  rw [a34 n x g A];rfl
theorem a2b(n:Int)(x g:MV):∀(A L:List MV),fresh n x (A++[g]) L=fresh n x A L++(if mul n x g∈grow n x A L then [] else [mul n x g])
 |[],L=>by
  show(if mul n x g∈L then _ else _)=_
  show _=(if mul n x g∈L then [] else [mul n x g])
  split<;>rfl
 |a::A,L=>by
  show(if mul n x a∈L then fresh n x (A++[g]) L else mul n x a::fresh n x (A++[g]) (L++[mul n x a]))=(if mul n x a∈L then fresh n x A L else mul n x a::fresh n x A (L++[mul n x a]))++(if mul n x g∈grow n x A (if mul n x a∈L then L else L++[mul n x a]) then [] else [mul n x g])
  by_cases h:mul n x a∈L
  ·rw [if_pos h,if_pos h,if_pos h,a2b n x g A]
  ·rw [if_neg h,if_neg h,if_neg h,a2b n x g A];rfl
theorem U0{ps:List PV}{i:Nat}{p:PV}(h:ps[i]?=some p):t6 (.bor ps) (.val (.int (i:Nat)))=some (.val p):=by
 have h':L2.atI ps (i:Int)=some p:=by rw [b1e];exact h
 simp [t6,d7.rd,M4.rd,PyData.items?,h']
theorem take_succ{α:Type}{l:List α}{i:Nat}{x:α}(h:l[i]?=some x):l.take (i+1)=l.take i++[x]:=by
 rw [List.take_succ,h];rfl
theorem a6B{G:List MV}{i:Nat}{p:PV}(h:(G.map tp)[i]?=some p):∃g,G[i]?=some g/\p=tp g:=by
 rw [Aq] at h
 cases hg:G[i]? with
 |none=>rw [hg] at h;cases h
 |some g=>rw [hg] at h;cases h;exact⟨g,rfl,rfl⟩
theorem A6(x:MV):W0 (.val (tp x))=some (ky x):=Eq.trans rfl rfl
structure Kn(n:Nat)(G L:List MV):Prop where
 nd:L.Nodup
 rc:∀x∈L,M5 n G x
 e:e0∈L
theorem Kn.grow{n:Nat}{G L A:List MV}(k:Kn n G L){x:MV}(hx:x∈L)(hA:∀a∈A,a∈G):Kn n G (grow n x A L):=
 ⟨a35 _ _ _ _ k.nd,fun y hy=>by
  rcases(J6 _ _ _ _ y).mp hy with h|⟨g,hg,rfl⟩
  ·exact k.rc y h
  ·exact(k.rc x hx).step (hA g hg),(J6 _ _ _ _ e0).mpr (.inl k.e)⟩
theorem Kn.len{n:Nat}(hn:0<n){G L:List MV}(hG:∀g∈G,C0 n g)(k:Kn n G L):L.length<=8*(n*n):=a84 k.nd fun x hx=>(k.rc x hx).ok (by lia) hG
theorem a0R{n:Nat}{G L:List MV}(k:Kn n G L)(h:∀x∈L,∀g∈G,mul n x g∈L):∀x,x∈L↔M5 n G x:=by
 intro x
 constructor
 ·exact k.rc x
 ·intro r
  induction r with
  |base=>exact k.e
  |step _ hg ih=>exact h _ ih _ hg
section
variable {n:Nat}(hn:0<n)(hn8:n<=8){G:List MV}(hG:∀g∈G,C0 n g)
include hn hn8 hG
theorem b4m{L:List MV}(k:Kn n G L){i:Nat}{x:MV}(hx:L[i]?=some x)(q5 q6:Option d7):
 ∃q5' q6',w4 G1 (f7 5) (G.map tp) [some (.val (.int n)),some (.val (.list (G.map tp))),some (.ow (.dct (O5 L))),some (.own (L.map tp)),some (.val (.int (i:Nat))),q5,q6]=some (.nx [some (.val (.int n)),some (.val (.list (G.map tp))),some (.ow (.dct (O5 (grow n x G L)))),some (.own ((grow n x G L).map tp)),some (.val (.int (i:Nat))),q5',q6']):=by
 have hxL:x∈L:=Au hx
 have hnn:n*n<=8*8:=Nat.mul_le_mul hn8 hn8
 obtain⟨ρ1,e1,q5',q6',rfl⟩:=m7 (body:=G1) (tg:=f7 5) (fun j ρ=>∃q5 q6,ρ=[some (.val (.int n)),some (.val (.list (G.map tp))),some (.ow (.dct (O5 (grow n x (G.take j) L)))),some (.own ((grow n x (G.take j) L).map tp)),some (.val (.int (i:Nat))),q5,q6])
  (ps:=G.map tp) (ρ:=[some (.val (.int n)),some (.val (.list (G.map tp))),some (.ow (.dct (O5 L))),some (.own (L.map tp)),some (.val (.int (i:Nat))),q5,q6])
  (by
   rintro j p hp ρ ⟨q5,q6,rfl⟩
   obtain⟨g,hg,rfl⟩:=a6B hp
   have hgG:g∈G:=Au hg
   have k':Kn n G (grow n x (G.take j) L):=k.grow hxL fun a ha=>List.mem_of_mem_take ha
   have hl:=k'.len hn hG
   have hxi:((grow n x (G.take j) L).map tp)[i]?=some (tp x):=by
    rw [u7,Ax,BB (by rw [AU];exact(Ar.mp hx).1),Aq,hx];rfl
   have hd:=a6f (grow n x (G.take j) L) (mul n x g)
   rw [take_succ hg,a34]
   by_cases hm:mul n x g∈grow n x (G.take j) L
   ·rw [decide_eq_true hm] at hd
    rw [if_pos hm]
    apply p4 rfl
    ·unfold G1
     simp (disch:=omega) only [k9,c9,G8,d8,b9,a9,b0,f9,g8,n6,f6,g0,m4,S1,r8,m8,p6,AH,AR,AS,↓reduceIte,Bool.not_true,U0 hxi,b3k (n:=(n:Int)) (by lia) ((k.rc x hxL).ok (by lia) hG) (hG g hgG),y6,A6,K4,K3,hd]
     rfl
    ·exact⟨_,_,rfl⟩
   ·rw [decide_eq_false hm] at hd
    rw [if_neg hm]
    refine p4 rfl (ρ2:=[some (.val (.int n)),some (.val (.list (G.map tp))),some (.ow (.dct (O5 (grow n x (G.take j) L++[mul n x g])))),some (.own ((grow n x (G.take j) L++[mul n x g]).map tp)),some (.val (.int (i:Nat))),some (.val (tp g)),some (.val (tp (mul n x g)))]) ?_ ⟨_,_,rfl⟩
    unfold G1
    simp (disch:=omega) only [k9,l9,c9,G8,d8,b9,a9,b0,f9,g8,n6,f6,g0,m4,a0D,m8,p6,AH,AR,AS,↓reduceIte,Bool.not_false,U0 hxi,b3k (n:=(n:Int)) (by lia) ((k.rc x hxL).ok (by lia) hG) (hG g hgG),y6,A6,K4,K3,hd,Y5]
    rw [X9 rfl (by rw [a6e];lia),a9x hm]
    simp (disch:=omega) only [g0,AH,AR,AS]
    rw [t8 (r:= .val (tp (mul n x g))) rfl rfl rfl (by rw [AU];lia),Ax]
    rfl) ⟨q5,q6,by simp [grow]⟩
 rw [AU,List.take_length] at e1
 exact⟨q5',q6',e1⟩
end
theorem b4l{n:Nat}(hn:0<n)(hn8:n<=8){G:List MV}(hG:∀g∈G,C0 n g):∃L:List MV,L.Nodup/\(∀x,x∈L↔M5 n G x)/\B5 [.int n,.list (G.map tp)]=some (.ow (.dct (O5 L))):=by
 have hnn:n*n<=8*8:=Nat.mul_le_mul hn8 hn8
 have cnd:∀(L:List MV) (i:Nat) (s0 s1 s2 q5 q6:Option d7),L.length<=1000->S8 (m2 a28 (a6 4) (m1 E8 (a6 3))) [s0,s1,s2,some (.own (L.map tp)),some (.val (.int (i:Nat))),q5,q6]=some (decide (i<L.length)):=by
  intro L i s0 s1 s2 q5 q6 hl
  have h1:E8 (.bor (L.map tp))=some (.val (.int (L.length:Nat))):=by
   have:=a3Y (L.map tp)
   rw [AU] at this
   exact this
  simp (disch:=omega) only [a6j,k9,B0,c9,G8,d8,m8,p6,AH,h1]
  by_cases h:i<L.length
  ·rw [decide_eq_true (show(i:Int)<(L.length:Int) by lia),decide_eq_true h]
   try rfl
  ·rw [decide_eq_false (show ¬(i:Int)<(L.length:Int) by lia),decide_eq_false h]
   try rfl
 obtain⟨ρ,m,hw,⟨L,i,q5,q6,rfl,k,hi,hm,hc⟩,hf⟩:=J9 (c:=S8 (m2 a28 (a6 4) (m1 E8 (a6 3)))) (body:=L8)
  (I:=fun m ρ=>∃(L:List MV) (i:Nat) (q5 q6:Option d7),ρ=[some (.val (.int n)),some (.val (.list (G.map tp))),some (.ow (.dct (O5 L))),some (.own (L.map tp)),some (.val (.int (i:Nat))),q5,q6]/\Kn n G L/\i<=L.length/\m+i=512/\(∀(j:Nat) (x:MV),j<i->L[j]?=some x->∀g∈G,mul n x g∈L))
  (by
   rintro m ρ ⟨L,i,q5,q6,rfl,k,hi,hm,hc⟩
   have hl:=k.len hn hG
   rw [cnd L i _ _ _ _ _ (by lia)]
   by_cases h:i<L.length
   ·right
    refine⟨by rw [decide_eq_true h], ?_⟩
    obtain⟨x,hx⟩:∃x,L[i]?=some x:=⟨L[i],getElem?_pos L i h⟩
    have hxL:x∈L:=Au hx
    obtain⟨q5',q6',e⟩:=b4m hn hn8 hG k hx q5 q6
    refine⟨[some (.val (.int n)),some (.val (.list (G.map tp))),some (.ow (.dct (O5 (grow n x G L)))),some (.own ((grow n x G L).map tp)),some (.val (.int ((i+1:Nat):Int))),q5',q6'],m - 1, ?_,by lia,grow n x G L,i+1,q5',q6',rfl,k.grow hxL fun a ha=>ha, ?_,by lia, ?_⟩
    ·unfold L8
     simp (disch:=omega) only [c9,d8,b0,f6,g0,j9,AH,D0,w6,e]
     rw [show((i+1:Nat):Int)=(i:Int)+1 by lia]
     rfl
    ·rw [u7,AZ];lia
    ·intro j y hj hy g hg
     rw [J6]
     by_cases hji:j<i
     ·have hjl:j<L.length:=by lia
      rw [u7,BB hjl] at hy
      exact .inl (hc j y hji hy g hg)
     ·have:j=i:=by lia
      subst this
      rw [u7,BB h,hx] at hy
      cases hy
      exact .inr ⟨g,hg,rfl⟩
   ·left
    rw [decide_eq_false h]) 1000 512 [some (.val (.int n)),some (.val (.list (G.map tp))),some (.ow (.dct (O5 [e0]))),some (.own ([e0].map tp)),some (.val (.int ((0:Nat):Int))),none,none] (by lia)
  ⟨[e0],0,none,none,rfl,⟨by simp,fun x hx=>by rw [List.mem_singleton.mp hx];exact .base,List.mem_singleton.mpr rfl⟩,by lia,by lia,fun j x hj=>by lia⟩
 have hl:=k.len hn hG
 rw [cnd L i _ _ _ _ _ (by lia)] at hf
 have hil:¬i<L.length:=of_decide_eq_false (Option.some.inj hf)
 refine⟨L,k.nd,a0R k fun x hx g hg=> ?_, ?_⟩
 ·obtain⟨j,hj,e⟩:=List.mem_iff_getElem.mp hx
  exact hc j x (by lia) (by rw [BA hj,e]) g hg
 ·unfold B5 a5k
  have hw':B9 (S8 (m2 a28 (a6 4) (m1 E8 (a6 3)))) L8 1000 [some (.val (.int n)),some (.val (.list (G.map tp))),some (.ow (.dct [([.inr (AI "stay"),.inl 0,.inl 0],.bool true)])),some (.own [.tuple [.str (AI "stay"),.int 0,.int 0]]),some (.val (.int 0)),none,none]=_:=hw
  simp (disch:=omega) only [l9,b9,a9,b0,l0,v4,g8,n6,f6,g0,j8,m9,AH,AM,Ad,Ac,Af,Ao,Ak,AR,AS,AT,Aa,↓reduceIte,a0m,a0n,sz,Nat.reduceAdd,Ah,a00,a6s,T2,hw']
  try rfl
theorem b29{L:List MV}(h:L.length<=1000):Y1 (.bo (.dct (O5 L)))=some (.own (srt L)):=by
 unfold Y1
 show(if okK ((O5 L).map (·.1))=true/\(O5 L).length<=16777216 then some (d7.own ((O2 E2 ((O5 L).map (·.1))).map kT)) else none)=_
 rw [b1s,if_pos ⟨a80 L,by rw [a6e];lia⟩]
 rfl
theorem b4k(c:M4)(ρ:a8):a6 0 (some (.ow c)::ρ)=some (.bo c):=Eq.trans rfl rfl
theorem b3S(x:MV):n4 (tp x) 49=true:=rfl
section
variable {n:Nat}(hn:0<n)(hn8:n<=8){G:List MV}(hG:∀g∈G,C0 n g)
include hn hn8 hG
theorem b3C{L W:List MV}(k:Kn n G L){x:MV}(hxL:x∈L)(hW:W.length<=1000)(q5 q6:Option d7):
 ∃q5' q6',w4 C2 (f7 5) (G.map tp) [some (.val (.int n)),some (.val (.list (G.map tp))),some (.ow (.dct (O5 L))),some (.own (W.map tp)),some (.val (tp x)),q5,q6]=some (.nx [some (.val (.int n)),some (.val (.list (G.map tp))),some (.ow (.dct (O5 (grow n x G L)))),some (.own ((W++fresh n x G L).map tp)),some (.val (tp x)),q5',q6']):=by
 have hnn:n*n<=8*8:=Nat.mul_le_mul hn8 hn8
 obtain⟨ρ1,e1,q5',q6',rfl⟩:=m7 (body:=C2) (tg:=f7 5) (fun j ρ=>∃q5 q6,ρ=[some (.val (.int n)),some (.val (.list (G.map tp))),some (.ow (.dct (O5 (grow n x (G.take j) L)))),some (.own ((W++fresh n x (G.take j) L).map tp)),some (.val (tp x)),q5,q6])
  (ps:=G.map tp) (ρ:=[some (.val (.int n)),some (.val (.list (G.map tp))),some (.ow (.dct (O5 L))),some (.own (W.map tp)),some (.val (tp x)),q5,q6])
  (by
   rintro j p hp ρ ⟨q5,q6,rfl⟩
   obtain⟨g,hg,rfl⟩:=a6B hp
   have hgG:g∈G:=Au hg
   have k':Kn n G (grow n x (G.take j) L):=k.grow hxL fun a ha=>List.mem_of_mem_take ha
   have hl:=k'.len hn hG
   have hfl:(fresh n x (G.take j) L).length<=8*(n*n):=by
    have:=hl
    rw [u7,AZ] at this
    lia
   have hd:=a6f (grow n x (G.take j) L) (mul n x g)
   rw [take_succ hg,a34,a2b]
   by_cases hm:mul n x g∈grow n x (G.take j) L
   ·rw [decide_eq_true hm] at hd
    rw [if_pos hm,if_pos hm,Am]
    apply p4 rfl
    ·unfold C2
     simp (disch:=omega) only [c9,d8,b9,a9,b0,f9,g8,n6,f6,g0,m4,S1,r8,m8,p6,AH,AR,AS,↓reduceIte,Bool.not_true,a12 (n:=(n:Int)) (by lia) ((k.rc x hxL).ok (by lia) hG) (hG g hgG),y6,A6,K4,K3,hd]
     rfl
    ·exact⟨_,_,rfl⟩
   ·rw [decide_eq_false hm] at hd
    rw [if_neg hm,if_neg hm]
    refine p4 rfl (ρ2:=[some (.val (.int n)),some (.val (.list (G.map tp))),some (.ow (.dct (O5 (grow n x (G.take j) L++[mul n x g])))),some (.own ((W++(fresh n x (G.take j) L++[mul n x g])).map tp)),some (.val (tp x)),some (.val (tp g)),some (.val (tp (mul n x g)))]) ?_ ⟨_,_,rfl⟩
    unfold C2
    simp (disch:=omega) only [l9,c9,d8,b9,a9,b0,f9,g8,n6,f6,g0,m4,a0D,m8,p6,AH,AR,AS,↓reduceIte,Bool.not_false,a12 (n:=(n:Int)) (by lia) ((k.rc x hxL).ok (by lia) hG) (hG g hgG),y6,A6,K4,K3,hd,Y5]
    rw [X9 rfl (by rw [a6e];lia),a9x hm]
    simp (disch:=omega) only [g0,AH,AR,AS]
    rw [t8 (r:= .val (tp (mul n x g))) rfl rfl rfl (by rw [AU,AZ];lia),<-List.append_assoc,Ax (l₂:=[mul n x g])]
    rfl) ⟨q5,q6,by simp [grow,fresh]⟩
 rw [AU,List.take_length] at e1
 exact⟨q5',q6',e1⟩
end
theorem b3B{n:Nat}(hn:0<n)(hn8:n<=8){G:List MV}(hG:∀g∈G,C0 n g):∃L:List MV,L.Nodup/\(∀x,x∈L↔M5 n G x)/\U1 [.int n,.list (G.map tp)]=some (.own (srt L)):=by
 have hnn:n*n<=8*8:=Nat.mul_le_mul hn8 hn8
 have cnd:∀(W:List MV) (s0 s1 s2 q4 q5 q6:Option d7),S8 (m2 gNe (a6 3) (M0 c8)) [s0,s1,s2,some (.own (W.map tp)),q4,q5,q6]=some (!W.isEmpty):=by
  intro W s0 s1 s2 q4 q5 q6
  have h1:=a9F (W:=W.map tp) fun p hp=>by
   obtain⟨x,_,rfl⟩:=Aj.mp hp
   exact b3S x
  simp (disch:=omega) only [k9,G8,d8,b9,v4,m8,p6,AH,Aa,↓reduceIte,sz,Ah,h1]
  cases W<;>rfl
 obtain⟨ρ,m,hw,⟨L,W,q4,q5,q6,rfl,k,hWL,hm,hc⟩,hf⟩:=J9 (c:=S8 (m2 gNe (a6 3) (M0 c8))) (body:=G6)
  (I:=fun m ρ=>∃(L W:List MV) (q4 q5 q6:Option d7),ρ=[some (.val (.int n)),some (.val (.list (G.map tp))),some (.ow (.dct (O5 L))),some (.own (W.map tp)),q4,q5,q6]/\Kn n G L/\(∀x∈W,x∈L)/\(W.length+(512 - L.length)*2=m/\W.length<=L.length)/\(∀x∈L,x∈W\/∀g∈G,mul n x g∈L))
  (by
   rintro m ρ ⟨L,W,q4,q5,q6,rfl,k,hWL,⟨hm,hWl⟩,hc⟩
   have hl:=k.len hn hG
   rw [cnd W]
   cases hW:W.isEmpty with
   |true=>left;rfl
   |false=>
    right
    refine⟨rfl, ?_⟩
    have hne:W≠[]:=by intro h;rw [h] at hW;cases hW
    obtain⟨V,x,rfl⟩:∃V x,W=V++[x]:=⟨W.dropLast,W.getLast hne,(List.dropLast_concat_getLast hne).symm⟩
    have hxL:x∈L:=hWL x (Av _ (List.mem_singleton.mpr rfl))
    rw [AZ,List.length_singleton] at hm hWl
    obtain⟨q5',q6',e⟩:=b3C hn hn8 hG k hxL (W:=V) (by lia) q5 q6
    have k':=k.grow hxL (A:=G) fun a ha=>ha
    have hl':=k'.len hn hG
    have hgf:(grow n x G L).length=L.length+(fresh n x G L).length:=by rw [u7,AZ]
    refine⟨_,(V++fresh n x G L).length+(512 - (grow n x G L).length)*2, ?_, ?_,grow n x G L,V++fresh n x G L,some (.val (tp x)),q5',q6',rfl,k', ?_,⟨rfl, ?_⟩, ?_⟩
    ·unfold G6
     have hp:a7O 4 3 [some (.val (.int n)),some (.val (.list (G.map tp))),some (.ow (.dct (O5 L))),some (.own ((V++[x]).map tp)),q4,q5,q6]=some (.nx [some (.val (.int n)),some (.val (.list (G.map tp))),some (.ow (.dct (O5 L))),some (.own (V.map tp)),some (.val (tp x)),q5,q6]):=by
      unfold a7O
      show(((V++[x]).map tp).getLast?).bind _=_
      rw [Ax]
      show((V.map tp++[tp x]).getLast?).bind _=_
      rw [List.getLast?_append,List.getLast?_singleton]
      show some (Fl.nx [_,_,_,some (.own (V.map tp++[tp x]).dropLast),_,_,_])=_
      rw [List.dropLast_append_of_ne_nil (by simp)]
      simp
     simp (disch:=omega) only [c9,d8,b0,f6,g0,j9,AH,D0,w6,hp,e]
    ·rw [AZ]
     lia
    ·intro y hy
     rcases Ap.mp hy with h|h
     ·exact(J6 _ _ _ _ y).mpr (.inl (hWL y (Ay _ h)))
     ·rw [u7];exact Av _ h
    ·rw [AZ];lia
    ·intro y hy
     by_cases hyx:y=x
     ·subst hyx
      exact .inr fun g hg=>(J6 _ _ _ _ _).mpr (.inr ⟨g,hg,rfl⟩)
     ·rw [u7] at hy
      rcases Ap.mp hy with h|h
      ·rcases hc y h with h|h
       ·rcases Ap.mp h with h|h
        ·exact .inl (Ay _ h)
        ·exact absurd (List.mem_singleton.mp h) hyx
       ·exact .inr fun g hg=>(J6 _ _ _ _ _).mpr (.inl (h g hg))
      ·exact .inl (Av _ h)) 2000 1023 [some (.val (.int n)),some (.val (.list (G.map tp))),some (.ow (.dct (O5 [e0]))),some (.own ([e0].map tp)),none,none,none] (by lia)
  ⟨[e0],[e0],none,none,none,rfl,⟨by simp,fun x hx=>by rw [List.mem_singleton.mp hx];exact .base,List.mem_singleton.mpr rfl⟩,fun x hx=>hx,⟨by simp,by simp⟩,fun x hx=> .inl hx⟩
 have hl:=k.len hn hG
 rw [cnd W] at hf
 have hWn:W=[]:=by
  cases W with
  |nil=>rfl
  |cons a b=>cases hf
 subst hWn
 refine⟨L,k.nd,a0R k fun x hx g hg=> ?_, ?_⟩
 ·rcases hc x hx with h|h
  ·cases h
  ·exact h g hg
 ·unfold U1 a3F
  have hw':B9 (S8 (m2 gNe (a6 3) (M0 c8))) G6 2000 [some (.val (.int n)),some (.val (.list (G.map tp))),some (.ow (.dct [([.inr (AI "stay"),.inl 0,.inl 0],.bool true)])),some (.own [.tuple [.str (AI "stay"),.int 0,.int 0]]),none,none,none]=_:=hw
  simp (disch:=omega) only [B0,l9,d8,b9,a9,b0,l0,v4,g8,m5,a9h,f6,g0,j8,m9,AH,AM,Ad,Ac,Af,Ao,Ak,AR,AS,AT,Aa,↓reduceIte,sz,Nat.reduceAdd,Ah,a00,a6s,T2,hw',b4k,b29 (L:=L) (by lia)]
  try rfl
open Classical in
def pk(n:Int)(E:List MV):List MV:=E.foldl (fun D m=>if M5 n D m then D else D++[m]) []
open Classical in
theorem Q4(n:Int)(A:List MV)(m:MV):pk n (A++[m])=if M5 n (pk n A) m then pk n A else pk n A++[m]:=by
 unfold pk
 rw [List.foldl_append];rfl
theorem b5B{n:Int}:∀(A B:List MV),∃C,pk n (A++B)=pk n A++C
 |A,[]=>⟨[],by rw [Am,Am]⟩
 |A,m::B=>by
  obtain⟨C,h⟩:=b5B (n:=n) (A++[m]) B
  rw [List.append_assoc] at h
  rw [show A++m::B=A++([m]++B) from rfl,h,Q4]
  split
  ·exact⟨C,rfl⟩
  ·exact⟨[m]++C,by rw [List.append_assoc]⟩
theorem a1O{α:Type}{P:List α->Prop}(h0:P [])(h1:∀l a,P l->P (l++[a])):∀l,P l:=by
 have:∀l:List α,P l.reverse:=by
  intro l
  induction l with
  |nil=>exact h0
  |cons a l ih=>rw [List.reverse_cons];exact h1 _ _ ih
 intro l
 have:=this l.reverse
 rwa [List.reverse_reverse] at this
theorem a02{n:Int}:∀(A:List MV) {x:MV},x∈pk n A->x∈A:=by
 refine a1O ?_ fun A m ih=> ?_
 ·intro x h;cases h
 ·intro x h
  rw [Q4] at h
  split at h
  ·exact Ay _ (ih h)
  ·rcases Ap.mp h with h|h
   ·exact Ay _ (ih h)
   ·exact Av _ h
theorem b6L{n:Int}{E:List MV}(hE:∀x∈E,C0 n x):∀x∈E,M5 n (pk n E) x:=by
 intro x hx
 obtain⟨A,B,rfl⟩:=List.append_of_mem hx
 obtain⟨C,hC⟩:=b5B (n:=n) (A++[x]) B
 rw [List.append_assoc] at hC
 rw [show A++x::B=A++([x]++B) from rfl,hC]
 have hx':M5 n (pk n (A++[x])) x:=by
  rw [Q4]
  split
  ·assumption
  ·refine M5.gen (fun g hg=> ?_) (Av _ (List.mem_singleton.mpr rfl))
   rcases Ap.mp hg with h|h
   ·exact hE g (Ay _ (a02 A h))
   ·rw [List.mem_singleton.mp h];exact hE x hx
 exact hx'.mono fun g hg=>Ay _ hg
theorem b6O{n:Int}(hn:0<n){G E:List MV}(hG:∀g∈G,C0 n g)(hE:∀x,x∈E↔M5 n G x)(x:MV):M5 n (pk n E) x↔M5 n G x:=by
 constructor
 ·exact fun h=>h.sub hn hG fun d hd=>(hE d).mp (a02 E hd)
 ·exact fun h=>b6L (fun y hy=>((hE y).mp hy).ok hn hG) x ((hE x).mpr h)
theorem b1F(x y:MV):PyData.eqv (tp x) (tp y)=decide (x=y):=by
 obtain⟨a,b,c⟩:=x
 obtain⟨a',b',c'⟩:=y
 show PyData.eqv (.tuple [.str a,.int b,.int c]) (.tuple [.str a',.int b',.int c'])=_
 simp only [PyData.eqv,PyData.eqvAll]
 by_cases h1:a=a'
 ·by_cases h2:b=b'
  ·by_cases h3:c=c'
   ·subst h1 h2 h3;simp
   ·simp [h1,h2,h3]
  ·simp [h1,h2]
 ·simp [h1]
theorem a81(L:List MV)(k:Nat):C1 (L.map tp) (k+2)=true:=a7x fun p hp=>by
 obtain⟨x,_,rfl⟩:=Aj.mp hp
 rfl
theorem b5y(L:List MV)(x:MV)(y:d7)(hy:y.rd= .list (L.map tp)):a2c true (.val (tp x)) y=some (.val (.bool (!decide (x∈L)))):=by
 have h0:a2c true (.val (tp x)) y=gIn true (.val (tp x)) y:=by
  unfold a2c
  split
  ·rename_i h;cases h
  ·rfl
 rw [h0]
 unfold gIn
 rw [hy]
 show(if n4 (tp x) 50=true/\C1 (L.map tp) 50=true then some (d7.val (.bool (if true=true then !((L.map tp).any fun p=>PyData.eqv p (tp x)) else _))) else none)=_
 rw [if_pos ⟨rfl,a81 L 48⟩,if_pos rfl]
 congr 4
 rw [List.any_map]
 clear hy h0
 induction L with
 |nil=>rfl
 |cons z L ih=>
  rw [List.any_cons,ih]
  show(PyData.eqv (tp z) (tp x)||_)=_
  rw [b1F]
  by_cases h:z=x
  ·subst h;simp
  ·have h':x≠z:=fun e=>h e.symm
   simp [h,h']
theorem b6t(L:List MV):nlD (O5 L)=true:=by
 induction L with
 |nil=>rfl
 |cons x L ih=>show(nl (.bool true)&& nlD (O5 L))=true;rw [ih];rfl
theorem a7H:∀L:List MV,a2Q (L.map tp)=some (L.map ky)
 |[]=>rfl
 |x::L=>by
  show(keysOf [.str x.1,.int x.2.1,.int x.2.2]).bind (fun k=>(a2Q (L.map tp)).map fun t=>k::t)=_
  rw [a7H L];rfl
theorem b3a{L:List MV}(h:L.length<=1000)(x:d7)(hx:x.rd= .list (L.map tp)):a31 x=some (.own (srt L)):=by
 unfold a31
 rw [hx]
 show(a2Q (L.map tp)).bind _=_
 rw [a7H]
 show(if okK (L.map ky)=true/\(L.map ky).length<=16777216 then some (d7.own ((O2 E2 (L.map ky)).map kT)) else none)=_
 rw [if_pos ⟨a80 L,by rw [AU];lia⟩]
 rfl
theorem a3L{n:Nat}(hn:0<n)(hn8:n<=8){D:List MV}(hD:∀g∈D,C0 n g):∃L:List MV,L.Nodup/\(∀x,x∈L↔M5 n D x)/\∀(s1 s2 s4 s5 s6:Option d7),a2p B5 3 (a6 0) [some (.val (.int n)),s1,s2,some (.own (D.map tp)),s4,s5,s6]=some (.ow (.dct (O5 L))):=by
 obtain⟨L,h1,h2,h3⟩:=b4l hn hn8 hD
 refine⟨L,h1,h2,fun s1 s2 s4 s5 s6=> ?_⟩
 show(B5 [.int n,.list (D.map tp)]).bind _=_
 rw [h3]
 show(if nlD (O5 L)=true then _ else none)=_
 rw [if_pos (b6t L)]
open Classical in
theorem a5L{n:Nat}(hn:0<n)(hn8:n<=8){E:List MV}(hE:∀x∈E,C0 n x)(hl:E.length<=1000):∃P:List Nat,J5 [.int n,.list (E.map tp)]=some (.own (P.map fun i=> .int (i:Nat)))/\P.map (fun i=>E[i]?)=(pk n E).map some:=by
 have pkl:∀j,(pk n (E.take j)).length<=j:=by
  intro j
  induction j with
  |zero=>simp [pk]
  |succ j ih=>
   cases hj:E[j]? with
   |none=>
    have:E.take (j+1)=E.take j:=by rw [List.take_succ,hj];simp
    rw [this];lia
   |some m=>
    rw [take_succ hj,Q4]
    split
    ·lia
    ·rw [AZ,List.length_singleton];lia
 obtain⟨L0,n0,m0,c0⟩:=a3L hn hn8 (D:=[]) (fun g hg=>nomatch hg)
 obtain⟨ρ1,e1,P,L,q5,q6,rfl,hP,hnd,hm,hPl⟩:=m7 (body:=P3) (tg:=a94 [5,6]) (fun j ρ=>∃(P:List Nat) (L:List MV) (q5 q6:Option d7),ρ=[some (.val (.int n)),some (.val (.list (E.map tp))),some (.own (P.map fun i=> .int (i:Nat))),some (.own ((pk n (E.take j)).map tp)),some (.ow (.dct (O5 L))),q5,q6]/\P.map (fun i=>E[i]?)=(pk n (E.take j)).map some/\L.Nodup/\(∀x,x∈L↔M5 n (pk n (E.take j)) x)/\P.length<=1000)
  (ps:=J2 (E.map tp)) (ρ:=[some (.val (.int n)),some (.val (.list (E.map tp))),some (.own []),some (.own []),some (.ow (.dct (O5 L0))),none,none])
  (by
   rintro j p hp ρ ⟨P,L,q5,q6,rfl,hP,hnd,hm,hPl⟩
   rw [a5t,Aq] at hp
   cases hj:E[j]? with
   |none=>rw [hj] at hp;cases hp
   |some m=>
    rw [hj] at hp
    cases hp
    have hjl:j<E.length:=(Ar.mp hj).1
    have hd:=a6f L m
    have hPl':P.length=(pk n (E.take j)).length:=by have:=congrArg List.length hP;simpa using this
    have hpj:=pkl j
    rw [take_succ hj,Q4]
    by_cases hR:M5 n (pk n (E.take j)) m
    ·rw [decide_eq_true ((hm m).mpr hR)] at hd
     rw [if_pos hR]
     apply p4 (ρ1:=[some (.val (.int n)),some (.val (.list (E.map tp))),some (.own (P.map fun i=> .int (i:Nat))),some (.own ((pk n (E.take j)).map tp)),some (.ow (.dct (O5 L))),some (.val (.int (j:Nat))),some (.val (tp m))]) rfl
     ·unfold P3
      simp (disch:=omega) only [c9,d8,m4,S1,r8,m8,p6,AH,↓reduceIte,Bool.not_true,y6,A6,K4,K3,hd]
      rfl
     ·exact⟨P,L,_,_,rfl,hP,hnd,hm,hPl⟩
    ·rw [decide_eq_false (fun h=>hR ((hm m).mp h))] at hd
     rw [if_neg hR]
     have hD:∀g∈pk n (E.take j)++[m],C0 n g:=fun g hg=>by
      rcases Ap.mp hg with h|h
      ·exact hE g (List.mem_of_mem_take (a02 _ h))
      ·rw [List.mem_singleton.mp h];exact hE m (Au hj)
     obtain⟨L',n',m',c'⟩:=a3L hn hn8 hD
     refine p4 (ρ1:=[some (.val (.int n)),some (.val (.list (E.map tp))),some (.own (P.map fun i=> .int (i:Nat))),some (.own ((pk n (E.take j)).map tp)),some (.ow (.dct (O5 L))),some (.val (.int (j:Nat))),some (.val (tp m))]) rfl (ρ2:=[some (.val (.int n)),some (.val (.list (E.map tp))),some (.own ((P++[j]).map fun i=> .int (i:Nat))),some (.own ((pk n (E.take j)++[m]).map tp)),some (.ow (.dct (O5 L'))),some (.val (.int (j:Nat))),some (.val (tp m))]) ?_ ⟨P++[j],L',_,_,rfl, ?_,n',m', ?_⟩
     ·unfold P3
      simp (disch:=omega) only [c9,d8,f6,m4,a0D,m8,p6,AH,↓reduceIte,Bool.not_false,y6,A6,K4,K3,hd]
      rw [t8 (i:=2) (r:= .val (.int (j:Nat))) (ps:=P.map fun i=> .int (i:Nat)) rfl rfl rfl (by rw [AU];lia)]
      simp (disch:=omega) only [f6,g0,AH,AR,AS]
      rw [t8 (i:=3) (r:= .val (tp m)) (ps:=(pk n (E.take j)).map tp) rfl rfl rfl (by rw [AU];lia)]
      have c2:=c' (some (.val (.list (E.map tp)))) (some (.own (P.map (fun i=>PyData.int (i:Nat))++[PyData.int (j:Nat)]))) (some (.ow (.dct (O5 L)))) (some (.val (.int (j:Nat)))) (some (.val (tp m)))
      rw [Ax] at c2
      have c3:a2p B5 3 (a6 0) [some (.val (.int n)),some (.val (.list (E.map tp))),some (.own (P.map (fun i=>PyData.int (i:Nat))++[PyData.int (j:Nat)])),some (.own ((pk n (E.take j)).map tp++[tp m])),some (.ow (.dct (O5 L))),some (.val (.int (j:Nat))),some (.val (tp m))]=some (.ow (.dct (O5 L'))):=c2
      simp (disch:=omega) only [g8,g0,AH,AR,AS,c3,T2]
      rw [Ax,Ax]
      try rfl
     ·rw [Ax,Ax,hP]
      simp [hj]
     ·rw [AZ,List.length_singleton];lia) ⟨[],L0,none,none,rfl,rfl,n0,by simpa [pk] using m0,by simp⟩
 rw [a5u,AU,List.take_length] at e1 hP
 refine⟨P, ?_,hP⟩
 have c00:=c0 (some (.val (.list (E.map tp)))) (some (.own [])) none none none
 have c01:a2p B5 3 (a6 0) [some (.val (.int n)),some (.val (.list (E.map tp))),some (.own []),some (.own []),none,none,none]=some (.ow (.dct (O5 L0))):=c00
 have em:b2l (a5 (a6 1) c8) [some (.val (.int n)),some (.val (.list (E.map tp))),some (.own []),some (.own []),some (.ow (.dct (O5 L0))),none,none]=some (J2 (E.map tp)):=rfl
 unfold J5 a7g
 simp (disch:=omega) only [b9,v4,g8,f6,g0,j8,m9,j9,AH,AM,Ad,Ac,Af,Ao,Ak,AR,AS,Aa,↓reduceIte,a0m,a0n,sz,Ah,c01,T2,j9,em,e1]
 try rfl
abbrev scL(ns:List Int):Option d7:=some (.val (.list (ns.map .int)))
theorem b52{n:Nat}(hn:0<n)(hn8:n<=8){H E:List MV}(hE:∀x∈E,C0 n x)(hl:E.length<=1000)(hh:H.length<=1000)(hs:srt H=E.map tp):a1z [.int n,.list (H.map tp)]=some (.own ((pk n E).map tp)):=by
 obtain⟨P,h1,h2⟩:=a5L hn hn8 hE hl
 let f:Nat->PV:=fun i=>(E[i]?).elim .none tp
 have hf:P.map f=(pk n E).map tp:=by
  have:P.map f=(P.map fun i=>E[i]?).map fun o=>o.elim .none tp:=by rw [Az];rfl
  rw [this,h2,Az];rfl
 have hsome:∀i∈P,∃m,E[i]?=some m:=fun i hi=>by
  have:E[i]?∈P.map fun i=>E[i]?:=Aj.mpr ⟨i,hi,rfl⟩
  rw [h2] at this
  obtain⟨m,_,e⟩:=Aj.mp this
  exact⟨m,e.symm⟩
 have hPl:P.length<=16777216:=by
  have h3:=congrArg List.length h2
  rw [AU,AU] at h3
  have h4:(pk n E).length<=E.length:=by
   have:∀A:List MV,(pk n A).length<=A.length:=by
    refine a1O (by simp [pk]) fun A m ih=> ?_
    rw [Q4]
    split
    ·rw [AZ];lia
    ·rw [AZ,AZ];simp;lia
   exact this E
  lia
 have cm:a0I 1 (P5 (k0 J5 (a5 (a6 0) (a5 (a6 2) c8)))) (f7 3) a4l J7 [some (.val (.int n)),some (.val (.list (H.map tp))),some (.val (.list (E.map tp)))]=some (.own (P.map f)):=by
  refine b0D (ι:=fun i:Nat=>PyData.int (i:Nat)) (f:=f) P (a2S (r:= .own (P.map fun i=> .int (i:Nat))) (by simp (disch:=omega) only [c9,d8,b9,a9,b0,f9,AH,h1]) rfl) hPl fun i hi=>⟨_,rfl, ?_⟩
  obtain⟨m,hm⟩:=hsome i hi
  have ix:t6 (.val (.list (E.map tp))) (.val (.int (i:Nat)))=some (.val (tp m)):=by
   refine a1x ?_
   rw [b1e,Aq,hm];rfl
  unfold J7
  simp (disch:=omega) only [k9,c9,d8,b0,AH,Ac,Af,Ao,Ak,AR,AS,ix]
  show some (tp m)=some ((E[i]?).elim .none tp)
  rw [hm];rfl
 have hz:a4j 2 (z8 (a0I 1 (P5 (k0 J5 (a5 (a6 0) (a5 (a6 2) c8)))) (f7 3) a4l J7)) [some (.val (.int n)),some (.val (.list (H.map tp))),some (.own (E.map tp))]=z8 (a0I 1 (P5 (k0 J5 (a5 (a6 0) (a5 (a6 2) c8)))) (f7 3) a4l J7) [some (.val (.int n)),some (.val (.list (H.map tp))),some (.val (.list (E.map tp)))]:=rfl
 have so:=b3a hh (.val (.list (H.map tp))) rfl
 rw [hs] at so
 unfold a1z a7e
 simp (disch:=omega) only [B0,c9,d8,g8,a3D,m5,a9h,f6,g0,j8,m9,AH,AM,Ad,Ac,Af,Ao,Ak,AR,AS,so,hz,cm,hf]
 try rfl
def pw(n:Int)(x:MV):Nat->MV
 |0=>e0
 |k+1=>mul n (pw n x k) x
theorem a76{n:Int}(hn:0<n){x:MV}(hx:C0 n x):∀k,C0 n (pw n x k)
 |0=>b4t hn
 |k+1=>a6H hn (a76 hn hx k) hx
theorem a9f{n:Int}(hn:0<n){x:MV}(hx:C0 n x)(j:Nat):∀k,mul n (pw n x j) (pw n x k)=pw n x (j+k)
 |0=>a9T (a76 hn hx j)
 |k+1=>by
  show mul n (pw n x j) (mul n (pw n x k) x)=mul n (pw n x (j+k)) x
  rw [<-N8 (a76 hn hx j) (a76 hn hx k) hx,a9f hn hx j k]
theorem b5D{n:Int}(hn:0<n){x:MV}(hx:C0 n x)(j:Nat):∀k,pw n (pw n x j) k=pw n x (j*k)
 |0=>rfl
 |k+1=>by
  show mul n (pw n (pw n x j) k) (pw n x j)=_
  rw [b5D hn hx j k,a9f hn hx]
  rfl
theorem b1N:(k6.all fun w=>decide (o0 (o0 (o0 (o0 (AI "stay") w) w) w) w=AI "stay"))=true:=by decide+kernel
theorem b4Q{n:Int}{x:MV}(hx:C0 n x):(pw n x 4).1=AI "stay":=of_decide_eq_true (List.all_eq_true.mp b1N x.1 hx.1)
theorem b46:o0 (AI "stay") (AI "stay")=AI "stay":=by decide+kernel
theorem a93{n:Int}(a b:Int):∀k:Nat,pw n (AI "stay",a,b) k=(AI "stay",(k:Int)*a % n,(k:Int)*b % n)
 |0=>by show e0=_;simp [e0]
 |k+1=>by
  show mul n (pw n (AI "stay",a,b) k) _=_
  rw [a93 a b k]
  show(o0 (AI "stay") (AI "stay"),(i6 (AI "stay") ((k:Int)*a % n) ((k:Int)*b % n)+a) % n,(i5 (AI "stay") ((k:Int)*a % n) ((k:Int)*b % n)+b) % n)=_
  rw [b46,b22,b1j,Int.emod_add_emod,Int.emod_add_emod,show((k+1:Nat):Int)*a=(k:Int)*a+a by rw [Int.natCast_succ,Int.add_mul,Int.one_mul],show((k+1:Nat):Int)*b=(k:Int)*b+b by rw [Int.natCast_succ,Int.add_mul,Int.one_mul]]
theorem b2S{n:Nat}(hn:0<n){x:MV}(hx:C0 n x):pw n x (4*n)=e0:=by
 have h4:=b4Q hx
 have hp:=b5D (n:=(n:Int)) (by lia) hx 4 n
 rw [<-hp]
 generalize pw n x 4=y at h4
 obtain⟨w,a,b⟩:=y
 have:w=AI "stay":=h4
 subst this
 rw [a93]
 simp [e0]
theorem b2T{n:Int}(hn:0<n){G:List MV}(hG:∀g∈G,C0 n g){x:MV}(h:M5 n G x):∀k,M5 n G (pw n x k)
 |0=> .base
 |k+1=>(b2T hn hG h k).mul hn hG h
def iv(n:Nat)(x:MV):MV:=pw n x (4*n - 1)
theorem b2a{n:Nat}(hn:0<n){x:MV}(hx:C0 n x):C0 n (iv n x):=a76 (by lia) hx _
theorem b6r{n:Nat}(hn:0<n){x:MV}(hx:C0 n x):mul n x (iv n x)=e0:=by
 have h:=a9f (n:=(n:Int)) (by lia) hx 1 (4*n - 1)
 rw [show 1+(4*n - 1)=4*n by lia,b2S hn hx,show pw (n:Int) x 1=x from b1w hx] at h
 exact h
theorem b6g{n:Nat}(hn:0<n){x:MV}(hx:C0 n x):mul n (iv n x) x=e0:=by
 have h:pw (n:Int) x ((4*n - 1)+1)=e0:=by rw [show(4*n - 1)+1=4*n by lia];exact b2S hn hx
 exact h
theorem b4p{n:Nat}(hn:0<n){x y m:MV}(hx:C0 n x)(hy:C0 n y)(hm:C0 n m)(h:mul n x m=mul n y m):x=y:=by
 have h1:=congrArg (fun z=>mul n z (iv n m)) h
 rwa [N8 hx hm (b2a hn hm),N8 hy hm (b2a hn hm),b6r hn hm,a9T hx,a9T hy] at h1
theorem a9g{n:Nat}(hn:0<n){D:List MV}(hD:∀g∈D,C0 n g){y m:MV}(hy:M5 n D y)(hm:C0 n m)(h:M5 n D (mul n y m)):M5 n D m:=by
 have oy:=hy.ok (by lia) hD
 have h1:=(b2T (by lia) hD hy (4*n - 1)).mul (by lia) hD h
 have h2:mul n (iv n y) (mul n y m)=m:=by
  rw [<-N8 (b2a hn oy) oy hm,b6g hn oy,b1w hm]
 have h3:mul n (pw n y (4*n - 1)) (mul n y m)=m:=h2
 rwa [h3] at h1
open Classical in
theorem b6M{n:Nat}(hn:0<n):∀(A:List MV),(∀x∈A,C0 n x)->∃L:List MV,L.Nodup/\(∀x∈L,M5 n (pk n A) x)/\2 ^(pk n A).length<=L.length:=by
 refine a1O ?_ fun A m ih=> ?_
 ·intro _
  exact⟨[e0],by simp,fun x hx=>by rw [List.mem_singleton.mp hx];exact .base,by simp [pk]⟩
 ·intro hA
  obtain⟨L,nd,rc,le⟩:=ih fun x hx=>hA x (Ay _ hx)
  have hm:C0 n m:=hA m (Av _ (List.mem_singleton.mpr rfl))
  have hD:∀g∈pk n A,C0 n g:=fun g hg=>hA g (Ay _ (a02 A hg))
  rw [Q4]
  by_cases hR:M5 n (pk n A) m
  ·rw [if_pos hR];exact⟨L,nd,rc,le⟩
  ·rw [if_neg hR]
   refine⟨L++L.map fun x=>mul n x m, ?_,fun x hx=> ?_, ?_⟩
   ·refine List.nodup_append.mpr ⟨nd, ?_,fun a ha b hb e=> ?_⟩
    ·exact List.pairwise_map.mpr (List.Pairwise.imp_of_mem (fun {a b} ha hb hab e=>hab (b4p hn ((rc a ha).ok (by lia) hD) ((rc b hb).ok (by lia) hD) hm e)) nd)
    ·obtain⟨y,hy,rfl⟩:=Aj.mp hb
     exact hR (a9g hn hD (rc y hy) hm (e▸rc a ha))
   ·rcases Ap.mp hx with h|h
    ·exact(rc x h).mono fun g hg=>Ay _ hg
    ·obtain⟨y,hy,rfl⟩:=Aj.mp h
     exact((rc y hy).mono fun g hg=>Ay _ hg).step (Av _ (List.mem_singleton.mpr rfl))
   ·rw [AZ,AZ,AU,List.length_singleton,Nat.pow_succ];lia
theorem b4L{n:Nat}(hn:0<n)(hn5:n<=5){A:List MV}(hA:∀x∈A,C0 n x):(pk n A).length<=7:=by
 obtain⟨L,nd,rc,le⟩:=b6M hn A hA
 have h1:=a84 nd fun x hx=>(rc x hx).ok (by lia) fun g hg=>hA g (a02 A hg)
 have hnn:n*n<=5*5:=Nat.mul_le_mul hn5 hn5
 have h2:2 ^(pk n A).length<2 ^ 8:=by lia
 have:=(Nat.pow_lt_pow_iff_right (a:=2) (by lia)).mp h2
 lia
open Classical in
theorem b4K{n:Int}:∀A:List MV,pk n (pk n A)=pk n A:=by
 refine a1O rfl fun A m ih=> ?_
 rw [Q4]
 split
 ·exact ih
 ·rename_i h
  rw [Q4,ih,if_neg h]
open Classical in
theorem b6N{n:Int}:∀(A:List MV) (k:Nat) (x:MV),(pk n A)[k]?=some x->¬M5 n ((pk n A).take k) x:=by
 refine a1O (fun k x h=>by simp [pk] at h) fun A m ih=> ?_
 intro k x
 rw [Q4]
 split
 ·exact ih k x
 ·rename_i hR
  intro h
  by_cases hk:k<(pk n A).length
  ·rw [BB hk] at h
   rw [List.take_append_of_le_length (by lia)]
   exact ih k x h
  ·by_cases hk2:k=(pk n A).length
   ·subst hk2
    rw [List.getElem?_append_right (AN _),Nat.sub_self] at h
    cases h
    rw [List.take_append_of_le_length (AN _),List.take_length]
    exact hR
   ·rw [List.getElem?_append_right (by lia),List.getElem?_eq_none (by rw [List.length_singleton];lia)] at h
    cases h
abbrev RW:=List (MV×List Nat)
def nl'(w:List Nat):List PV:=w.map fun i=> .int (i:Nat)
def z0(R:RW):List (List f8×PV):=R.map fun p=>(ky p.1,PyData.list (nl' p.2))
theorem a1N:∀(R:RW) (x:MV),(m6 (z0 R) (ky x)).isSome=decide (x∈R.map (·.1))
 |[],x=>rfl
 |(y,w)::R,x=>by
  show(m6 ((ky y,PyData.list (nl' w))::z0 R) (ky x)).isSome=_
  rw [y8,AM]
  by_cases h:ky y=ky x
  ·rw [if_pos h,a6t h];simp
  ·rw [if_neg h,a1N R x]
   have:x≠y:=fun e=>h (by rw [e])
   simp [this]
theorem a4G:∀{R:RW} {x:MV} {w:List Nat},(R.map (·.1)).Nodup->(x,w)∈R->m6 (z0 R) (ky x)=some (.list (nl' w))
 |(y,v)::R,x,w,hn,h=>by
  show m6 ((ky y,PyData.list (nl' v))::z0 R) (ky x)=_
  rw [y8]
  rw [AM] at hn
  have hn:=List.nodup_cons.mp hn
  rcases Ag.mp h with h|h
  ·cases h;rw [if_pos rfl]
  ·rw [if_neg (fun e=>hn.1 (by have e':y=x:=a6t e
                               rw [e'];exact Aj.mpr ⟨(x,w),h,rfl⟩)),a4G hn.2 h]
theorem b2X{R:RW}{x:MV}{w:List Nat}(h:x∉R.map (·.1)):M1 (z0 R) (ky x) (.list (nl' w))=z0 (R++[(x,w)]):=by
 unfold M1
 have h0:=a1N R x
 rw [a58,h0,decide_eq_false h,if_neg As]
 simp [z0]
theorem b0U(R:RW):(z0 R).map (·.1)=(R.map (·.1)).map ky:=by unfold z0;rw [Az,Az];rfl
theorem a77(R:RW):(z0 R).length=R.length:=by unfold z0;rw [AU]
def gR(n:Int)(x:MV)(w:List Nat):List (Nat×MV)->RW->RW
 |[],R=>R
 |g::Q,R=>gR n x w Q (if mul n x g.2∈R.map (·.1) then R else R++[(mul n x g.2,w++[g.1])])
theorem b1Y(n:Int)(x:MV)(w:List Nat)(g:Nat×MV):∀(A:List (Nat×MV)) (R:RW),gR n x w (A++[g]) R=(if mul n x g.2∈(gR n x w A R).map (·.1) then gR n x w A R else gR n x w A R++[(mul n x g.2,w++[g.1])])
 |[],R=>rfl
 |a::A,R=>by
  show gR n x w (A++[g]) _=_
  rw [b1Y n x w g A];rfl
theorem b1Z(n:Int)(x:MV)(w:List Nat):∀(Q:List (Nat×MV)) (R:RW),(gR n x w Q R).map (·.1)=grow n x (Q.map (·.2)) (R.map (·.1))
 |[],R=>rfl
 |g::Q,R=>by
  show(gR n x w Q _).map (·.1)=grow n x (Q.map (·.2)) _
  rw [b1Z n x w Q]
  split
  ·rfl
  ·rw [Ax];rfl
theorem a6l(n:Int)(x:MV)(w:List Nat):∀(Q:List (Nat×MV)) (R:RW),∃S,gR n x w Q R=R++S
 |[],R=>⟨[],by rw [Am];rfl⟩
 |g::Q,R=>by
  show ∃S,gR n x w Q _=_
  split
  ·exact a6l n x w Q R
  ·obtain⟨S,h⟩:=a6l n x w Q (R++[(mul n x g.2,w++[g.1])])
   exact⟨[(mul n x g.2,w++[g.1])]++S,by rw [h,List.append_assoc]⟩
def ev(n:Int)(F:List MV)(w:List Nat):MV:=w.foldl (fun a i=>mul n a ((F[i]?).getD e0)) e0
structure Wd(n:Int)(F:List MV)(x:MV)(w:List Nat):Prop where
 ev:ev n F w=x
 lt:∀i∈w,i<F.length
structure KR(n:Nat)(F:List MV)(R:RW):Prop where
 kn:Kn n F (R.map (·.1))
 wd:∀p∈R,Wd n F p.1 p.2
 ln:∀p∈R,p.2.length<R.length
theorem KR.gR{n:Nat}{F:List MV}{x:MV}{w:List Nat}(hx:Wd n F x w):∀(Q:List (Nat×MV)) (R:RW),KR n F R->(x,w)∈R->(∀q∈Q,F[q.1]?=some q.2)->KR n F (gR n x w Q R)
 |[],R,k,_,_=>k
 |g::Q,R,k,hm,hQ=>by
  have hg:=hQ g Al
  have hgF:g.2∈F:=Au hg
  show KR n F (LW.gR n x w Q _)
  split
  ·exact KR.gR hx Q R k hm fun q hq=>hQ q (Ai _ hq)
  ·rename_i c
   refine KR.gR hx Q _ ⟨⟨?_,fun y hy=> ?_, ?_⟩,fun p hp=> ?_,fun p hp=> ?_⟩ (Ay _ hm) fun q hq=>hQ q (Ai _ hq)
   ·rw [Ax]
    refine List.nodup_append.mpr ⟨k.kn.nd,by simp,fun a ha b hb e=>c ?_⟩
    have hb':b=mul n x g.2:=by simpa using hb
    rw [<-hb',<-e];exact ha
   ·rw [Ax] at hy
    rcases Ap.mp hy with h|h
    ·exact k.kn.rc y h
    ·have:y=mul n x g.2:=by simpa using h
     rw [this];exact(k.kn.rc x (Aj.mpr ⟨_,hm,rfl⟩)).step hgF
   ·rw [Ax];exact Ay _ k.kn.e
   ·rcases Ap.mp hp with h|h
    ·exact k.wd p h
    ·rw [List.mem_singleton.mp h]
     refine⟨?_,fun i hi=> ?_⟩
     ·show LW.ev n F (w++[g.1])=mul n x g.2
      unfold LW.ev
      rw [List.foldl_append,show w.foldl (fun a i=>mul n a ((F[i]?).getD e0)) e0=x from hx.ev]
      show mul n x ((F[g.1]?).getD e0)=_
      rw [hg];rfl
     ·rcases Ap.mp hi with h|h
      ·exact hx.lt i h
      ·rw [List.mem_singleton.mp h];exact(Ar.mp hg).1
   ·rw [AZ,List.length_singleton]
    rcases Ap.mp hp with h|h
    ·have:=k.ln p h;lia
    ·rw [List.mem_singleton.mp h]
     have h1:w.length<R.length:=k.ln (x,w) hm
     show(w++[g.1]).length<_
     rw [AZ,List.length_singleton];lia
theorem b3Y{qs:List PV}{p:PV}(h:qs.length<=1000):a7B (.val (.list qs)) (.ow (.lst [p]))=some (.own (qs++[p])):=by
 show(if qs.length+[p].length<=AK then some (d7.own (qs++[p])) else none)=_
 rw [if_pos (by rw [sizeLine_eq,List.length_singleton];lia)]
theorem b55{R:RW}{i:Nat}{x:MV}{w:List Nat}(h:R[i]?=some (x,w)):((R.map fun p=>tp p.1):List PV)[i]?=some (tp x):=by
 rw [Aq,h];rfl
section
variable {n:Nat}(hn:0<n)(hn8:n<=8){F:List MV}(hF:∀g∈F,C0 n g){Q:List (Nat×MV)}(hQ:∀q∈Q,F[q.1]?=some q.2)
include hn hn8 hF hQ
theorem b4Z{R:RW}(k:KR n F R){i:Nat}{x:MV}{w:List Nat}(hx:R[i]?=some (x,w))(s2 q6 q7:Option d7):
 ∃q6' q7',w4 G2 (f7 6) (nl' (Q.map (·.1))) [some (.val (.int n)),some (.val (.list (F.map tp))),s2,some (.ow (.dct (z0 R))),some (.own (R.map fun p=>tp p.1)),some (.val (.int (i:Nat))),q6,q7]
  =some (.nx [some (.val (.int n)),some (.val (.list (F.map tp))),s2,some (.ow (.dct (z0 (gR n x w Q R)))),some (.own ((gR n x w Q R).map fun p=>tp p.1)),some (.val (.int (i:Nat))),q6',q7']):=by
 have hxR:(x,w)∈R:=Au hx
 have hxw:Wd n F x w:=k.wd _ hxR
 have hnn:n*n<=8*8:=Nat.mul_le_mul hn8 hn8
 obtain⟨ρ1,e1,q6',q7',rfl⟩:=m7 (body:=G2) (tg:=f7 6) (fun j ρ=>∃q6 q7,ρ=[some (.val (.int n)),some (.val (.list (F.map tp))),s2,some (.ow (.dct (z0 (gR n x w (Q.take j) R)))),some (.own ((gR n x w (Q.take j) R).map fun p=>tp p.1)),some (.val (.int (i:Nat))),q6,q7])
  (ps:=nl' (Q.map (·.1))) (ρ:=[some (.val (.int n)),some (.val (.list (F.map tp))),s2,some (.ow (.dct (z0 R))),some (.own (R.map fun p=>tp p.1)),some (.val (.int (i:Nat))),q6,q7])
  (by
   rintro j p hp ρ ⟨q6,q7,rfl⟩
   obtain⟨g,hg,rfl⟩:∃g,Q[j]?=some g/\p= .int (g.1:Nat):=by
    unfold nl' at hp
    rw [Aq,Aq] at hp
    cases h:Q[j]? with
    |none=>rw [h] at hp;cases hp
    |some g=>rw [h] at hp;cases hp;exact⟨g,rfl,rfl⟩
   have hgF:=hQ g (Au hg)
   have k':KR n F (gR n x w (Q.take j) R):=KR.gR hxw _ _ k hxR fun q hq=>hQ q (List.mem_of_mem_take hq)
   have hl:=k'.kn.len hn hF
   rw [AU] at hl
   obtain⟨S,hS⟩:=a6l n x w (Q.take j) R
   have hx2:(gR n x w (Q.take j) R)[i]?=some (x,w):=by rw [hS,BB (Ar.mp hx).1];exact hx
   have hxi:=b55 hx2
   have hd:=a1N (gR n x w (Q.take j) R) (mul n x g.2)
   have ix2:t6 (.val (.list (F.map tp))) (.val (.int (g.1:Nat)))=some (.val (tp g.2)):=by
    refine a1x ?_
    rw [b1e,Aq,hgF];rfl
   have hgt:=a4G k'.kn.nd (Au hx2)
   have hwl:=k'.ln (x,w) (Au hx2)
   have hwl:w.length<(gR n x w (Q.take j) R).length:=hwl
   have hth:=b3k (n:=(n:Int)) (by lia) ((k.kn.rc x (Aj.mpr ⟨_,hxR,rfl⟩)).ok (by lia) hF) (hF g.2 (Au hgF))
   rw [take_succ hg,b1Y]
   by_cases hm:mul n x g.2∈(gR n x w (Q.take j) R).map (·.1)
   ·rw [decide_eq_true hm] at hd
    rw [if_pos hm]
    apply p4 rfl
    ·unfold G2
     simp (disch:=omega) only [k9,c9,G8,d8,b9,a9,b0,f9,g8,n6,f6,g0,m4,S1,r8,m8,p6,AH,AR,AS,↓reduceIte,Bool.not_true,U0 hxi,ix2,hth,y6,A6,K4,K3,hd]
     rfl
    ·exact⟨_,_,rfl⟩
   ·rw [decide_eq_false hm] at hd
    rw [if_neg hm]
    refine p4 rfl (ρ2:=[some (.val (.int n)),some (.val (.list (F.map tp))),s2,some (.ow (.dct (z0 (gR n x w (Q.take j) R++[(mul n x g.2,w++[g.1])])))),some (.own ((gR n x w (Q.take j) R++[(mul n x g.2,w++[g.1])]).map fun p=>tp p.1)),some (.val (.int (i:Nat))),some (.val (.int (g.1:Nat))),some (.val (tp (mul n x g.2)))]) ?_ ⟨_,_,rfl⟩
    have ha:a7B (.val (.list (nl' w))) (.ow (.lst [.int (g.1:Nat)]))=some (.own (nl' (w++[g.1]))):=by
     rw [b3Y (by unfold nl';rw [AU];lia)]
     unfold nl'
     rw [Ax];rfl
    unfold G2
    simp (disch:=omega) only [k9,c9,G8,d8,b9,a9,b0,S7,v4,f9,g8,n6,f6,g0,m4,a0D,m8,p6,AH,BF,AR,AS,AT,Aa,↓reduceIte,Bool.not_false,sz,Nat.reduceAdd,Ah,U0 hxi,ix2,hth,y6,A6,K4,K3,hd,Y5,a2R,a9w,a9v,hgt,ha]
    rw [X9 rfl (by rw [a77];lia),b2X hm]
    simp (disch:=omega) only [g0,AH,AR,AS]
    rw [t8 (r:= .val (tp (mul n x g.2))) rfl rfl rfl (by rw [AU];lia),Ax]
    rfl) ⟨q6,q7,by simp [gR]⟩
 unfold nl' at e1
 rw [AU,AU,List.take_length] at e1
 exact⟨q6',q7',e1⟩
end
theorem b4Y{n:Nat}(hn:0<n)(hn8:n<=8){E:List MV}(hE:∀g∈E,C0 n g)(hl:(pk n E).length<=1000):∃R:RW,(R.map (·.1)).Nodup/\(∀x,x∈R.map (·.1)↔M5 n (pk n E) x)/\(∀p∈R,Wd n (pk n E) p.1 p.2)/\R.length<=1000/\a0j [.int n,.list ((pk n E).map tp)]=some (.ow (.dct (z0 R))):=by
 have hF:∀g∈pk n E,C0 n g:=fun g hg=>hE g (a02 E hg)
 obtain⟨P,hP,hPF⟩:=a5L hn hn8 hF hl
 rw [b4K] at hPF
 generalize hFF:pk n E=F at hF hP hPF
 have hnn:n*n<=8*8:=Nat.mul_le_mul hn8 hn8
 let Q:List (Nat×MV):=P.map fun i=>(i,(F[i]?).getD e0)
 have hQ1:Q.map (·.1)=P:=by
  show(P.map _).map _=P
  rw [Az]
  exact(List.map_congr_left fun i _=>rfl).trans (List.map_id P)
 have hQ2:Q.map (·.2)=F:=by
  show(P.map _).map _=F
  rw [Az]
  have:P.map ((fun q:Nat×MV=>q.2)∘fun i=>(i,(F[i]?).getD e0))=(P.map fun i=>F[i]?).map fun o=>o.getD e0:=by rw [Az];rfl
  rw [this,hPF,Az]
  exact(List.map_congr_left fun i _=>rfl).trans (List.map_id F)
 have hQ:∀q∈Q,F[q.1]?=some q.2:=fun q hq=>by
  obtain⟨i,hi,rfl⟩:=Aj.mp hq
  have:F[i]?∈P.map fun i=>F[i]?:=Aj.mpr ⟨i,hi,rfl⟩
  rw [hPF] at this
  obtain⟨m,_,e⟩:=Aj.mp this
  show F[i]?=some ((F[i]?).getD e0)
  rw [<-e];rfl
 have cnd:∀(R:RW) (i:Nat) (s0 s1 s2 s3 q6 q7:Option d7),R.length<=1000->S8 (m2 a28 (a6 5) (m1 E8 (a6 4))) [s0,s1,s2,s3,some (.own (R.map fun p=>tp p.1)),some (.val (.int (i:Nat))),q6,q7]=some (decide (i<R.length)):=by
  intro L i s0 s1 s2 s3 q5 q6 hl
  have h1:E8 (.bor (L.map fun p=>tp p.1))=some (.val (.int (L.length:Nat))):=by
   have:=a3Y (L.map fun p=>tp p.1)
   rw [AU] at this
   exact this
  simp (disch:=omega) only [a6j,k9,B0,c9,G8,d8,m8,p6,AH,h1]
  by_cases h:i<L.length
  ·rw [decide_eq_true (show(i:Int)<(L.length:Int) by lia),decide_eq_true h]
   try rfl
  ·rw [decide_eq_false (show ¬(i:Int)<(L.length:Int) by lia),decide_eq_false h]
   try rfl
 obtain⟨ρ,m,hw,⟨R,i,s2,q6,q7,rfl,_,k,hi,hm,hc⟩,hf⟩:=J9 (c:=S8 (m2 a28 (a6 5) (m1 E8 (a6 4)))) (body:=L9)
  (I:=fun m ρ=>∃(R:RW) (i:Nat) (s2 q6 q7:Option d7),ρ=[some (.val (.int n)),some (.val (.list (F.map tp))),s2,some (.ow (.dct (z0 R))),some (.own (R.map fun p=>tp p.1)),some (.val (.int (i:Nat))),q6,q7]/\(s2=some (.own (nl' P))\/s2=some (.val (.list (nl' P))))/\KR n F R/\i<=R.length/\m+i=512/\(∀(j:Nat) (x:MV) (w:List Nat),j<i->R[j]?=some (x,w)->∀g∈F,mul n x g∈R.map (·.1)))
  (by
   rintro m ρ ⟨R,i,s2,q6,q7,rfl,hs2,k,hi,hm,hc⟩
   have hl:=k.kn.len hn hF
   rw [AU] at hl
   rw [cnd R i _ _ _ _ _ _ (by lia)]
   by_cases h:i<R.length
   ·right
    refine⟨by rw [decide_eq_true h], ?_⟩
    obtain⟨x,w,hx⟩:∃x w,R[i]?=some (x,w):=⟨R[i].1,R[i].2,getElem?_pos R i h⟩
    have hxR:(x,w)∈R:=Au hx
    obtain⟨q6',q7',e⟩:=b4Z hn hn8 hF hQ k hx (some (.val (.list (nl' P)))) q6 q7
    rw [hQ1] at e
    obtain⟨S,hS⟩:=a6l n x w Q R
    refine⟨[some (.val (.int n)),some (.val (.list (F.map tp))),some (.val (.list (nl' P))),some (.ow (.dct (z0 (gR n x w Q R)))),some (.own ((gR n x w Q R).map fun p=>tp p.1)),some (.val (.int ((i+1:Nat):Int))),q6',q7'],m - 1, ?_,by lia,gR n x w Q R,i+1,_,q6',q7',rfl,.inr rfl,KR.gR (k.wd _ hxR) Q R k hxR hQ, ?_,by lia, ?_⟩
    ·have hz:∀b:MS,a4j 2 b [some (.val (.int n)),some (.val (.list (F.map tp))),s2,some (.ow (.dct (z0 R))),some (.own (R.map fun p=>tp p.1)),some (.val (.int (i:Nat))),q6,q7]=b [some (.val (.int n)),some (.val (.list (F.map tp))),some (.val (.list (nl' P))),some (.ow (.dct (z0 R))),some (.own (R.map fun p=>tp p.1)),some (.val (.int (i:Nat))),q6,q7]:=by
      intro b
      rcases hs2 with rfl|rfl<;>rfl
     unfold L9
     rw [f6,hz]
     simp (disch:=omega) only [c9,d8,b0,g0,j9,AH,D0,w6,e]
     rw [show((i+1:Nat):Int)=(i:Int)+1 by lia]
     rfl
    ·rw [hS,AZ];lia
    ·intro j y v hj hy g hg
     rw [b1Z,hQ2,J6]
     by_cases hji:j<i
     ·have hjl:j<R.length:=by lia
      rw [hS,BB hjl] at hy
      exact .inl (hc j y v hji hy g hg)
     ·have:j=i:=by lia
      subst this
      rw [hS,BB h,hx] at hy
      cases hy
      exact .inr ⟨g,hg,rfl⟩
   ·left
    rw [decide_eq_false h]) 1000 512 [some (.val (.int n)),some (.val (.list (F.map tp))),some (.own (nl' P)),some (.ow (.dct (z0 [(e0,[])]))),some (.own [tp e0]),some (.val (.int ((0:Nat):Int))),none,none] (by lia)
  ⟨[(e0,[])],0,_,none,none,rfl,.inl rfl,⟨⟨by simp,fun x hx=>(by simpa using hx:x=e0)▸.base,List.mem_singleton.mpr rfl⟩,fun p hp=>by rw [List.mem_singleton.mp hp];exact⟨rfl,fun i hi=>nomatch hi⟩,fun p hp=>by rw [List.mem_singleton.mp hp];simp⟩,by lia,by lia,fun j x w hj=>by lia⟩
 have hl2:=k.kn.len hn hF
 rw [AU] at hl2
 rw [cnd R i _ _ _ _ _ _ (by lia)] at hf
 have hil:¬i<R.length:=of_decide_eq_false (Option.some.inj hf)
 refine⟨R,k.kn.nd,a0R k.kn fun x hx g hg=> ?_,k.wd,by lia, ?_⟩
 ·obtain⟨⟨y,w⟩,hp,rfl⟩:=Aj.mp hx
  obtain⟨j,hj,e⟩:=List.mem_iff_getElem.mp hp
  exact hc j y w (by lia) (by rw [BA hj,e]) g hg
 ·unfold a0j a5l
  have hw':B9 (S8 (m2 a28 (a6 5) (m1 E8 (a6 4)))) L9 1000 [some (.val (.int n)),some (.val (.list (F.map tp))),some (.own (P.map fun i=> .int (i:Nat))),some (.ow (.dct [([.inr (AI "stay"),.inl 0,.inl 0],.list [])])),some (.own [.tuple [.str (AI "stay"),.int 0,.int 0]]),some (.val (.int 0)),none,none]=_:=hw
  simp (disch:=omega) only [l9,c9,d8,b9,a9,b0,S7,l0,v4,f9,g8,n6,f6,g0,j8,m9,AH,AM,Ad,Ac,Af,Ao,Ak,AR,AS,AT,Aa,↓reduceIte,a0m,a0n,sz,Nat.reduceAdd,Ah,hP,a00,a6s,T2,hw']
  try rfl
theorem b4c{n:Int}{x y:MV}(hx:x.1∈k6)(hy:y.1∈k6)(p q:Int):
 lr n (mul n x y).1 (mul n x y).2.1 (mul n x y).2.2 p q=lr n y.1 y.2.1 y.2.2 (lr n x.1 x.2.1 x.2.2 p q) (lc n x.1 x.2.1 x.2.2 p q)/\
 lc n (mul n x y).1 (mul n x y).2.1 (mul n x y).2.2 p q=lc n y.1 y.2.1 y.2.2 (lr n x.1 x.2.1 x.2.2 p q) (lc n x.1 x.2.1 x.2.2 p q):=by
 obtain⟨a,d1,r1⟩:=x
 obtain⟨b,d2,r2⟩:=y
 have ha:a∈k6:=hx
 have hb:b∈k6:=hy
 constructor
 ·show(i6 (o0 a b) p q+(i6 b d1 r1+d2) % n) % n=(i6 b ((i6 a p q+d1) % n) ((i5 a p q+r1) % n)+d2) % n
  rw [a1Q hb,a8a ha hb,a1P hb,Int.add_emod_emod,Int.add_assoc]
 ·show(i5 (o0 a b) p q+(i5 b d1 r1+r2) % n) % n=(i5 b ((i6 a p q+d1) % n) ((i5 a p q+r1) % n)+r2) % n
  rw [a1s hb,a7j ha hb,a1r hb,Int.add_emod_emod,Int.add_assoc]
def Lvs(n:Nat)(f:Nat->Nat->Nat)(x:MV):Prop:=∀a b:Nat,a<n->b<n->f (lr n x.1 x.2.1 x.2.2 a b).toNat (lc n x.1 x.2.1 x.2.2 a b).toNat=f a b
theorem a8T{n:Nat}(hn:0<n){f:Nat->Nat->Nat}{x:MV}(hx:x.1∈k6):uaR n f x.1 x.2.1 x.2.2=none↔Lvs n f x:=by
 rw [a41]
 constructor
 ·intro h a b ha hb
  obtain⟨⟨b1,b2⟩,b3,b4⟩:=a1E (n:=(n:Int)) (by lia) x.1 x.2.1 x.2.2 a b
  rw [h _ _ (by lia) (by lia),a4s hn f hx _ _ ha hb]
 ·intro h r c hr hc
  obtain⟨a,b,ha,hb,e1,e2⟩:=a2m hn hx x.2.1 x.2.2 hr hc
  have h1:=h a b ha hb
  have h2:=a4s hn f hx x.2.1 x.2.2 ha hb
  rw [e1,e2,tn,tn] at h1 h2
  rw [h1,h2]
theorem b7B{n:Nat}{f:Nat->Nat->Nat}:Lvs n f e0:=by
 intro a b ha hb
 have h1:lr n (AI "stay") 0 0 a b=(a:Nat):=by
  show((a:Int)+0) % n=_
  rw [Int.add_zero,Int.emod_eq_of_lt (by lia) (by lia)]
 have h2:lc n (AI "stay") 0 0 a b=(b:Nat):=by
  show((b:Int)+0) % n=_
  rw [Int.add_zero,Int.emod_eq_of_lt (by lia) (by lia)]
 show f (lr n (AI "stay") 0 0 a b).toNat (lc n (AI "stay") 0 0 a b).toNat=_
 rw [h1,h2,tn,tn]
theorem b4f{n:Nat}(hn:0<n){f:Nat->Nat->Nat}{x y:MV}(hx:x.1∈k6)(hy:y.1∈k6)(lx:Lvs n f x)(ly:Lvs n f y):Lvs n f (mul n x y):=by
 intro a b ha hb
 obtain⟨⟨b1,b2⟩,b3,b4⟩:=a1E (n:=(n:Int)) (by lia) x.1 x.2.1 x.2.2 a b
 have h:=b4c (n:=(n:Int)) hx hy a b
 have h1:=ly (lr n x.1 x.2.1 x.2.2 a b).toNat (lc n x.1 x.2.1 x.2.2 a b).toNat (by lia) (by lia)
 rw [Int.toNat_of_nonneg b1,Int.toNat_of_nonneg b3] at h1
 rw [h.1,h.2,h1,lx a b ha hb]
def a11(n:Nat):List MV:=Q7.flatMap fun w=>(AW n).flatMap fun d=>(AW n).map fun t=>(w,((d:Nat):Int),((t:Nat):Int))
theorem a3c(n:Nat):a0r Q7 n=(a11 n).map tp:=by
 unfold a0r a11
 rw [List.map_flatMap]
 congr 1;funext w
 rw [List.map_flatMap]
 congr 1;funext d
 rw [Az]
 rfl
theorem a4m{n:Nat}{x:MV}:x∈a11 n↔C0 n x:=by
 constructor
 ·intro h
  obtain⟨w,hw,h⟩:=List.mem_flatMap.mp h
  obtain⟨d,hd,h⟩:=List.mem_flatMap.mp h
  obtain⟨t,ht,rfl⟩:=Aj.mp h
  have hd:=List.mem_range.mp hd
  have ht:=List.mem_range.mp ht
  exact⟨a8l.mp hw,⟨by show(0:Int)<=(d:Nat);lia,by show((d:Nat):Int)<n;lia⟩,by show(0:Int)<=(t:Nat);lia,by show((t:Nat):Int)<n;lia⟩
 ·obtain⟨w,d,t⟩:=x
  rintro⟨h1,h2,h3⟩
  have a:0<=d/\d<n:=h2
  have b:0<=t/\t<n:=h3
  refine List.mem_flatMap.mpr ⟨w,a8l.mpr h1,List.mem_flatMap.mpr ⟨d.toNat,List.mem_range.mpr (by lia),Aj.mpr ⟨t.toNat,List.mem_range.mpr (by lia), ?_⟩⟩⟩
  rw [Int.toNat_of_nonneg a.1,Int.toNat_of_nonneg b.1]
theorem a8o:Q7.Pairwise fun a b=>a4g (.inr b) (.inr a)=false/\a≠b:=by
 unfold Q7
 decide+kernel
theorem a9m(n:Nat):(a11 n).Pairwise fun a b=>E2 (ky b) (ky a)=false/\a≠b:=by
 unfold a11
 refine List.pairwise_flatMap.mpr ⟨fun w _=>List.pairwise_flatMap.mpr ⟨fun d _=>List.pairwise_map.mpr (List.pairwise_lt_range.imp fun {a b} h=> ?_),List.pairwise_lt_range.imp fun {a b} h x hx y hy=> ?_⟩,a8o.imp fun {a b} h x hx y hy=> ?_⟩
 ·constructor
  ·show(if(Sum.inr w:f8)=Sum.inr w then _ else _)=false
   rw [if_pos rfl]
   show(if(Sum.inl ((d:Nat):Int):f8)=Sum.inl ((d:Nat):Int) then _ else _)=false
   rw [if_pos rfl]
   show(if(Sum.inl ((b:Nat):Int):f8)=Sum.inl ((a:Nat):Int) then _ else _)=false
   rw [if_neg (by intro e;have:=Sum.inl.inj e;lia)]
   exact decide_eq_false (show ¬((b:Nat):Int)<(a:Nat) by lia)
  ·intro e
   have:=congrArg (fun z:MV=>z.2.2) e
   simp only at this
   lia
 ·obtain⟨t,_,rfl⟩:=Aj.mp hx
  obtain⟨u,_,rfl⟩:=Aj.mp hy
  constructor
  ·show(if(Sum.inr w:f8)=Sum.inr w then _ else _)=false
   rw [if_pos rfl]
   show(if(Sum.inl ((b:Nat):Int):f8)=Sum.inl ((a:Nat):Int) then _ else _)=false
   rw [if_neg (by intro e;have:=Sum.inl.inj e;lia)]
   exact decide_eq_false (show ¬((b:Nat):Int)<(a:Nat) by lia)
  ·intro e
   have:=congrArg (fun z:MV=>z.2.1) e
   simp only at this
   lia
 ·obtain⟨d,_,hx⟩:=List.mem_flatMap.mp hx
  obtain⟨t,_,rfl⟩:=Aj.mp hx
  obtain⟨d',_,hy⟩:=List.mem_flatMap.mp hy
  obtain⟨u,_,rfl⟩:=Aj.mp hy
  constructor
  ·show(if(Sum.inr b:f8)=Sum.inr a then _ else _)=false
   rw [if_neg (by intro e;exact h.2 (Sum.inr.inj e).symm)]
   exact h.1
  ·intro e
   exact h.2 (congrArg (fun z:MV=>z.1) e)
def lvV(n:Nat)(f:Nat->Nat->Nat):List MV:=(a11 n).filter fun x=>(uaR n f x.1 x.2.1 x.2.2).isNone
theorem U6{n:Nat}(hn:0<n){f:Nat->Nat->Nat}{x:MV}:x∈lvV n f↔C0 n x/\Lvs n f x:=by
 unfold lvV
 rw [List.mem_filter,a4m,Option.isNone_iff_eq_none]
 exact⟨fun h=>⟨h.1,(a8T hn h.1.1).mp h.2⟩,fun h=>⟨h.1,(a8T hn h.1.1).mpr h.2⟩⟩
theorem a4h(n:Nat)(f:Nat->Nat->Nat):(lvV n f).Pairwise fun a b=>E2 (ky b) (ky a)=false/\a≠b:=(a9m n).filter _
theorem b2k(n:Nat)(f:Nat->Nat->Nat):(lvV n f).Nodup:=(a4h n f).imp fun h=>h.2
theorem a9M{n:Nat}{f:Nat->Nat->Nat}{L:List MV}(h:L.Nodup)(hm:∀x,x∈L↔x∈lvV n f):srt L=(lvV n f).map tp:=by
 have hp:(lvV n f).Perm L:=(List.perm_ext_iff_of_nodup (b2k n f) h).mpr fun x=>(hm x).symm
 unfold srt
 rw [a4U S2 (List.pairwise_map.mpr ((a4h n f).imp fun h=>h.1)) (hp.map ky),Az]
 rfl
theorem a9L{n:Nat}(hn:0<n){f:Nat->Nat->Nat}(x:MV):x∈lvV n f↔M5 n (lvV n f) x:=by
 have hok:∀g∈lvV n f,C0 n g:=fun g hg=>((U6 hn).mp hg).1
 constructor
 ·exact fun h=>M5.gen hok h
 ·intro h
  induction h with
  |base=>exact(U6 hn).mpr ⟨b4t (by lia),b7B⟩
  |step _ hg ih=>
   have h1:=(U6 hn).mp ih
   have h2:=(U6 hn).mp hg
   exact(U6 hn).mpr ⟨a6H (by lia) h1.1 h2.1,b4f hn h1.1.1 h2.1.1 h1.2 h2.2⟩
theorem a8Q{n:Nat}(hn:0<n)(hn8:n<=8)(f:Nat->Nat->Nat):a0i [t0 n f]=some (.own ((lvV n f).map tp)):=by
 have hsz:(a11 n).length<=16777216:=by
  have e:(a11 n).length=(a0r Q7 n).length:=by rw [a3c,AU]
  rw [e,a3C]
  have hnn:n*n<=8*8:=Nat.mul_le_mul hn8 hn8
  have:Q7.length*(n*n)<=8*(8*8):=Nat.mul_le_mul (by decide) hnn
  lia
 unfold a0i a5j
 rw [j8]
 rw [m5,a6y (ι:=tp) (f:=tp) (q:=fun x:MV=>(uaR n f x.1 x.2.1 x.2.2).isNone) (a11 n) (a2S (r:= .ow (.lst (a0r Q7 n))) (by simp (disch:=omega) only [B0,c9,b9,a9,b0,f9,AH,AM,Ad,Af,Am,J0,b1d hn8]) (by rw [a3c];rfl)) hsz]
 ·simp (disch:=omega) only [a9h,m9,AH]
  rfl
 ·rintro⟨w,d,t⟩ hp
  have hw:=(a4m.mp hp).1
  refine⟨_,rfl, ?_,fun _=> ?_⟩
  ·have h:=b0A hn (by lia) f hw d t
   have h':Y2 [t0 n f,tp (w,d,t)]=_:=h
   simp (disch:=omega) only [c9,d8,b9,a9,b0,f9,b4o,b73,AH,AM,Ad,Ac,Af,Am,Ao,Ak,AR,AS,h']
  ·unfold a1D
   simp (disch:=omega) only [c9,d8,b0,AH,AM,Ad,Ac,Af,Am,Ao,Ak,AR,AS]
theorem b1b{n:Nat}(hn8:n<=8):a0h [.int n]=some (.own ((a11 n).map tp)):=by
 obtain⟨q2,q3,q4,e⟩:=a95 hn8 Q7 (by decide)
 rw [<-a3c]
 unfold a0h a5i
 simp (disch:=omega) only [l9,b9,a9,b0,l0,v4,g8,a3D,f6,g0,j8,j9,AH,AM,Ad,Ac,Af,Ao,Ak,AR,AS,AT,Aa,↓reduceIte,a2O,w6,sz,Nat.reduceAdd,Ah]
 rw [show w4 a1C (f7 2) [.str (AI "back"),.str (AI "cross"),.str (AI "flip"),.str (AI "half"),.str (AI "other"),.str (AI "side"),.str (AI "stay"),.str (AI "turn")] [some (.val (.int n)),some (.own []),none,none,none]=_ from e]
 simp (disch:=omega) only [g0,m9,AH,a0m,a0n]
theorem a8V(i:Nat)(mk mv:M)(ρ:a8):a8U i mk mv ρ=((mv ρ).bind d7.toVal).bind fun p=>((mk ρ).bind a6r).bind (a0C i ρ p):=Eq.trans rfl rfl
theorem b0B{n:Nat}(hn:0<n)(hn8:n<=8)(f:Nat->Nat->Nat){w:Str}(hw:w∈k6)(d t:Int):∃D:List (List f8×PV),(∀a b:Nat,a<n->b<n->m6 D [.inl (lr n w d t a b),.inl (lc n w d t a b)]=some (row [f a b]))/\B4 [t0 n f,T3 w d t]=some (.ow (.dct D)):=by
 have inj:∀a b x y:Nat,a<n->b<n->x<n->y<n->lr n w d t a b=lr n w d t x y->lc n w d t a b=lc n w d t x y->a=x/\b=y:=by
  intro a b x y ha hb hx hy h1 h2
  have g1:=a3J (n:=(n:Int)) (by lia) hw d t (a:=a) (b:=b) (by lia) (by lia)
  have g2:=a3J (n:=(n:Int)) (by lia) hw d t (a:=x) (b:=y) (by lia) (by lia)
  rw [h1,h2,g2.1,g2.2] at g1
  lia
 obtain⟨ρ1,e1,D,hl,hD,q4,q5,rfl⟩:=m7 (body:=K7) (tg:=f7 4) (fun i ρ=>∃D:List (List f8×PV),D.length<=8*i/\(∀a b:Nat,a<i->b<n->m6 D [.inl (lr n w d t a b),.inl (lc n w d t a b)]=some (row [f a b]))/\∃q4 q5:Option d7,ρ=[some (.val (t0 n f)),some (.val (T3 w d t)),some (.val (.int n)),some (.ow (.dct D)),q4,q5])
  (ps:=G4 0 n) (ρ:=[some (.val (t0 n f)),some (.val (T3 w d t)),some (.val (.int n)),some (.ow (.dct [])),none,none])
  (by
   rintro i p hp ρ ⟨D,hl,hD,q4,q5,rfl⟩
   obtain⟨rfl,hi⟩:=G9 hp
   have hi':(0:Int)+(i:Int)=(i:Int):=by lia
   rw [hi'] at hi ⊢
   obtain⟨ρ2,e2,D2,hl2,hD2,hD3,q5',rfl⟩:=m7 (body:=K6) (tg:=f7 5) (fun j ρ=>∃D2:List (List f8×PV),D2.length<=8*i+j/\(∀a b:Nat,a<i->b<n->m6 D2 [.inl (lr n w d t a b),.inl (lc n w d t a b)]=some (row [f a b]))/\(∀b:Nat,b<j->m6 D2 [.inl (lr n w d t i b),.inl (lc n w d t i b)]=some (row [f i b]))/\∃q5:Option d7,ρ=[some (.val (t0 n f)),some (.val (T3 w d t)),some (.val (.int n)),some (.ow (.dct D2)),some (.val (.int (i:Nat))),q5])
    (ps:=G4 0 n) (ρ:=[some (.val (t0 n f)),some (.val (T3 w d t)),some (.val (.int n)),some (.ow (.dct D)),some (.val (.int (i:Nat))),q5])
    (by
     rintro j p hp ρ ⟨D2,hl2,hD2,hD3,q5,rfl⟩
     obtain⟨rfl,hj⟩:=G9 hp
     have hj':(0:Int)+(j:Int)=(j:Int):=by lia
     rw [hj'] at hj ⊢
     have hpl:=a75 D2 [.inl (lr n w d t i j),.inl (lc n w d t i j)] (row [f i j])
     refine p4 rfl (ρ2:=[some (.val (t0 n f)),some (.val (T3 w d t)),some (.val (.int n)),some (.ow (.dct (M1 D2 [.inl (lr n w d t i j),.inl (lc n w d t i j)] (row [f i j])))),some (.val (.int (i:Nat))),some (.val (.int (j:Nat)))]) ?_ ⟨_,by lia,fun a b ha hb=> ?_,fun b hb=> ?_,_,rfl⟩
     ·unfold K6
      simp (disch:=omega) only [k9,c9,d8,b9,a9,b0,l0,f9,AH,AR,AS,AT,Aa,↓reduceIte,sz,Nat.reduceAdd,Ah,a8V,S5 hw (s:=(n:Int)) (by lia),a39,T4 (n:=n) (f:=f) (i:=((i:Nat):Int)) (by lia) (by lia),a04 (n:=n) (g:=fun c=>f i c) (j:=((j:Nat):Int)) (by lia) (by lia) (by lia),tn]
      rw [X9 rfl (by lia)]
      rfl
     ·rw [O3]
      split
      ·rename_i h
       injection h with h1 h2
       injection h2 with h2 _
       have:=inj i j a b (by lia) (by lia) (by lia) hb (Sum.inl.inj h1) (Sum.inl.inj h2)
       lia
      ·exact hD2 a b ha hb
     ·rw [O3]
      split
      ·rename_i h
       injection h with h1 h2
       injection h2 with h2 _
       have:=inj i j i b (by lia) (by lia) (by lia) (by lia) (Sum.inl.inj h1) (Sum.inl.inj h2)
       rw [this.2]
      ·rename_i h
       by_cases hbj:b<j
       ·exact hD3 b hbj
       ·have:b=j:=by lia
        exact absurd (by rw [this]) h) ⟨D,by lia,hD,fun b h=>by lia,q5,rfl⟩
   rw [C4] at hD3 hl2
   apply p4 rfl
   ·unfold K7
    simp (disch:=omega) only [c9,d8,b9,a9,b0,j9,n5,r9,AH,AR,AS]
    exact e2
   ·refine⟨D2,by lia,fun a b ha hb=> ?_,_,_,rfl⟩
    by_cases h:a<i
    ·exact hD2 a b h hb
    ·have:a=i:=by lia
     rw [this];exact hD3 b (by lia)) ⟨[],by simp,fun a b h=>by lia,none,none,rfl⟩
 rw [C4] at hD
 refine⟨D,fun a b ha hb=>hD a b (by lia) hb, ?_⟩
 unfold B4 a1m
 simp (disch:=omega) only [B0,c9,d8,b9,a9,b0,g8,n6,f6,g0,j8,j9,n5,r9,AH,AM,Ad,Ac,Af,Ao,Ak,AR,AS,J0,a5I,T2]
 rw [e1]
 rfl
theorem b1q{α:Type}{l:List α}{b:Nat}(h:b<=l.length):cut l none (some (b:Int))=l.take b:=by
 unfold cut
 rw [HT.sIx_none,HT.sIx_nat,Nat.min_eq_left h]
 simp
theorem b6f(L:List MV)(x:MV)(y:d7)(hy:y.rd= .list (L.map tp)):a2c false (.val (tp x)) y=some (.val (.bool (decide (x∈L)))):=by
 have h0:∀b,a2c b (.val (tp x)) y=gIn b (.val (tp x)) y:=fun b=>by
  unfold a2c
  split
  ·rename_i h;cases h
  ·rfl
 have h:=b5y L x y hy
 rw [h0] at h ⊢
 unfold gIn at h ⊢
 rw [hy] at h ⊢
 have h':(if n4 (tp x) 50=true/\C1 (L.map tp) 50=true then some (d7.val (.bool (!((L.map tp).any fun p=>PyData.eqv p (tp x))))) else none)=some (.val (.bool (!decide (x∈L)))):=h
 show(if n4 (tp x) 50=true/\C1 (L.map tp) 50=true then some (d7.val (.bool ((L.map tp).any fun p=>PyData.eqv p (tp x)))) else none)=_
 rw [if_pos ⟨rfl,a81 L 48⟩] at h' ⊢
 have h2:(!((L.map tp).any fun p=>PyData.eqv p (tp x)))= !decide (x∈L):=by
  have:=Option.some.inj h'
  injection this with this
  injection this
 rw [show((L.map tp).any fun p=>PyData.eqv p (tp x))=decide (x∈L) by rw [<-Bool.not_not ((L.map tp).any _),h2,Bool.not_not]]
theorem b45(L:List MV)(x:MV)(y:d7)(hy:y.rd= .list (srt L)):a2c false (.val (tp x)) y=some (.val (.bool (decide (x∈L)))):=by
 obtain⟨M,hp,e,_⟩:=b6Z L
 rw [b6f M x y (by rw [hy,e])]
 congr 3
 exact decide_eq_decide.mpr hp.mem_iff
theorem b8l(L:List MV)(x y:d7)(hx:x.rd= .list (L.map tp))(hy:y.rd= .list (L.map tp)):gNe x y=some (.val (.bool false)):=by
 have ok:n4 (.list (L.map tp)) 50=true:=a81 L 47
 have:=b1X ok
 rw [a2d (x:= .val (.list (L.map tp))) (y:= .val (.list (L.map tp))) ⟨ok,ok⟩] at this
 rw [a2d ⟨by rw [hx];exact ok,by rw [hy];exact ok⟩,hx,hy]
 exact this
theorem b6b(x y:MV):gNe (.val (tp x)) (.val (tp y))=some (.val (.bool (!decide (x=y)))):=by
 rw [a2d (x:= .val (tp x)) (y:= .val (tp y)) ⟨rfl,rfl⟩,a03,a03,b1F]
theorem b1R(a b:List Nat):gEq (.val (row a)) (.val (row b))=some (.val (.bool (a==b))):=by
 rw [b1Q (x:= .val (row a)) (y:= .val (row b)) ⟨a1u a 50,a1u b 50⟩,a03,a03,a9D]
theorem b3b{R:RW}(h:R.length<=1000):Y1 (.bo (.dct (z0 R)))=some (.own (srt (R.map (·.1)))):=by
 unfold Y1
 show(if okK ((z0 R).map (·.1))=true/\(z0 R).length<=16777216 then some (d7.own ((O2 E2 ((z0 R).map (·.1))).map kT)) else none)=_
 rw [b0U,if_pos ⟨a80 _,by rw [a77];lia⟩]
 rfl
theorem b7u{n:Int}(hn:0<n){F:List MV}(hF:∀g∈F,C0 n g)(w:List Nat)(hw:∀i∈w,i<F.length):C0 n (ev n F w):=by
 have:∀(w:List Nat) (a:MV),C0 n a->(∀i∈w,i<F.length)->C0 n (w.foldl (fun a i=>mul n a ((F[i]?).getD e0)) a):=by
  intro w
  induction w with
  |nil=>intro a h _;exact h
  |cons i w ih=>
   intro a h hw
   refine ih _ (a6H hn h ?_) fun j hj=>hw j (Ai _ hj)
   rw [getElem?_pos F i (hw i Al)]
   exact hF _ (List.getElem_mem _)
 exact this w e0 (b4t hn) hw
theorem b51(n:Int)(F:List MV)(w:List Nat)(i:Nat):ev n F (w++[i])=mul n (ev n F w) ((F[i]?).getD e0):=by
 unfold ev
 rw [List.foldl_append];rfl
section
variable {n:Nat}(hn:0<n)(hn8:n<=8){F:List MV}(hF:∀g∈F,C0 n g)
include hn hn8 hF
theorem b5i{w:List Nat}(hw:∀i∈w,i<F.length)(s0 s1 s3 s5 s6 q8 s9 s10 s11 s12:Option d7):
 ∃q8',w4 Y4 (f7 8) (nl' w) [s0,s1,some (.val (.int n)),s3,some (.own (F.map tp)),s5,s6,some (.val (tp e0)),q8,s9,s10,s11,s12]=some (.nx [s0,s1,some (.val (.int n)),s3,some (.own (F.map tp)),s5,s6,some (.val (tp (ev n F w))),q8',s9,s10,s11,s12]):=by
 obtain⟨ρ1,e1,q8',rfl⟩:=m7 (body:=Y4) (tg:=f7 8) (fun j ρ=>∃q8,ρ=[s0,s1,some (.val (.int n)),s3,some (.own (F.map tp)),s5,s6,some (.val (tp (ev n F (w.take j)))),q8,s9,s10,s11,s12])
  (ps:=nl' w) (ρ:=[s0,s1,some (.val (.int n)),s3,some (.own (F.map tp)),s5,s6,some (.val (tp e0)),q8,s9,s10,s11,s12])
  (by
   rintro j p hp ρ ⟨q8,rfl⟩
   obtain⟨i,hi,rfl⟩:∃i,w[j]?=some i/\p= .int (i:Nat):=by
    unfold nl' at hp
    rw [Aq] at hp
    cases h:w[j]? with
    |none=>rw [h] at hp;cases hp
    |some g=>rw [h] at hp;cases hp;exact⟨g,rfl,rfl⟩
   have hiF:=hw i (Au hi)
   have hg:F[i]?=some F[i]:=getElem?_pos F i hiF
   have ix:((F.map tp):List PV)[i]?=some (tp F[i]):=by rw [Aq,hg];rfl
   have hb:=a12 (n:=(n:Int)) (by lia) (b7u (by lia) hF (w.take j) fun i hi=>hw i (List.mem_of_mem_take hi)) (hF F[i] (List.getElem_mem _))
   rw [take_succ hi,b51,hg]
   apply p4 rfl
   ·unfold Y4
    simp (disch:=omega) only [k9,c9,G8,d8,b9,a9,b0,f9,g8,n6,AH,AR,AS,U0 ix,hb]
    rfl
   ·exact⟨_,rfl⟩) ⟨q8,rfl⟩
 unfold nl' at e1
 rw [AU,List.take_length] at e1
 exact⟨q8',e1⟩
end
theorem main:∀ns:List Int,ns.length<=63->b11 [.list (ns.map .int)]=some (.val (.bool true)):=by
 intro ns hl
 obtain⟨n,f,⟨hn,hn5⟩,_,ec⟩:=b1h (ns:=ns) (most:=5) (by lia)
 have hn5:n<=5:=by lia
 have hn8:n<=8:=by lia
 have hnn:n*n<=8*8:=Nat.mul_le_mul hn8 hn8
 have elv:=a8Q hn hn8 f
 have okE:∀x∈lvV n f,C0 n x:=fun x hx=>((U6 hn).mp hx).1
 have ndE:=b2k n f
 have lenE:(lvV n f).length<=1000:=by have:=a84 ndE okE;lia
 have sE:srt (lvV n f)=(lvV n f).map tp:=a9M ndE fun _=>Iff.rfl
 have efew:=b52 hn hn8 okE lenE lenE sE
 have l7:=b4L hn hn5 okE
 obtain⟨R,ndR,memR,wdR,lenR,erows⟩:=b4Y hn hn8 okE (by lia)
 have rF:∀x,M5 n (pk n (lvV n f)) x↔x∈lvV n f:=fun x=>(b6O (by lia) okE (fun y=>a9L hn y) x).trans (a9L hn x).symm
 have subF:∀x∈pk n (lvV n f),x∈lvV n f:=fun x hx=>a02 _ hx
 have newF:=b6N (n:=(n:Int)) (lvV n f)
 have mR:∀x,x∈R.map (·.1)↔x∈lvV n f:=fun x=>(memR x).trans (rF x)
 have sR:srt (R.map (·.1))=(lvV n f).map tp:=a9M ndR mR
 have okF:∀x∈pk n (lvV n f),C0 n x:=fun x hx=>okE x (subF x hx)
 have memE:=fun x:MV=>U6 hn (f:=f) (x:=x)
 generalize lvV n f=E at*
 generalize pk n E=F at*
 obtain⟨ρ1,e1,q6,q7,q8,rfl⟩:=m7 (body:=a4b) (tg:=f7 6) (fun _ ρ=>∃q6 q7 q8:Option d7,ρ=[scL ns,some (.val (t0 n f)),some (.val (.int n)),some (.val (.list (E.map tp))),some (.own (F.map tp)),some (.ow (.dct (z0 R))),q6,q7,q8,none,none,none,none])
  (ps:=E.map tp) (ρ:=[scL ns,some (.val (t0 n f)),some (.val (.int n)),some (.val (.list (E.map tp))),some (.own (F.map tp)),some (.ow (.dct (z0 R))),none,none,none,none,none,none,none])
  (by
   rintro j p hp ρ ⟨q6,q7,q8,rfl⟩
   obtain⟨x,hx,rfl⟩:=a6B hp
   have hxE:=Au hx
   obtain⟨⟨y,w⟩,hyR,hyx⟩:=Aj.mp ((mR x).mpr hxE)
   have hyx:y=x:=hyx
   subst hyx
   have wd:=wdR _ hyR
   have hv:=a4G ndR hyR
   obtain⟨q8',e⟩:=b5i hn hn8 okF (w:=w) wd.lt (scL ns) (some (.val (t0 n f))) (some (.val (.list (E.map tp)))) (some (.ow (.dct (z0 R)))) (some (.val (tp y))) q8 none none none none
   have hev:ev n F w=y:=wd.ev
   rw [hev] at e
   have hne:=b6b y y
   rw [decide_eq_true rfl] at hne
   have e':w4 Y4 (f7 8) (nl' w) [scL ns,some (.val (t0 n f)),some (.val (.int n)),some (.val (.list (E.map tp))),some (.own (F.map tp)),some (.ow (.dct (z0 R))),some (.val (tp y)),some (.val (.tuple [.str (AI "stay"),.int 0,.int 0])),q8,none,none,none,none]=_:=e
   apply p4 rfl
   ·unfold a4b
    simp (disch:=omega) only [k9,l9,c9,d8,b9,a9,b0,l0,g8,n6,f6,g0,m4,S1,r8,m8,p6,j9,AH,BF,AR,AS,AT,Aa,↓reduceIte,Bool.not_true,D0,w6,sz,Nat.reduceAdd,Ah,a2R,A6,a9w,a9v,hv,e',hne]
    rfl
   ·exact⟨_,_,_,rfl⟩) ⟨none,none,none,rfl⟩
 obtain⟨ρ2,e2,q9,rfl⟩:=m7 (body:=a4c) (tg:=f7 9) (fun _ ρ=>∃q9:Option d7,ρ=[scL ns,some (.val (t0 n f)),some (.val (.int n)),some (.val (.list (E.map tp))),some (.own (F.map tp)),some (.ow (.dct (z0 R))),q6,q7,q8,q9,none,none,none])
  (ps:=G4 0 F.length) (ρ:=[scL ns,some (.val (t0 n f)),some (.val (.int n)),some (.val (.list (E.map tp))),some (.own (F.map tp)),some (.ow (.dct (z0 R))),q6,q7,q8,none,none,none,none])
  (by
   rintro j p hp ρ ⟨q9,rfl⟩
   obtain⟨rfl,hj⟩:=G9 hp
   rw [show(0:Int)+(j:Int)=(j:Int) by lia] at hj ⊢
   have hjF:j<F.length:=by lia
   have hg:F[j]?=some F[j]:=getElem?_pos F j hjF
   have ix:((F.map tp):List PV)[j]?=some (tp F[j]):=by rw [Aq,hg];rfl
   have hin:=b5y E F[j] (.val (.list (E.map tp))) rfl
   rw [decide_eq_true (subF _ (List.getElem_mem hjF))] at hin
   have hT:∀g∈F.take j,C0 n g:=fun g hg=>okF g (List.mem_of_mem_take hg)
   obtain⟨L,nd,mem,ecm⟩:=b3B hn hn8 hT
   have hno:=b45 L F[j] (.own (srt L)) rfl
   rw [decide_eq_false (fun h=>newF j F[j] hg ((mem _).mp h))] at hno
   have hsl:gSl (.bo (.lst (F.map tp))) none (some (j:Int))=some (.own ((F.take j).map tp)):=by
    show some (d7.own (cut (F.map tp) none (some (j:Int))))=_
    rw [b1q (by rw [AU];lia),List.map_take]
   apply p4 rfl
   ·unfold a4c
    simp (disch:=omega) only [k9,c9,G8,d8,b9,a9,b0,S7,f9,m4,S1,r8,m8,p6,a1J,a9V,AH,AR,AS,Bool.not_true,a4k,a4r,a4q,a9I,U0 ix,hin,a4k,a4q,a4r,a9I,hsl,ecm,hno]
    rfl
   ·exact⟨_,rfl⟩) ⟨none,rfl⟩
 have hsz:(a11 n).length<=100000:=by
  have e:(a11 n).length=(a0r Q7 n).length:=by rw [a3c,AU]
  rw [e,a3C]
  have:Q7.length*(n*n)<=8*(8*8):=Nat.mul_le_mul (by decide) hnn
  lia
 obtain⟨ρ3,e3,q6',q8',q10,q11,q12,rfl⟩:=m7 (body:=a1B) (tg:=f7 6) (fun _ ρ=>∃q6 q8 q10 q11 q12:Option d7,ρ=[scL ns,some (.val (t0 n f)),some (.val (.int n)),some (.val (.list (E.map tp))),some (.own (F.map tp)),some (.ow (.dct (z0 R))),q6,q7,q8,q9,q10,q11,q12])
  (ps:=(a11 n).map tp) (ρ:=[scL ns,some (.val (t0 n f)),some (.val (.int n)),some (.val (.list (E.map tp))),some (.own (F.map tp)),some (.ow (.dct (z0 R))),q6,q7,q8,q9,none,none,none])
  (by
   rintro j p hp ρ ⟨q6,q8,q10,q11,q12,rfl⟩
   obtain⟨⟨w,d,t⟩,hx,rfl⟩:=a6B hp
   have hok:=a4m.mp (Au hx)
   have hw:w∈k6:=hok.1
   have hd:=a1N R (w,d,t)
   have hdd:decide ((w,d,t)∈R.map (·.1))=(uaR n f w d t).isNone:=by
    rw [Bool.eq_iff_iff,decide_eq_true_iff,Option.isNone_iff_eq_none,mR,memE,<-a8T hn (x:=(w,d,t)) hw]
    exact⟨fun h=>h.2,fun h=>⟨hok,h⟩⟩
   rw [hdd] at hd
   have h1:=b2j hn (by lia) f hw d t
   have h1':N3 [t0 n f,tp (w,d,t)]=_:=h1
   have h2:=a1Y hn (by lia) f hw d t
   have h2':D7 [t0 n f,tp (w,d,t)]=_:=h2
   cases hu:uaR n f w d t with
   |none=>
    rw [hu] at hd h1' h2'
    apply p4 rfl
    ·unfold a1B
     simp (disch:=omega) only [b5v,k9,l9,c9,d8,b9,a9,b0,f9,g8,n6,f6,g0,m4,m8,p6,a1J,a9V,AH,AR,AS,↓reduceIte,Bool.not_true,At,beq_self_eq_true,h1',h2',y6,A6,K4,K3,hd,Option.isNone_none,Option.getD_none]
     rfl
    ·exact⟨_,_,_,_,_,rfl⟩
   |some z=>
    obtain⟨r,c,rfl,hr,hc,hq⟩:=a50 hu
    obtain⟨D,hD,eD⟩:=b0B hn hn8 f hw d t
    have eD':B4 [t0 n f,tp (w,d,t)]=_:=eD
    have hv:m6 D [.inl (r:Nat),.inl (c:Nat)]=some (row [mvd n f w d t r c]):=by
     obtain⟨a,b,ha,hb,e1,e2⟩:=a2m hn hw d t hr hc
     have g:=hD a b ha hb
     have g3:=a4s hn f hw d t ha hb
     rw [e1,e2] at g
     rw [e1,e2,tn,tn] at g3
     rw [g,g3]
    have hq':(mvd n f w d t r c==f r c)=false:=by
     rw [<-hq,Bool.eq_iff_iff,beq_iff_eq,beq_iff_eq];exact eq_comm
    rw [hu] at hd h1' h2'
    have hix:=b4i (m:=k0 B4 (a5 (a6 1) (a5 (a6 6) c8))) (mk:=a5 (a6 11) (a5 (a6 12) c8)) (ρ:=[scL ns,some (.val (t0 n f)),some (.val (.int n)),some (.val (.list (E.map tp))),some (.own (F.map tp)),some (.ow (.dct (z0 R))),some (.val (tp (w,d,t))),q7,some (.val (.tuple [.int (r:Nat),.int (c:Nat)])),q9,some (.val (.bool false)),some (.val (.int (r:Nat))),some (.val (.int (c:Nat)))]) (by simp (disch:=omega) only [c9,d8,b9,a9,b0,f9,AH,eD']) (by simp (disch:=omega) only [c9,d8,b9,a9,b0,AH]) hv
    have is1:∀b:Bool,a7D b (.val (.tuple [.int (r:Nat),.int (c:Nat)])) (.val .none)=some (.val (.bool b)):=fun b=>by cases b<;>rfl
    apply p4 rfl
    ·unfold a1B
     simp (disch:=omega) only [b5v,k9,l9,c9,d8,b9,a9,b0,f9,g8,n6,f6,g0,m4,a0D,S1,r8,m8,p6,a1J,a9V,Y6,a42,AH,AR,AS,↓reduceIte,Bool.not_true,At,beq_self_eq_true,h1',h2',y6,A6,K4,K3,hd,Option.isNone_some,Option.getD_some,is1,hix,T4 (n:=n) (f:=f) (i:=((r:Nat):Int)) (by lia) (by lia),a04 (n:=n) (g:=fun c=>f r c) (j:=((c:Nat):Int)) (by lia) (by lia) (by lia),tn,b1R,a1o,hq']
     rfl
    ·exact⟨_,_,_,_,_,rfl⟩) ⟨_,_,none,none,none,rfl⟩
 have hso:=b3b lenR
 rw [sR] at hso
 have hne:=b8l E (.ow (.lst (E.map tp))) (.bo (.lst (E.map tp))) rfl rfl
 have hln:E8 (.bo (.lst (F.map tp)))=some (.val (.int (F.length:Nat))):=by
  have:=a3Y (F.map tp)
  rw [AU] at this
  exact this
 have hlb:∀l:List PV,a3Z (.bo (.lst l))=some (.own l):=fun _=>rfl
 have hfz:∀(b:MS),a4j 3 b [scL ns,some (.val (t0 n f)),some (.val (.int n)),some (.own (E.map tp)),some (.own (F.map tp)),some (.ow (.dct (z0 R))),none,none,none,none,none,none,none]=b [scL ns,some (.val (t0 n f)),some (.val (.int n)),some (.val (.list (E.map tp))),some (.own (F.map tp)),some (.ow (.dct (z0 R))),none,none,none,none,none,none,none]:=fun _=>rfl
 have h9:decide ((9:Int)<(F.length:Nat))=false:=decide_eq_false (by lia)
 have hall:=b1b hn8
 unfold b11 b5l
 simp (disch:=omega) only [b58,k9,B0,l9,c9,d8,b9,a9,b0,S7,f9,g8,n6,m5,x4,f6,g0,m4,S1,r8,j8,m9,m8,p6,a1J,a9V,j9,n5,r9,AH,AM,Ad,Ac,Af,Ao,Ak,AR,AS,D0,w6,ec,J0,elv,hlb,efew,erows,T2,hln,h9,a9R,hso,hne,hfz,e1,e2,hall,e3]
end LW
set_option maxHeartbeats 4000000
namespace LW
open PySem PySem.Spec PyProof.Rows L2 PU
def top(i:Nat):Stmt:=PySem.Challenge.pw_carpetkin_k45_whole_all_by_few.main.body.getD i (.Pass ⟨0,0,0,0⟩)
abbrev Z8:Stmt:=top 27
theorem a1T:j4 ["_law_way","_law_r","_law_c"] ["_law_way","_law_r","_law_c"] (d9 Z8):=mkS
abbrev Z7:Stmt:=top 28
theorem a1S:j4 ["_law_n","_law_movement_here","_law_place_here","_law_r","_law_c"] ["_law_n","_law_movement_here","_law_place_here"] (d9 Z7):=mkS
abbrev Z9:Stmt:=top 31
theorem a1U:j4 ["_law_n","_law_wish","_law_roots_here","_law_r","_law_c","_law_waiting","_law_here","_law_movement_here","_law_there"] ["_law_n","_law_wish"] (d9 Z9):=mkS
abbrev Z6:Stmt:=top 26
theorem a1R:j4 ["_law_cell","_law_k"] ["_law_cell","_law_k"] (d9 Z6):=mkS
abbrev O1:Stmt:=top 29
theorem W5:j4 ["_law_n","_law_number","_law_way"] ["_law_n","_law_number"] (d9 O1):=mkS
abbrev Q5:Stmt:=top 25
theorem a0b:j4 ["_law_script","_law_k"] ["_law_script","_law_k"] (d9 Q5):=mkS
abbrev U9:Stmt:=top 32
theorem a0L:j4 ["_law_script","_law_most","_law_n","_law_wish","_law_k","_law_roots_here","_law_letters","_law_rows","_law_r","_law_row","_law_c","_law_at","_law_number"] ["_law_script","_law_most"] (d9 U9):=mkS
abbrev K9:Stmt:=top 7
theorem S6:j4 ["side","movements","way","down","right"] ["side"] (d9 K9):=mkS
abbrev a08:Stmt:=top 12
theorem a21:j4 ["way"] ["way"] (d9 a08):=mkS
abbrev a07:Stmt:=top 8
theorem a20:j4 ["way","place","lead"] ["way","place"] (d9 a07):=mkS
abbrev V1:Stmt:=top 13
theorem a0N:j4 ["side","movement","way","shove"] ["side","movement"] (d9 V1):=mkS
abbrev b26:Stmt:=top 9
theorem b28:j4 ["side","movement","place","found"] ["side","movement","place"] (d9 b26):=mkS
abbrev a9i:Stmt:=top 1
theorem a90:j4 ["carpet","r","c","side"] ["carpet","r","c"] (d9 a9i):=mkS
abbrev a0a:Stmt:=top 15
theorem a1V:j4 ["carpet","movement","side","back","r","c","place"] ["carpet","movement"] (d9 a0a):=mkS
abbrev a4M:Stmt:=top 16
theorem a5U:j4 ["carpet","movement"] ["carpet","movement"] (d9 a4M):=mkS
theorem a6C:List.Nodup (α:=Str) ["carpet","movement"]:=by decide+kernel
abbrev a2w:Stmt:=top 17
theorem a4P:j4 ["carpet"] ["carpet"] (d9 a2w):=mkS
abbrev a09:Stmt:=top 10
theorem a22:j4 ["one","other"] ["one","other"] (d9 a09):=mkS
abbrev a9j:Stmt:=top 11
theorem a91:j4 ["side","one","other","shove"] ["side","one","other"] (d9 a9j):=mkS
abbrev a2x:Stmt:=top 19
theorem a4Q:j4 ["side","few","known","waiting","at","movement","come"] ["side","few"] (d9 a2x):=mkS
abbrev a4N:Stmt:=top 20
theorem a5V:j4 ["side","movements","places","few","known","place","movement"] ["side","movements"] (d9 a4N):=mkS
theorem a7S:List.Nodup (α:=Str) ["n","movements","listed","place"]:=by decide+kernel
abbrev a4L:Stmt:=top 22
theorem a5T:j4 ["n","movements","listed"] ["n","movements"] (d9 a4L):=mkS
abbrev a2y:Stmt:=top 23
theorem a4R:j4 ["n","movements","places","rows","waiting","at","place","come"] ["n","movements"] (d9 a2y):=mkS
abbrev a2v:Stmt:=top 30
theorem a4O:j4 ["_law_n","_law_found","_law_way","_law_r","_law_c"] ["_law_n"] (d9 a2v):=mkS
abbrev a06:Stmt:=top 34
theorem a2Z:j4 ["_law_carpet_here","_law_movement_here","_law_n","_law_r","_law_c","_law_r_to","_law_c_to"] ["_law_carpet_here","_law_movement_here"] (d9 a06):=mkS
abbrev U8:Stmt:=top 35
theorem a0K:j4 ["_law_n","_law_one","_law_other","_law_place_here","_law_way","_law_r","_law_c"] ["_law_n","_law_one","_law_other"] (d9 U8):=mkS
abbrev a05:Stmt:=top 36
theorem a2Y:j4 ["_law_n","_law_some","_law_found","_law_waiting","_law_here","_law_movement_here","_law_there"] ["_law_n","_law_some"] (d9 a05):=mkS
abbrev V0:Stmt:=top 33
theorem a0M:j4 ["_law_carpet_here","_law_movement_here","_law_n","_law_found","_law_r","_law_c"] ["_law_carpet_here","_law_movement_here"] (d9 V0):=mkS
abbrev b25:Stmt:=top 37
theorem b27:j4 ["_law_script","_law_carpet_here","_law_n","_law_found","_law_few","_law_rows","_law_movement_here","_law_here","_law_place_here","_law_k","_law_left_here","_law_r","_law_c"] ["_law_script"] (d9 b25):=mkS
structure Mo(K:AD)(mg:Str->Option AA):Prop where
 z_enumerate:mg "enumerate"=none
 z_len:mg "len"=none
 z_list:mg "list"=none
 z_range:mg "range"=none
 z_sorted:mg "sorted"=none
 z_tuple:mg "tuple"=none
 nk:a0J K=true
 nl:b4r K=true
section
variable (P:AL)(w:AJ)(K:AD)(mg:Str->Option AA)(base:Heap)
abbrev X1:Prop:=p9 P w K mg base "_law_plain" ["_law_way","_law_r","_law_c"] 1 v8
abbrev I0:Prop:=a3u P w K mg base "_law_place" ["_law_n","_law_movement_here","_law_place_here"] 2 A4
abbrev a2F:Prop:=p9 P w K mg base "_law_roots" ["_law_n","_law_wish"] 3 P2
abbrev a2E:Prop:=p9 P w K mg base "_law_mixed" ["_law_cell","_law_k"] 1 A3
abbrev X0:Prop:=p9 P w K mg base "_law_movement" ["_law_n","_law_number"] 1 F9
abbrev a0w:Prop:=p9 P w K mg base "_law_cell_at" ["_law_script","_law_k"] 1 r6
abbrev a1f:Prop:=p9 P w K mg base "_law_carpet" ["_law_script","_law_most"] 4 L6
abbrev V6:Prop:=p9 P w K mg base "all_movements" ["side"] 1 C7
abbrev a3y:Prop:=p9 P w K mg base "way_back" ["way"] 1 a0X
abbrev T0:Prop:=p9 P w K mg base "place_by" ["way","place"] 1 A5
abbrev a1h:Prop:=p9 P w K mg base "taken_back" ["side","movement"] 2 L7
abbrev b1a:Prop:=p9 P w K mg base "led" ["side","movement","place"] 2 a5y
abbrev b09:Prop:=p9 P w K mg base "knot" ["carpet","r","c"] 1 a33
abbrev X2:Prop:=p9 P w K mg base "unlike_at" ["carpet","movement"] 3 D7
abbrev a7b:Prop:=p9 P w K mg base "leaves" ["carpet","movement"] 4 Y2
abbrev a5f:Prop:=p9 P w K mg base "leaving" ["carpet"] 5 a0i
abbrev a3z:Prop:=p9 P w K mg base "way_then" ["one","other"] 2 U2
abbrev a8x:Prop:=p9 P w K mg base "then" ["side","one","other"] 3 a2g
abbrev a5g:Prop:=p9 P w K mg base "made_of" ["side","few"] 4 B5
abbrev a3x:Prop:=p9 P w K mg base "needed" ["side","movements"] 5 J5
abbrev a7a:Prop:=p9 P w K mg base "few_of" ["n","movements"] 6 a1z
abbrev a5h:Prop:=p9 P w K mg base "rows_to" ["n","movements"] 6 a0j
abbrev a5e:Prop:=p9 P w K mg base "_law_all" ["_law_n"] 1 a0h
abbrev a3w:Prop:=p9 P w K mg base "_law_left" ["_law_carpet_here","_law_movement_here"] 3 N3
abbrev S9:Prop:=p9 P w K mg base "_law_behind" ["_law_n","_law_one","_law_other"] 3 F8
abbrev a3v:Prop:=p9 P w K mg base "_law_come" ["_law_n","_law_some"] 4 U1
abbrev a1g:Prop:=p9 P w K mg base "_law_led_to" ["_law_carpet_here","_law_movement_here"] 3 B4
end
section
variable (P:AL)(w:AJ){K:AD}{mg:Str->Option AA}(base:Heap)
theorem a6F(D:Df K mg "_law_plain" Z8):X1 P w K mg base:=by
 refine p7 (k:=0) D a1T (fun _ _ _ _ _ _=>el3 (fun _ _ _=>rfl)) fun f cdv A outer s H E hr=> ?_
 have S:=a1T
 have hu:=hr.units
 refine e9 ?_
 refine n8 ?_
 refine b0n ?_ ?_ ?_ ?_
 ·exact hu
 ·refine J3 ?_ ?_
  ·exact(l8 (a0 (a4 1 (pv 1)) (a0 (a4 2 (pv 2)) c6)))
  refine J3 ?_ ?_
  ·exact(l8 (a0 (a4 2 (pv 2)) (a0 (Q1 (a4 1 (pv 1))) c6)))
  refine J3 ?_ ?_
  ·exact(l8 (a0 (Q1 (a4 1 (pv 1))) (a0 (Q1 (a4 2 (pv 2))) c6)))
  refine J3 ?_ ?_
  ·exact(l8 (a0 (Q1 (a4 2 (pv 2))) (a0 (a4 1 (pv 1)) c6)))
  refine J3 ?_ ?_
  ·exact(l8 (a0 (a4 1 (pv 1)) (a0 (Q1 (a4 2 (pv 2))) c6)))
  refine J3 ?_ ?_
  ·exact(l8 (a0 (Q1 (a4 1 (pv 1))) (a0 (a4 2 (pv 2)) c6)))
  refine J3 ?_ ?_
  ·exact(l8 (a0 (a4 2 (pv 2)) (a0 (a4 1 (pv 1)) c6)))
  exact(J3 (l8 (a0 (Q1 (a4 2 (pv 2))) (a0 (Q1 (a4 1 (pv 1))) c6))) b3R)
 ·exact(a4 0 (pv 0))
 decide+kernel
theorem a6E(D:Df K mg "_law_place" Z7)(z9:X1 P w K mg base):I0 P w K mg base:=by
 refine b3W (k:=1) D a1S (fun _ _ _ _ _ _=>el3 (fun _ _ _=>rfl)) fun f cdv A outer s H E hr=> ?_
 have S:=a1S
 have hu:=hr.units
 exact(b1D (a6i (is:=[3,4]) rfl (j3 z9 hr (by decide) rfl (a7 (a7 (a7 g7))) (a0 (i8 (a4 1 (pv 1)) d6) (a0 (i8 (a4 2 (pv 2)) d6) (a0 (i8 (a4 2 (pv 2)) d6) c6)))) (C3 (i9 (i:=3) S.nd rfl (Or.inl rfl)) (C3 (i9 (i:=4) S.nd rfl (Or.inl rfl)) a1M))) (b3O (b5Z (b1C (a0 (j6 u0 (j6 w8 (a4 3 (pv 3)) (i8 (a4 1 (pv 1)) d6)) (a4 0 (pv 0))) (a0 (j6 u0 (j6 w8 (a4 4 (pv 4)) (i8 (a4 1 (pv 1)) d6)) (a4 0 (pv 0))) c6))))))
theorem a6G(D:Df K mg "_law_roots" Z9)(M:Mo K mg)(t5:I0 P w K mg base):a2F P w K mg base:=by
 refine p7 (k:=2) D a1U (fun _ _ _ _ _ _=>el2 (fun _ _=>rfl)) fun f cdv A outer s H E hr=> ?_
 have S:=a1U
 have hu:=hr.units
 refine c7 ?_ ?_
 ·exact(i3 (i:=2) S.nd a9A)
 refine c7 ?_ ?_
 ·refine q0 PassesOwn.never ?_ ?_ M.z_range ?_ ?_ (j0 3) ?_
  ·exact rfl
  ·exact rfl
  ·exact(a0 (a4 0 (pv 0)) c6)
  ·exact(i9 (i:=3) S.nd rfl (Or.inl rfl))
  refine e9 ?_
  refine q0 PassesOwn.never ?_ ?_ M.z_range ?_ ?_ (j0 4) ?_
  ·exact rfl
  ·exact rfl
  ·exact(a0 (a4 0 (pv 0)) c6)
  ·exact(i9 (i:=4) S.nd rfl (Or.inl rfl))
  refine e9 ?_
  refine J4 ?_ ?_ ?_
  ·exact(a8I 2 hu (pv 2) (b1C (a0 (a4 3 (pv 3)) (a0 (a4 4 (pv 4)) c6))) (by first|rfl|exact p0 _))
  ·refine c7 ?_ ?_
   ·refine b3T 2 ?_ (pv 2) ?_ ?_
    ·exact hu
    ·exact(a0 (a4 3 (pv 3)) (a0 (a4 4 (pv 4)) c6))
    exact(l8 (a0 (a4 3 (pv 3)) (a0 (a4 4 (pv 4)) c6)))
   refine c7 ?_ ?_
   ·exact(i3 (i:=5) S.nd (A1 (a0 (l8 (a0 (a4 3 (pv 3)) (a0 (a4 4 (pv 4)) c6))) c6)))
   refine e9 ?_
   refine a1v 100 PassesOwn.never ?_ ?_
   ·exact(v9 (Z1 hu) (a4 5 (pv 5)) (A1 c6) (by first|rfl|exact p0 _))
   refine c7 ?_ ?_
   ·exact(b1I 6 5 S.nd (pv 5))
   refine e9 ?_
   refine Q2 PassesOwn.never ?_ ?_ ?_ (j0 7) ?_
   ·exact rfl
   ·exact(a4 1 (pv 1))
   ·exact(i9 (i:=7) S.nd rfl (Or.inl rfl))
   refine b3V (x:=8) (d:=2) ?_ ?_ ?_ (pv 8) (pv 2) ?_ (pv 2) (pv 8) ?_ ?_
   ·exact S.nd
   ·exact hu
   ·refine b1B t5 hr ?_ ?_ ?_ ?_
    ·decide
    ·exact rfl
    ·exact(a7 (a7 (a7 g7)))
    exact(a0 (a4 0 (pv 0)) (a0 (a4 7 (pv 7)) (a0 (a4 6 (pv 6)) c6)))
   ·exact(l8 (a0 (a4 3 (pv 3)) (a0 (a4 4 (pv 4)) c6)))
   ·exact(y3 5 (pv 5) (a4 8 (pv 8)))
   exact y9
  exact y9
 exact(e9 (P1 2 (pv 2)))
theorem a6D(D:Df K mg "_law_mixed" Z6):a2E P w K mg base:=by
 refine p7 (k:=0) D a1R (fun _ _ _ _ _ _=>el2 (fun _ _=>rfl)) fun f cdv A outer s H E hr=> ?_
 have S:=a1R
 have hu:=hr.units
 refine e9 ?_
 refine n8 ?_
 refine j6 u0 ?_ ?_
 ·refine j6 J8 ?_ ?_
  ·exact(j6 w8 (j6 w8 (j6 u0 (a4 0 (pv 0)) d6) (j6 J8 (a4 1 (pv 1)) (a4 1 (pv 1)))) d6)
  exact d6
 exact d6
theorem a3b(D:Df K mg "_law_movement" O1):X0 P w K mg base:=by
 refine p7 (k:=0) D W5 (fun _ _ _ _ _ _=>el2 (fun _ _=>rfl)) fun f cdv A outer s H E hr=> ?_
 have S:=W5
 have hu:=hr.units
 refine c7 ?_ ?_
 ·refine i3 (i:=2) ?_ ?_
  ·exact S.nd
  refine i8 ?_ ?_
  ·refine A1 ?_
   exact(a0 k7 (a0 k7 (a0 k7 (a0 k7 (a0 k7 (a0 k7 (a0 k7 (a0 k7 c6))))))))
  exact(j6 u0 (a4 1 (pv 1)) d6)
 refine e9 ?_
 refine n8 ?_
 refine l8 ?_
 refine a0 ?_ ?_
 ·exact(a4 2 (pv 2))
 refine a0 ?_ ?_
 ·exact(j6 u0 (j6 a4z (a4 1 (pv 1)) d6) (a4 0 (pv 0)))
 exact(a0 (j6 u0 (j6 a4z (a4 1 (pv 1)) d6) (a4 0 (pv 0))) c6)
theorem a4y(D:Df K mg "_law_cell_at" Q5)(M:Mo K mg):a0w P w K mg base:=by
 refine p7 (k:=0) D a0b (fun _ _ _ _ _ _=>el2 (fun _ _=>rfl)) fun f cdv A outer s H E hr=> ?_
 have S:=a0b
 have hu:=hr.units
 refine c7 ?_ ?_
 ·refine J4 ?_ ?_ ?_
  ·exact(v9 a6L (a4 1 (pv 1)) (L3 K1 rfl M.z_len (by rfl) (a4 0 (pv 0))) (by first|rfl|exact p0 _))
  ·exact(e9 (n8 (i8 (a4 0 (pv 0)) (a4 1 (pv 1)))))
  exact y9
 exact(e9 (n8 d6))
theorem a5b(D:Df K mg "_law_carpet" U9)(M:Mo K mg)(X7:a2F P w K mg base)(D6:a2E P w K mg base)(M9:X0 P w K mg base)(u6:a0w P w K mg base):a1f P w K mg base:=by
 refine p7 (k:=3) D a0L (fun _ _ _ _ _ _=>el2 (fun _ _=>rfl)) fun f cdv A outer s H E hr=> ?_
 have S:=a0L
 have hu:=hr.units
 refine c7 ?_ ?_
 ·refine i3 (i:=2) ?_ ?_
  ·exact S.nd
  refine j6 w8 ?_ ?_
  ·exact d6
  refine j6 u0 ?_ ?_
  ·refine j3 D6 hr ?_ ?_ ?_ ?_
   ·decide
   ·exact rfl
   ·exact(a7 (a7 g7))
   refine a0 ?_ ?_
   ·exact(j3 u6 hr (by decide) rfl (a7 (a7 g7)) (a0 (a4 0 (pv 0)) (a0 d6 c6)))
   exact(a0 d6 c6)
  exact(a4 1 (pv 1))
 refine c7 ?_ ?_
 ·exact(i3 (i:=3) S.nd (A1 c6))
 refine c7 ?_ ?_
 ·refine q0 PassesOwn.never ?_ ?_ M.z_range ?_ ?_ (j0 4) ?_
  ·exact rfl
  ·exact rfl
  ·refine a0 ?_ ?_
   ·refine i8 ?_ ?_
    ·exact(A1 (a0 d6 (a0 d6 (a0 d6 (a0 d6 (a0 d6 (a0 d6 c6)))))))
    exact(j6 u0 (j3 u6 hr (by decide) rfl (a7 (a7 g7)) (a0 (a4 0 (pv 0)) (a0 d6 c6))) d6)
   exact c6
  ·exact(i9 (i:=4) S.nd rfl (Or.inl rfl))
  refine e9 ?_
  refine y3 3 (pv 3) ?_
  refine j3 M9 hr ?_ ?_ ?_ ?_
  ·decide
  ·exact rfl
  ·exact(a7 (a7 g7))
  refine a0 ?_ ?_
  ·exact(a4 2 (pv 2))
  refine a0 ?_ ?_
  ·refine j3 D6 hr ?_ ?_ ?_ ?_
   ·decide
   ·exact rfl
   ·exact(a7 (a7 g7))
   refine a0 ?_ ?_
   ·exact(j3 u6 hr (by decide) rfl (a7 (a7 g7)) (a0 (a4 0 (pv 0)) (a0 d6 c6)))
   exact(a0 (j6 w8 d6 (a4 4 (pv 4))) c6)
  exact c6
 refine c7 ?_ ?_
 ·refine a6h 3 ?_
  refine i3 (i:=5) ?_ ?_
  ·exact S.nd
  exact(j3 X7 hr (by decide) rfl (a7 (a7 g7)) (a0 (a4 2 (pv 2)) (a0 (a4 3 (pv 3)) c6)))
 refine c7 ?_ ?_
 ·refine i3 (i:=6) ?_ ?_
  ·exact S.nd
  refine i8 ?_ ?_
  ·exact(A1 (a0 k7 (a0 k7 (a0 k7 (a0 k7 (a0 k7 c6))))))
  refine j6 u0 ?_ ?_
  ·refine j3 D6 hr ?_ ?_ ?_ ?_
   ·decide
   ·exact rfl
   ·exact(a7 (a7 g7))
   refine a0 ?_ ?_
   ·exact(j3 u6 hr (by decide) rfl (a7 (a7 g7)) (a0 (a4 0 (pv 0)) (a0 d6 c6)))
   exact(a0 d6 c6)
  exact d6
 refine c7 ?_ ?_
 ·exact(i3 (i:=7) S.nd (A1 c6))
 refine c7 ?_ ?_
 ·refine q0 PassesOwn.never ?_ ?_ M.z_range ?_ ?_ (j0 8) ?_
  ·exact rfl
  ·exact rfl
  ·exact(a0 (a4 2 (pv 2)) c6)
  ·exact(i9 (i:=8) S.nd rfl (Or.inl rfl))
  refine c7 ?_ ?_
  ·exact(i3 (i:=9) S.nd k7)
  refine c7 ?_ ?_
  ·refine q0 PassesOwn.never ?_ ?_ M.z_range ?_ ?_ (j0 10) ?_
   ·exact rfl
   ·exact rfl
   ·exact(a0 (a4 2 (pv 2)) c6)
   ·exact(i9 (i:=10) S.nd rfl (Or.inl rfl))
   refine c7 ?_ ?_
   ·exact(i3 (i:=11) S.nd (b3K 5 hu (pv 5) (a0 (a4 8 (pv 8)) (a0 (a4 10 (pv 10)) c6))))
   refine c7 ?_ ?_
   ·refine i3 (i:=12) ?_ ?_
    ·exact S.nd
    refine j3 D6 hr ?_ ?_ ?_ ?_
    ·decide
    ·exact rfl
    ·exact(a7 (a7 g7))
    refine a0 ?_ ?_
    ·refine j3 u6 hr ?_ ?_ ?_ ?_
     ·decide
     ·exact rfl
     ·exact(a7 (a7 g7))
     refine a0 ?_ ?_
     ·exact(a4 0 (pv 0))
     refine a0 ?_ ?_
     ·exact(j6 w8 (j6 w8 d6 (j6 J8 (i8 (a4 11 (pv 11)) d6) (a4 2 (pv 2)))) (i8 (a4 11 (pv 11)) d6))
     exact c6
    refine a0 ?_ ?_
    ·exact(j6 w8 (j6 w8 d6 (j6 J8 (i8 (a4 11 (pv 11)) d6) (a4 2 (pv 2)))) (i8 (a4 11 (pv 11)) d6))
    exact c6
   refine e9 ?_
   refine i3 (i:=9) ?_ ?_
   ·exact S.nd
   refine j6 w8 ?_ ?_
   ·exact(a4 9 (pv 9))
   exact(i8 (a4 6 (pv 6)) (j6 u0 (j6 a4z (a4 12 (pv 12)) d6) (L3 K1 rfl M.z_len (by rfl) (a4 6 (pv 6)))))
  exact(e9 (y3 7 (pv 7) (a4 9 (pv 9))))
 exact(e9 (n8 (b1z b1p rfl M.z_tuple (by rfl) (a4 7 (pv 7)))))
theorem a2r(D:Df K mg "all_movements" K9)(M:Mo K mg){u_WAYS:AA}{n_WAYS:Nat}(m_WAYS:mg "WAYS"=some u_WAYS)(c_WAYS:W6 K n_WAYS u_WAYS=some a6X):V6 P w K mg base:=by
 refine p7 (k:=0) D S6 (fun _ _ _ _ _ _=>el1 (fun _=>rfl)) fun f cdv A outer s H E hr=> ?_
 have S:=S6
 have hu:=hr.units
 refine c7 ?_ ?_
 ·exact(i3 (i:=1) S.nd (A1 c6))
 refine c7 ?_ ?_
 ·refine Q2 PassesOwn.never ?_ ?_ ?_ (j0 2) ?_
  ·exact rfl
  ·exact(L3 b1o rfl M.z_sorted (by rfl) (a9C rfl m_WAYS c_WAYS))
  ·exact(i9 (i:=2) S.nd rfl (Or.inl rfl))
  refine e9 ?_
  refine q0 PassesOwn.never ?_ ?_ M.z_range ?_ ?_ (j0 3) ?_
  ·exact rfl
  ·exact rfl
  ·exact(a0 (a4 0 (pv 0)) c6)
  ·exact(i9 (i:=3) S.nd rfl (Or.inl rfl))
  refine e9 ?_
  refine q0 PassesOwn.never ?_ ?_ M.z_range ?_ ?_ (j0 4) ?_
  ·exact rfl
  ·exact rfl
  ·exact(a0 (a4 0 (pv 0)) c6)
  ·exact(i9 (i:=4) S.nd rfl (Or.inl rfl))
  exact(e9 (y3 1 (pv 1) (l8 (a0 (a4 2 (pv 2)) (a0 (a4 3 (pv 3)) (a0 (a4 4 (pv 4)) c6))))))
 exact(e9 (P1 1 (pv 1)))
theorem a7Z(D:Df K mg "way_back" a08):a3y P w K mg base:=by
 refine p7 (k:=0) D a21 (fun _ _ _ _ _ _=>el1 (fun _=>rfl)) fun f cdv A outer s H E hr=> ?_
 have S:=a21
 have hu:=hr.units
 refine c7 ?_ ?_
 ·exact(J4 (v9 (a6K hu) (a4 0 (pv 0)) k7 (by first|rfl|exact p0 _)) (e9 (n8 k7)) y9)
 refine c7 ?_ ?_
 ·exact(J4 (v9 (a6K hu) (a4 0 (pv 0)) k7 (by first|rfl|exact p0 _)) (e9 (n8 k7)) y9)
 exact(e9 (P1 0 (pv 0)))
theorem a7Y(D:Df K mg "place_by" a07){a_LEADS:AB}(m_LEADS:mg "LEADS"=some (.ref a_LEADS))(t_LEADS:Tab P w K a_LEADS z7):T0 P w K mg base:=by
 refine p7 (k:=0) D a20 (fun _ _ _ _ _ _=>el2 (fun _ _=>rfl)) fun f cdv A outer s H E hr=> ?_
 have S:=a20
 have hu:=hr.units
 refine c7 ?_ ?_
 ·exact(i3 (i:=2) S.nd (b5Y t_LEADS rfl m_LEADS (a4 0 (pv 0))))
 refine e9 ?_
 refine n8 ?_
 refine l8 ?_
 refine a0 ?_ ?_
 ·refine j6 w8 ?_ ?_
  ·exact(j6 J8 (i8 (a4 2 (pv 2)) d6) (i8 (a4 1 (pv 1)) d6))
  exact(j6 J8 (i8 (a4 2 (pv 2)) d6) (i8 (a4 1 (pv 1)) d6))
 refine a0 ?_ ?_
 ·refine j6 w8 ?_ ?_
  ·exact(j6 J8 (i8 (a4 2 (pv 2)) d6) (i8 (a4 1 (pv 1)) d6))
  exact(j6 J8 (i8 (a4 2 (pv 2)) d6) (i8 (a4 1 (pv 1)) d6))
 exact c6
theorem a5d(D:Df K mg "taken_back" V1)(a0U:a3y P w K mg base)(A0:T0 P w K mg base):a1h P w K mg base:=by
 refine p7 (k:=1) D a0N (fun _ _ _ _ _ _=>el2 (fun _ _=>rfl)) fun f cdv A outer s H E hr=> ?_
 have S:=a0N
 have hu:=hr.units
 refine c7 ?_ ?_
 ·exact(i3 (i:=2) S.nd (j3 a0U hr (by decide) rfl (a7 g7) (a0 (i8 (a4 1 (pv 1)) d6) c6)))
 refine c7 ?_ ?_
 ·refine i3 (i:=3) ?_ ?_
  ·exact S.nd
  refine j3 A0 hr ?_ ?_ ?_ ?_
  ·decide
  ·exact rfl
  ·exact(a7 (a7 g7))
  refine a0 ?_ ?_
  ·exact(a4 2 (pv 2))
  exact(a0 (l8 (a0 (Q1 (i8 (a4 1 (pv 1)) d6)) (a0 (Q1 (i8 (a4 1 (pv 1)) d6)) c6))) c6)
 refine e9 ?_
 refine n8 ?_
 refine l8 ?_
 refine a0 ?_ ?_
 ·exact(a4 2 (pv 2))
 refine a0 ?_ ?_
 ·exact(j6 u0 (i8 (a4 3 (pv 3)) d6) (a4 0 (pv 0)))
 exact(a0 (j6 u0 (i8 (a4 3 (pv 3)) d6) (a4 0 (pv 0))) c6)
theorem b6v(D:Df K mg "led" b26)(A0:T0 P w K mg base):b1a P w K mg base:=by
 refine p7 (k:=1) D b28 (fun _ _ _ _ _ _=>el3 (fun _ _ _=>rfl)) fun f cdv A outer s H E hr=> ?_
 have S:=b28
 have hu:=hr.units
 refine c7 ?_ ?_
 ·refine i3 (i:=3) ?_ ?_
  ·exact S.nd
  exact(j3 A0 hr (by decide) rfl (a7 (a7 g7)) (a0 (i8 (a4 1 (pv 1)) d6) (a0 (a4 2 (pv 2)) c6)))
 refine e9 ?_
 refine n8 ?_
 refine l8 ?_
 refine a0 ?_ ?_
 ·exact(j6 u0 (j6 w8 (i8 (a4 3 (pv 3)) d6) (i8 (a4 1 (pv 1)) d6)) (a4 0 (pv 0)))
 exact(a0 (j6 u0 (j6 w8 (i8 (a4 3 (pv 3)) d6) (i8 (a4 1 (pv 1)) d6)) (a4 0 (pv 0))) c6)
theorem b4u(D:Df K mg "knot" a9i)(M:Mo K mg):b09 P w K mg base:=by
 refine p7 (k:=0) D a90 (fun _ _ _ _ _ _=>el3 (fun _ _ _=>rfl)) fun f cdv A outer s H E hr=> ?_
 have S:=a90
 have hu:=hr.units
 refine c7 ?_ ?_
 ·exact(i3 (i:=3) S.nd (L3 K1 rfl M.z_len (by rfl) (a4 0 (pv 0))))
 refine e9 ?_
 exact(n8 (i8 (i8 (a4 0 (pv 0)) (j6 u0 (a4 1 (pv 1)) (a4 3 (pv 3)))) (j6 u0 (a4 2 (pv 2)) (a4 3 (pv 3)))))
theorem a6I(D:Df K mg "unlike_at" a0a)(M:Mo K mg)(T8:a1h P w K mg base)(a7o:b1a P w K mg base)(a6d:b09 P w K mg base):X2 P w K mg base:=by
 refine p7 (k:=2) D a1V (fun _ _ _ _ _ _=>el2 (fun _ _=>rfl)) fun f cdv A outer s H E hr=> ?_
 have S:=a1V
 have hu:=hr.units
 refine c7 ?_ ?_
 ·exact(i3 (i:=2) S.nd (L3 K1 rfl M.z_len (by rfl) (a4 0 (pv 0))))
 refine c7 ?_ ?_
 ·refine i3 (i:=3) ?_ ?_
  ·exact S.nd
  exact(j3 T8 hr (by decide) rfl (a7 (a7 g7)) (a0 (a4 2 (pv 2)) (a0 (a4 1 (pv 1)) c6)))
 refine c7 ?_ ?_
 ·refine q0 PassesOwn.never ?_ ?_ M.z_range ?_ ?_ (j0 4) ?_
  ·exact rfl
  ·exact rfl
  ·exact(a0 (a4 2 (pv 2)) c6)
  ·exact(i9 (i:=4) S.nd rfl (Or.inl rfl))
  refine e9 ?_
  refine q0 PassesOwn.never ?_ ?_ M.z_range ?_ ?_ (j0 5) ?_
  ·exact rfl
  ·exact rfl
  ·exact(a0 (a4 2 (pv 2)) c6)
  ·exact(i9 (i:=5) S.nd rfl (Or.inl rfl))
  refine c7 ?_ ?_
  ·refine i3 (i:=6) ?_ ?_
   ·exact S.nd
   refine j3 a7o hr ?_ ?_ ?_ ?_
   ·decide
   ·exact rfl
   ·exact(a7 (a7 (a7 g7)))
   exact(a0 (a4 2 (pv 2)) (a0 (a4 3 (pv 3)) (a0 (l8 (a0 (a4 4 (pv 4)) (a0 (a4 5 (pv 5)) c6))) c6)))
  refine e9 ?_
  refine J4 ?_ ?_ ?_
  ·refine v9 (Z1 hu) ?_ ?_ ?_
   ·refine j3 a6d hr ?_ ?_ ?_ ?_
    ·decide
    ·exact rfl
    ·exact(a7 (a7 (a7 g7)))
    exact(a0 (a4 0 (pv 0)) (a0 (a4 4 (pv 4)) (a0 (a4 5 (pv 5)) c6)))
   ·refine j3 a6d hr ?_ ?_ ?_ ?_
    ·decide
    ·exact rfl
    ·exact(a7 (a7 (a7 g7)))
    exact(a0 (a4 0 (pv 0)) (a0 (i8 (a4 6 (pv 6)) d6) (a0 (i8 (a4 6 (pv 6)) d6) c6)))
   first|rfl|exact p0 _
  ·exact(e9 (n8 (l8 (a0 (a4 4 (pv 4)) (a0 (a4 5 (pv 5)) c6)))))
  exact y9
 exact(e9 (n8 a3V))
theorem b0L(D:Df K mg "leaves" a4M)(J1:X2 P w K mg base):a7b P w K mg base:=by
 refine p7 (k:=3) D a5U (fun _ _ _ _ _ _=>el2 (fun _ _=>rfl)) fun f cdv A outer s H E hr=> ?_
 have S:=a5U
 have hu:=hr.units
 refine e9 ?_
 refine n8 ?_
 refine b1x a9U ?_ ?_ ?_
 ·exact(j3 J1 hr (by decide) rfl (a7 (a7 g7)) (a0 (a4 0 (pv 0)) (a0 (a4 1 (pv 1)) c6)))
 ·exact a3V
 first|rfl|exact p0 _
theorem a83(D:Df K mg "leaving" a2w)(M:Mo K mg)(K2:V6 P w K mg base)(a3Q:a7b P w K mg base):a5f P w K mg base:=by
 refine p7 (k:=4) D a4P (fun _ _ _ _ _ _=>el1 (fun _=>rfl)) fun f cdv A outer s H E hr=> ?_
 have S:=a4P
 have hu:=hr.units
 refine e9 ?_
 refine n8 ?_
 refine a9z (ys:=["movement"]) (N0:=["carpet"]) (fun _ _ h=>h) ?_ ⟨by kernel_rfl,rfl,of_decide_eq_true rfl,of_decide_eq_true rfl,of_decide_eq_true rfl⟩ ?_ (fun C fp pins s H=>i9 (i:=1) a6C rfl (Or.inl rfl)) (fun n h=>a4Z (i:=1) (Nat.le_of_eq h)) ?_ ?_
 ·exact rfl
 ·exact(b1A (j3 K2 hr (by decide) rfl (a7 g7) (a0 (L3 K1 rfl M.z_len (by rfl) (a4 0 (pv 0))) c6)))
 ·intro C fp pins s H
  exact(b5X (b50 (j3 a3Q hr (by decide) rfl (a7 (a7 g7)) (a0 (a4 0 (pv 0)) (a0 (a4 1 (pv 1)) c6)))))
 intro C fp pins s H
 exact(a4 1 (pv 1))
theorem a70(D:Df K mg "way_then" a09){u_TELLING:AA}{n_TELLING:Nat}(m_TELLING:mg "TELLING"=some u_TELLING)(c_TELLING:W6 K n_TELLING u_TELLING=some a0q){a_TOLD:AB}(m_TOLD:mg "TOLD"=some (.ref a_TOLD))(t_TOLD:b3w P w K a_TOLD a1c)(A0:T0 P w K mg base):a3z P w K mg base:=by
 refine p7 (k:=1) D a22 (fun _ _ _ _ _ _=>el2 (fun _ _=>rfl)) fun f cdv A outer s H E hr=> ?_
 have S:=a22
 have hu:=hr.units
 refine e9 ?_
 refine n8 ?_
 refine b3N (b7z hr) t_TOLD ?_ m_TOLD ?_
 ·exact rfl
 refine j3 A0 hr ?_ ?_ ?_ ?_
 ·decide
 ·exact rfl
 ·exact(a7 (a7 g7))
 refine a0 ?_ ?_
 ·exact(a4 1 (pv 1))
 refine a0 ?_ ?_
 ·exact(j3 A0 hr (by decide) rfl (a7 (a7 g7)) (a0 (a4 0 (pv 0)) (a0 (a9C rfl m_TELLING c_TELLING) c6)))
 exact c6
theorem b4v(D:Df K mg "then" a9j)(a7o:b1a P w K mg base)(a0V:a3z P w K mg base):a8x P w K mg base:=by
 refine p7 (k:=2) D a91 (fun _ _ _ _ _ _=>el3 (fun _ _ _=>rfl)) fun f cdv A outer s H E hr=> ?_
 have S:=a91
 have hu:=hr.units
 refine c7 ?_ ?_
 ·refine i3 (i:=3) ?_ ?_
  ·exact S.nd
  refine j3 a7o hr ?_ ?_ ?_ ?_
  ·decide
  ·exact rfl
  ·exact(a7 (a7 (a7 g7)))
  refine a0 ?_ ?_
  ·exact(a4 0 (pv 0))
  exact(a0 (a4 2 (pv 2)) (a0 (l8 (a0 (i8 (a4 1 (pv 1)) d6) (a0 (i8 (a4 1 (pv 1)) d6) c6))) c6))
 refine e9 ?_
 refine n8 ?_
 refine l8 ?_
 refine a0 ?_ ?_
 ·refine j3 a0V hr ?_ ?_ ?_ ?_
  ·decide
  ·exact rfl
  ·exact(a7 (a7 g7))
  exact(a0 (i8 (a4 1 (pv 1)) d6) (a0 (i8 (a4 2 (pv 2)) d6) c6))
 exact(a0 (i8 (a4 3 (pv 3)) d6) (a0 (i8 (a4 3 (pv 3)) d6) c6))
theorem a85(D:Df K mg "made_of" a2x)(M:Mo K mg)(a3R:a8x P w K mg base):a5g P w K mg base:=by
 refine p7 (k:=3) D a4Q (fun _ _ _ _ _ _=>el2 (fun _ _=>rfl)) fun f cdv A outer s H E hr=> ?_
 have S:=a4Q
 have hu:=hr.units
 refine c7 ?_ ?_
 ·exact(i3 (i:=2) S.nd (a3U hu M.nk (l8 (a0 k7 (a0 d6 (a0 d6 c6)))) V8))
 refine c7 ?_ ?_
 ·exact(i3 (i:=3) S.nd (A1 (a0 (l8 (a0 k7 (a0 d6 (a0 d6 c6)))) c6)))
 refine c7 ?_ ?_
 ·exact(i3 (i:=4) S.nd d6)
 refine c7 ?_ ?_
 ·refine a1v 1000 PassesOwn.never ?_ ?_
  ·exact(v9 a6L (a4 4 (pv 4)) (L3 K1 rfl M.z_len (by rfl) (a4 3 (pv 3))) (by first|rfl|exact p0 _))
  refine c7 ?_ ?_
  ·refine Q2 PassesOwn.never ?_ ?_ ?_ (j0 5) ?_
   ·exact rfl
   ·exact(a4 1 (pv 1))
   ·exact(i9 (i:=5) S.nd rfl (Or.inl rfl))
   refine c7 ?_ ?_
   ·refine i3 (i:=6) ?_ ?_
    ·exact S.nd
    refine j3 a3R hr ?_ ?_ ?_ ?_
    ·decide
    ·exact rfl
    ·exact(a7 (a7 (a7 g7)))
    exact(a0 (a4 0 (pv 0)) (a0 (i8 (a4 3 (pv 3)) (a4 4 (pv 4))) (a0 (a4 5 (pv 5)) c6)))
   refine e9 ?_
   refine J4 ?_ ?_ ?_
   ·exact(T9 2 hu M.nk (pv 2) (a4 6 (pv 6)) (by first|rfl|exact p0 _))
   ·exact(c7 (a19 2 hu M.nk (pv 2) (a4 6 (pv 6)) V8) (e9 (y3 3 (pv 3) (a4 6 (pv 6)))))
   exact y9
  exact(e9 (b1G (i:=4) S.nd d6 a71))
 exact(e9 (P1 2 (pv 2)))
theorem b0M(D:Df K mg "needed" a4N)(M:Mo K mg)(a0e:a5g P w K mg base):a3x P w K mg base:=by
 refine p7 (k:=4) D a5V (fun _ _ _ _ _ _=>el2 (fun _ _=>rfl)) fun f cdv A outer s H E hr=> ?_
 have S:=a5V
 have hu:=hr.units
 refine c7 ?_ ?_
 ·exact(i3 (i:=2) S.nd (A1 c6))
 refine c7 ?_ ?_
 ·exact(i3 (i:=3) S.nd (A1 c6))
 refine c7 ?_ ?_
 ·exact(i3 (i:=4) S.nd (a9B 3 a0e hr (by decide) rfl (a4 0 (pv 0)) (pv 3)))
 refine c7 ?_ ?_
 ·refine b3U PassesOwn.never ?_ ?_ M.z_enumerate ?_ ?_ (b3j [5,6]) ?_
  ·exact rfl
  ·exact rfl
  ·exact(a0 (a4 1 (pv 1)) c6)
  ·exact(b2N rfl (C3 (i9 (i:=5) S.nd rfl (Or.inl rfl)) (C3 (i9 (i:=6) S.nd rfl (Or.inl rfl)) a1M)))
  refine e9 ?_
  refine J4 ?_ ?_ ?_
  ·exact(T9 4 hu M.nk (pv 4) (a4 6 (pv 6)) (by first|rfl|exact p0 _))
  ·refine c7 ?_ ?_
   ·exact(y3 2 (pv 2) (a4 5 (pv 5)))
   exact(c7 (y3 3 (pv 3) (a4 6 (pv 6))) (e9 (i3 (i:=4) S.nd (a9B 3 a0e hr (by decide) rfl (a4 0 (pv 0)) (pv 3)))))
  exact y9
 exact(e9 (P1 2 (pv 2)))
theorem b0K(D:Df K mg "few_of" a4L)(M:Mo K mg)(X8:a3x P w K mg base):a7a P w K mg base:=by
 refine p7 (k:=5) D a5T (fun _ _ _ _ _ _=>el2 (fun _ _=>rfl)) fun f cdv A outer s H E hr=> ?_
 have S:=a5T
 have hu:=hr.units
 refine c7 ?_ ?_
 ·exact(i3 (i:=2) S.nd (L3 b1n rfl M.z_sorted (by rfl) (a4 1 (pv 1))) rfl (Or.inr rfl))
 refine e9 ?_
 refine a6h 2 ?_
 refine n8 ?_
 refine a9z (ys:=["place"]) (N0:=["n","movements","listed"]) (fun _ _ h=>h) ?_ ⟨by kernel_rfl,rfl,of_decide_eq_true rfl,of_decide_eq_true rfl,of_decide_eq_true rfl⟩ ?_ (fun C fp pins s H=>i9 (i:=3) a7S rfl (Or.inl rfl)) (fun n h=>a4Z (i:=3) (Nat.le_of_eq h)) (fun C fp pins s H=>b5W) ?_
 ·exact rfl
 ·exact(b1A (j3 X8 hr (by decide) rfl (a7 (a7 g7)) (a0 (a4 0 (pv 0)) (a0 (a4 2 (pv 2)) c6))))
 intro C fp pins s H
 exact(i8 (a4 2 (pv 2)) (a4 3 (pv 3)))
theorem a86(D:Df K mg "rows_to" a2y)(M:Mo K mg)(X8:a3x P w K mg base)(a3R:a8x P w K mg base):a5h P w K mg base:=by
 refine p7 (k:=5) D a4R (fun _ _ _ _ _ _=>el2 (fun _ _=>rfl)) fun f cdv A outer s H E hr=> ?_
 have S:=a4R
 have hu:=hr.units
 refine c7 ?_ ?_
 ·refine i3 (i:=2) ?_ ?_
  ·exact S.nd
  exact(j3 X8 hr (by decide) rfl (a7 (a7 g7)) (a0 (a4 0 (pv 0)) (a0 (a4 1 (pv 1)) c6)))
 refine c7 ?_ ?_
 ·exact(i3 (i:=3) S.nd (a3U hu M.nk (l8 (a0 k7 (a0 d6 (a0 d6 c6)))) (A1 c6)))
 refine c7 ?_ ?_
 ·exact(i3 (i:=4) S.nd (A1 (a0 (l8 (a0 k7 (a0 d6 (a0 d6 c6)))) c6)))
 refine c7 ?_ ?_
 ·exact(i3 (i:=5) S.nd d6)
 refine c7 ?_ ?_
 ·refine a1v 1000 PassesOwn.never ?_ ?_
  ·exact(v9 a6L (a4 5 (pv 5)) (L3 K1 rfl M.z_len (by rfl) (a4 4 (pv 4))) (by first|rfl|exact p0 _))
  refine c7 ?_ ?_
  ·refine a6h 2 ?_
   refine Q2 PassesOwn.never ?_ ?_ ?_ (j0 6) ?_
   ·exact rfl
   ·exact(a4 2 (pv 2))
   ·exact(i9 (i:=6) S.nd rfl (Or.inl rfl))
   refine c7 ?_ ?_
   ·refine i3 (i:=7) ?_ ?_
    ·exact S.nd
    refine j3 a3R hr ?_ ?_ ?_ ?_
    ·decide
    ·exact rfl
    ·exact(a7 (a7 (a7 g7)))
    exact(a0 (a4 0 (pv 0)) (a0 (i8 (a4 4 (pv 4)) (a4 5 (pv 5))) (a0 (i8 (a4 1 (pv 1)) (a4 6 (pv 6))) c6)))
   refine e9 ?_
   refine J4 ?_ ?_ ?_
   ·exact(T9 3 hu M.nk (pv 3) (a4 7 (pv 7)) (by first|rfl|exact p0 _))
   ·refine c7 ?_ ?_
    ·refine a19 3 ?_ M.nk (pv 3) ?_ ?_
     ·exact hu
     ·exact(a4 7 (pv 7))
     exact(j6 (b2A M.nl) (a5r 3 hu M.nk (pv 3) (i8 (a4 4 (pv 4)) (a4 5 (pv 5)))) (A1 (a0 (a4 6 (pv 6)) c6)))
    exact(e9 (y3 4 (pv 4) (a4 7 (pv 7))))
   exact y9
  exact(e9 (b1G (i:=5) S.nd d6 a71))
 exact(e9 (P1 3 (pv 3)))
theorem a82(D:Df K mg "_law_all" a2v)(M:Mo K mg):a5e P w K mg base:=by
 refine p7 (k:=0) D a4O (fun _ _ _ _ _ _=>el1 (fun _=>rfl)) fun f cdv A outer s H E hr=> ?_
 have S:=a4O
 have hu:=hr.units
 refine c7 ?_ ?_
 ·exact(i3 (i:=1) S.nd (A1 c6))
 refine c7 ?_ ?_
 ·refine Q2 PassesOwn.never ?_ ?_ ?_ (j0 2) ?_
  ·exact rfl
  ·refine l8 ?_
   exact(a0 k7 (a0 k7 (a0 k7 (a0 k7 (a0 k7 (a0 k7 (a0 k7 (a0 k7 c6))))))))
  ·exact(i9 (i:=2) S.nd rfl (Or.inl rfl))
  refine e9 ?_
  refine q0 PassesOwn.never ?_ ?_ M.z_range ?_ ?_ (j0 3) ?_
  ·exact rfl
  ·exact rfl
  ·exact(a0 (a4 0 (pv 0)) c6)
  ·exact(i9 (i:=3) S.nd rfl (Or.inl rfl))
  refine e9 ?_
  refine q0 PassesOwn.never ?_ ?_ M.z_range ?_ ?_ (j0 4) ?_
  ·exact rfl
  ·exact rfl
  ·exact(a0 (a4 0 (pv 0)) c6)
  ·exact(i9 (i:=4) S.nd rfl (Or.inl rfl))
  exact(e9 (y3 1 (pv 1) (l8 (a0 (a4 2 (pv 2)) (a0 (a4 3 (pv 3)) (a0 (a4 4 (pv 4)) c6))))))
 exact(e9 (P1 1 (pv 1)))
theorem a7X(D:Df K mg "_law_left" a06)(M:Mo K mg)(t5:I0 P w K mg base):a3w P w K mg base:=by
 refine p7 (k:=2) D a2Z (fun _ _ _ _ _ _=>el2 (fun _ _=>rfl)) fun f cdv A outer s H E hr=> ?_
 have S:=a2Z
 have hu:=hr.units
 refine c7 ?_ ?_
 ·exact(i3 (i:=2) S.nd (L3 K1 rfl M.z_len (by rfl) (a4 0 (pv 0))))
 refine c7 ?_ ?_
 ·refine q0 PassesOwn.never ?_ ?_ M.z_range ?_ ?_ (j0 3) ?_
  ·exact rfl
  ·exact rfl
  ·exact(a0 (a4 2 (pv 2)) c6)
  ·exact(i9 (i:=3) S.nd rfl (Or.inl rfl))
  refine e9 ?_
  refine q0 PassesOwn.never ?_ ?_ M.z_range ?_ ?_ (j0 4) ?_
  ·exact rfl
  ·exact rfl
  ·exact(a0 (a4 2 (pv 2)) c6)
  ·exact(i9 (i:=4) S.nd rfl (Or.inl rfl))
  refine c7 ?_ ?_
  ·refine a6i (is:=[5,6]) ?_ ?_ ?_
   ·exact rfl
   ·refine j3 t5.ok hr ?_ ?_ ?_ ?_
    ·decide
    ·exact rfl
    ·exact(a7 (a7 (a7 g7)))
    exact(a0 (a4 2 (pv 2)) (a0 (a4 1 (pv 1)) (a0 (l8 (a0 (a4 3 (pv 3)) (a0 (a4 4 (pv 4)) c6))) c6)))
   exact(C3 (i9 (i:=5) S.nd rfl (Or.inl rfl)) (C3 (i9 (i:=6) S.nd rfl (Or.inl rfl)) a1M))
  refine e9 ?_
  refine J4 ?_ ?_ ?_
  ·refine v9 (Z1 hu) ?_ ?_ ?_
   ·exact(i8 (i8 (a4 0 (pv 0)) (a4 5 (pv 5))) (a4 6 (pv 6)))
   ·exact(i8 (i8 (a4 0 (pv 0)) (a4 3 (pv 3))) (a4 4 (pv 4)))
   first|rfl|exact p0 _
  ·exact(e9 (n8 V8))
  exact y9
 exact(e9 (n8 V8))
theorem a5a(D:Df K mg "_law_behind" U8)(z9:X1 P w K mg base)(t5:I0 P w K mg base):S9 P w K mg base:=by
 refine p7 (k:=2) D a0K (fun _ _ _ _ _ _=>el3 (fun _ _ _=>rfl)) fun f cdv A outer s H E hr=> ?_
 have S:=a0K
 have hu:=hr.units
 refine c7 ?_ ?_
 ·refine i3 (i:=3) ?_ ?_
  ·exact S.nd
  refine j3 z9 hr ?_ ?_ ?_ ?_
  ·decide
  ·exact rfl
  ·exact(a7 (a7 (a7 g7)))
  exact(a0 (i8 (a4 1 (pv 1)) d6) (a0 d6 (a0 d6 c6)))
 refine c7 ?_ ?_
 ·refine i3 (i:=3) ?_ ?_
  ·exact S.nd
  refine j3 z9 hr ?_ ?_ ?_ ?_
  ·decide
  ·exact rfl
  ·exact(a7 (a7 (a7 g7)))
  exact(a0 (i8 (a4 2 (pv 2)) d6) (a0 (i8 (a4 3 (pv 3)) d6) (a0 (i8 (a4 3 (pv 3)) d6) c6)))
 refine c7 ?_ ?_
 ·refine Q2 PassesOwn.never ?_ ?_ ?_ (j0 4) ?_
  ·exact rfl
  ·refine l8 ?_
   exact(a0 k7 (a0 k7 (a0 k7 (a0 k7 (a0 k7 (a0 k7 (a0 k7 (a0 k7 c6))))))))
  ·exact(i9 (i:=4) S.nd rfl (Or.inl rfl))
  refine e9 ?_
  refine J4 ?_ ?_ ?_
  ·refine v9 (a6K hu) ?_ ?_ ?_
   ·exact(j3 z9 hr (by decide) rfl (a7 (a7 (a7 g7))) (a0 (a4 4 (pv 4)) (a0 d6 (a0 d6 c6))))
   ·exact(a4 3 (pv 3))
   first|rfl|exact p0 _
  ·refine c7 ?_ ?_
   ·refine a6i (is:=[5,6]) ?_ ?_ ?_
    ·exact rfl
    ·refine j3 t5.ok hr ?_ ?_ ?_ ?_
     ·decide
     ·exact rfl
     ·exact(a7 (a7 (a7 g7)))
     refine a0 ?_ ?_
     ·exact(a4 0 (pv 0))
     exact(a0 (a4 2 (pv 2)) (a0 (l8 (a0 (i8 (a4 1 (pv 1)) d6) (a0 (i8 (a4 1 (pv 1)) d6) c6))) c6))
    exact(C3 (i9 (i:=5) S.nd rfl (Or.inl rfl)) (C3 (i9 (i:=6) S.nd rfl (Or.inl rfl)) a1M))
   exact(e9 (n8 (l8 (a0 (a4 4 (pv 4)) (a0 (a4 5 (pv 5)) (a0 (a4 6 (pv 6)) c6))))))
  exact y9
 exact(e9 (n8 a3V))
theorem a7W(D:Df K mg "_law_come" a05)(M:Mo K mg)(E6:S9 P w K mg base):a3v P w K mg base:=by
 refine p7 (k:=3) D a2Y (fun _ _ _ _ _ _=>el2 (fun _ _=>rfl)) fun f cdv A outer s H E hr=> ?_
 have S:=a2Y
 have hu:=hr.units
 refine c7 ?_ ?_
 ·exact(i3 (i:=2) S.nd (a3U hu M.nk (l8 (a0 k7 (a0 d6 (a0 d6 c6)))) V8))
 refine c7 ?_ ?_
 ·exact(i3 (i:=3) S.nd (A1 (a0 (l8 (a0 k7 (a0 d6 (a0 d6 c6)))) c6)))
 refine c7 ?_ ?_
 ·refine a1v 2000 PassesOwn.never ?_ ?_
  ·exact(v9 (Z1 hu) (a4 3 (pv 3)) (A1 c6) (by first|rfl|exact p0 _))
  refine c7 ?_ ?_
  ·exact(b1I 4 3 S.nd (pv 3))
  refine e9 ?_
  refine Q2 PassesOwn.never ?_ ?_ ?_ (j0 5) ?_
  ·exact rfl
  ·exact(a4 1 (pv 1))
  ·exact(i9 (i:=5) S.nd rfl (Or.inl rfl))
  refine c7 ?_ ?_
  ·refine i3 (i:=6) ?_ ?_
   ·exact S.nd
   refine j3 E6 hr ?_ ?_ ?_ ?_
   ·decide
   ·exact rfl
   ·exact(a7 (a7 (a7 g7)))
   exact(a0 (a4 0 (pv 0)) (a0 (a4 4 (pv 4)) (a0 (a4 5 (pv 5)) c6)))
  refine e9 ?_
  refine J4 ?_ ?_ ?_
  ·exact(T9 2 hu M.nk (pv 2) (a4 6 (pv 6)) (by first|rfl|exact p0 _))
  ·exact(c7 (a19 2 hu M.nk (pv 2) (a4 6 (pv 6)) V8) (e9 (y3 3 (pv 3) (a4 6 (pv 6)))))
  exact y9
 exact(e9 (n8 (L3 (a7m rfl) rfl M.z_sorted (by rfl) (a4 2 (pv 2)))))
theorem a5c(D:Df K mg "_law_led_to" V0)(M:Mo K mg)(t5:I0 P w K mg base):a1g P w K mg base:=by
 refine p7 (k:=2) D a0M (fun _ _ _ _ _ _=>el2 (fun _ _=>rfl)) fun f cdv A outer s H E hr=> ?_
 have S:=a0M
 have hu:=hr.units
 refine c7 ?_ ?_
 ·exact(i3 (i:=2) S.nd (L3 K1 rfl M.z_len (by rfl) (a4 0 (pv 0))))
 refine c7 ?_ ?_
 ·exact(i3 (i:=3) S.nd a9A)
 refine c7 ?_ ?_
 ·refine q0 PassesOwn.never ?_ ?_ M.z_range ?_ ?_ (j0 4) ?_
  ·exact rfl
  ·exact rfl
  ·exact(a0 (a4 2 (pv 2)) c6)
  ·exact(i9 (i:=4) S.nd rfl (Or.inl rfl))
  refine e9 ?_
  refine q0 PassesOwn.never ?_ ?_ M.z_range ?_ ?_ (j0 5) ?_
  ·exact rfl
  ·exact rfl
  ·exact(a0 (a4 2 (pv 2)) c6)
  ·exact(i9 (i:=5) S.nd rfl (Or.inl rfl))
  refine e9 ?_
  refine b1H 3 ?_ (pv 3) ?_ ?_
  ·exact hu
  ·refine b1B t5 hr ?_ ?_ ?_ ?_
   ·decide
   ·exact rfl
   ·exact(a7 (a7 (a7 g7)))
   exact(a0 (a4 2 (pv 2)) (a0 (a4 1 (pv 1)) (a0 (l8 (a0 (a4 4 (pv 4)) (a0 (a4 5 (pv 5)) c6))) c6)))
  exact(i8 (i8 (a4 0 (pv 0)) (a4 4 (pv 4))) (a4 5 (pv 5)))
 exact(e9 (P1 3 (pv 3)))
theorem b6u{f:AB}{fd:FuncData}(F:Fun K "law" "law" b25 f fd)(M:Mo K mg)(T6:a1f P w K mg base)(a16:a5f P w K mg base)(a3P:a7a P w K mg base)(a17:a5h P w K mg base)(a15:a5e P w K mg base)(a0T:a3w P w K mg base)(J1:X2 P w K mg base)(E6:S9 P w K mg base)(a0S:a3v P w K mg base)(T7:a1g P w K mg base):O6 P w K mg base CX0 7 f fd ["_law_script"] (spP K 1 b11):=by
 refine b5s (k:=6) F b27 fun cdv A outer s H E hr=> ?_
 have S:=b27
 have hu:=hr.units
 refine c7 ?_ ?_
 ·exact(i3 (i:=1) S.nd (j3 T6 hr (by decide) rfl (a7 (a7 g7)) (a0 (a4 0 (pv 0)) (a0 d6 c6))))
 refine c7 ?_ ?_
 ·exact(i3 (i:=2) S.nd (L3 K1 rfl M.z_len (by rfl) (a4 1 (pv 1))))
 refine c7 ?_ ?_
 ·exact(i3 (i:=3) S.nd (j3 a16 hr (by decide) rfl (a7 g7) (a0 (a4 1 (pv 1)) c6)))
 refine c7 ?_ ?_
 ·refine i3 (i:=4) ?_ ?_
  ·exact S.nd
  refine j3 a3P hr ?_ ?_ ?_ ?_
  ·decide
  ·exact rfl
  ·exact(a7 (a7 g7))
  exact(a0 (a4 2 (pv 2)) (a0 (b1z (a7l rfl) rfl M.z_list (by rfl) (a4 3 (pv 3))) c6))
 refine c7 ?_ ?_
 ·refine i3 (i:=5) ?_ ?_
  ·exact S.nd
  refine j3 a17 hr ?_ ?_ ?_ ?_
  ·decide
  ·exact rfl
  ·exact(a7 (a7 g7))
  exact(a0 (a4 2 (pv 2)) (a0 (b1z (a7l rfl) rfl M.z_list (by rfl) (a4 4 (pv 4))) c6))
 refine c7 ?_ ?_
 ·refine J4 (PW.pt (b1J (v9 b6C (L3 K1 rfl M.z_len (by rfl) (a4 4 (pv 4))) d6 (by first|rfl|exact p0 _)) (a8J (v9 (Z1 hu) (L3 (a7m rfl) rfl M.z_sorted (by rfl) (a4 5 (pv 5))) (a4 3 (pv 3)) (by first|rfl|exact p0 _))))) ?_ ?_
  ·exact(e9 (n8 V8))
  exact y9
 refine c7 ?_ ?_
 ·refine a6h 3 ?_
  refine Q2 PassesOwn.never ?_ ?_ ?_ (j0 6) ?_
  ·exact rfl
  ·exact(a4 3 (pv 3))
  ·exact(i9 (i:=6) S.nd rfl (Or.inl rfl))
  refine c7 ?_ ?_
  ·exact(i3 (i:=7) S.nd (l8 (a0 k7 (a0 d6 (a0 d6 c6)))))
  refine c7 ?_ ?_
  ·refine Q2 PassesOwn.never ?_ ?_ ?_ (j0 8) ?_
   ·exact rfl
   ·exact(a5r 5 hu M.nk (pv 5) (a4 6 (pv 6)))
   ·exact(i9 (i:=8) S.nd rfl (Or.inl rfl))
   refine e9 ?_
   refine i3 (i:=7) ?_ ?_
   ·exact S.nd
   refine j3 E6 hr ?_ ?_ ?_ ?_
   ·decide
   ·exact rfl
   ·exact(a7 (a7 (a7 g7)))
   exact(a0 (a4 2 (pv 2)) (a0 (a4 7 (pv 7)) (a0 (i8 (a4 4 (pv 4)) (a4 8 (pv 8))) c6)))
  exact(e9 (J4 (v9 (Z1 hu) (a4 7 (pv 7)) (a4 6 (pv 6)) (by first|rfl|exact p0 _)) (e9 (n8 V8)) y9))
 refine c7 ?_ ?_
 ·refine q0 PassesOwn.never ?_ ?_ M.z_range ?_ ?_ (j0 9) ?_
  ·exact rfl
  ·exact rfl
  ·exact(a0 (L3 K1 rfl M.z_len (by rfl) (a4 4 (pv 4))) c6)
  ·exact(i9 (i:=9) S.nd rfl (Or.inl rfl))
  refine e9 ?_
  refine J4 (PW.pt (b1J (v9 (a89 hu) (i8 (a4 4 (pv 4)) (a4 9 (pv 9))) (a4 3 (pv 3)) (by first|rfl|exact p0 _)) (a8J (v9 (b4A hu) (i8 (a4 4 (pv 4)) (a4 9 (pv 9))) (j3 a0S hr (by decide) rfl (a7 (a7 g7)) (a0 (a4 2 (pv 2)) (a0 (b1y (a4 4 (pv 4)) b3P (b3Q (a4 9 (pv 9)))) c6))) (by first|rfl|exact p0 _))))) ?_ ?_
  ·exact(e9 (n8 V8))
  exact y9
 refine c7 ?_ ?_
 ·refine Q2 PassesOwn.never ?_ ?_ ?_ (j0 6) ?_
  ·exact rfl
  ·exact(j3 a15 hr (by decide) rfl (a7 g7) (a0 (a4 2 (pv 2)) c6))
  ·exact(i9 (i:=6) S.nd rfl (Or.inl rfl))
  refine c7 ?_ ?_
  ·refine i3 (i:=10) ?_ ?_
   ·exact S.nd
   exact(j3 a0T hr (by decide) rfl (a7 (a7 g7)) (a0 (a4 1 (pv 1)) (a0 (a4 6 (pv 6)) c6)))
  refine c7 ?_ ?_
  ·refine i3 (i:=8) ?_ ?_
   ·exact S.nd
   exact(j3 J1 hr (by decide) rfl (a7 (a7 g7)) (a0 (a4 1 (pv 1)) (a0 (a4 6 (pv 6)) c6)))
  refine c7 ?_ ?_
  ·refine J4 (PW.pt (b1J (v9 (Z1 hu) (a4 10 (pv 10)) (b3L 5 hu M.nk (pv 5) (a4 6 (pv 6)) (by first|rfl|exact p0 _)) (by first|rfl|exact p0 _)) (a8J (v9 (Z1 hu) (a4 10 (pv 10)) (b1x a9U (a4 8 (pv 8)) a3V (by first|rfl|exact p0 _)) (by first|rfl|exact p0 _))))) ?_ ?_
   ·exact(e9 (n8 V8))
   exact y9
  refine e9 ?_
  refine J4 ?_ ?_ ?_
  ·exact(v9 b2D (a4 8 (pv 8)) a3V (by first|rfl|exact p0 _))
  ·refine c7 ?_ ?_
   ·refine a6i (is:=[11,12]) ?_ ?_ ?_
    ·exact rfl
    ·exact(a4 8 (pv 8))
    exact(C3 (i9 (i:=11) S.nd rfl (Or.inl rfl)) (C3 (i9 (i:=12) S.nd rfl (Or.inl rfl)) a1M))
   refine e9 ?_
   refine J4 ?_ ?_ ?_
   ·refine v9 (a6K hu) ?_ ?_ ?_
    ·refine b3M ?_ ?_ ?_
     ·exact hu
     ·exact(j3 T7 hr (by decide) rfl (a7 (a7 g7)) (a0 (a4 1 (pv 1)) (a0 (a4 6 (pv 6)) c6)))
     exact(a0 (a4 11 (pv 11)) (a0 (a4 12 (pv 12)) c6))
    ·exact(i8 (i8 (a4 1 (pv 1)) (a4 11 (pv 11))) (a4 12 (pv 12)))
    first|rfl|exact p0 _
   ·exact(e9 (n8 V8))
   exact y9
  exact y9
 exact(e9 (n8 V8))
end
theorem b5T{l:PySem.W.OpenLaw}{w:AJ}{K:AD}{h:Heap}{mg:Str->Option AA}{fa:AB}(X:K.In h)(G:h.Ns mainGlobals mg)(hfa:mg "law"=some (.ref fa))
 {uu_WAYS:AA}
 {aa_LEADS:AB}
 {uu_TELLING:AA}
 {aa_TOLD:AB}
 (z9:Df0 K "_law_plain" Z8)
 (t5:Df0 K "_law_place" Z7)
 (X7:Df0 K "_law_roots" Z9)
 (D6:Df0 K "_law_mixed" Z6)
 (M9:Df0 K "_law_movement" O1)
 (u6:Df0 K "_law_cell_at" Q5)
 (T6:Df0 K "_law_carpet" U9)
 (K2:Df0 K "all_movements" K9)
 (a0U:Df0 K "way_back" a08)
 (A0:Df0 K "place_by" a07)
 (T8:Df0 K "taken_back" V1)
 (a7o:Df0 K "led" b26)
 (a6d:Df0 K "knot" a9i)
 (J1:Df0 K "unlike_at" a0a)
 (a3Q:Df0 K "leaves" a4M)
 (a16:Df0 K "leaving" a2w)
 (a0V:Df0 K "way_then" a09)
 (a3R:Df0 K "then" a9j)
 (a0e:Df0 K "made_of" a2x)
 (X8:Df0 K "needed" a4N)
 (a3P:Df0 K "few_of" a4L)
 (a17:Df0 K "rows_to" a2y)
 (a15:Df0 K "_law_all" a2v)
 (a0T:Df0 K "_law_left" a06)
 (E6:Df0 K "_law_behind" U8)
 (a0S:Df0 K "_law_come" a05)
 (T7:Df0 K "_law_led_to" V0)
 (b7r:Df0 K "law" b25)
 (nk:a0J K=true)
 (nl:b4r K=true)
 (z_enumerate:PySem.W.nsIn K mainGlobals "enumerate"=some none)
 (z_len:PySem.W.nsIn K mainGlobals "len"=some none)
 (z_list:PySem.W.nsIn K mainGlobals "list"=some none)
 (z_range:PySem.W.nsIn K mainGlobals "range"=some none)
 (z_sorted:PySem.W.nsIn K mainGlobals "sorted"=some none)
 (z_tuple:PySem.W.nsIn K mainGlobals "tuple"=some none)
 (e_WAYS:PySem.W.nsIn K mainGlobals "WAYS"=some (some uu_WAYS)) (q_WAYS:W6 K 40 uu_WAYS=some a6X)
 (e_LEADS:PySem.W.nsIn K mainGlobals "LEADS"=some (some (.ref aa_LEADS)))
 (t_LEADS:b63 K 9 aa_LEADS=some z7) (h_LEADS:a0k K aa_LEADS=z7.map (fun kv=>b0w w kv.1))
 (e_TELLING:PySem.W.nsIn K mainGlobals "TELLING"=some (some uu_TELLING)) (q_TELLING:W6 K 40 uu_TELLING=some a0q)
 (e_TOLD:PySem.W.nsIn K mainGlobals "TOLD"=some (some (.ref aa_TOLD)))
 (t_TOLD:b3g K 9 aa_TOLD=some a1c) (h_TOLD:a0k K aa_TOLD=a1c.map (fun kv=>(tupleKind (k4 l.prog w)).hash kv.1))
 :∃fd:FuncData,(∀(s:AC) (v:AA),BindsTo s fd ⟨[v],[]⟩ [("_law_script",v)])/\∀base:Heap,K.In base->base.Ns mainGlobals mg->O6 l.prog w K mg base CX0 7 fa fd ["_law_script"] (a8d K):=by
 have M:Mo K mg:=⟨PySem.W.mg_none_of X G z_enumerate,PySem.W.mg_none_of X G z_len,PySem.W.mg_none_of X G z_list,PySem.W.mg_none_of X G z_range,PySem.W.mg_none_of X G z_sorted,PySem.W.mg_none_of X G z_tuple,nk,nl⟩
 have mm_WAYS:=PySem.W.mg_of X G e_WAYS
 have mm_LEADS:=PySem.W.mg_of X G e_LEADS
 have tt_LEADS:Tab l.prog w K aa_LEADS z7:=b65 9 t_LEADS h_LEADS (by decide+kernel)
 have mm_TELLING:=PySem.W.mg_of X G e_TELLING
 have mm_TOLD:=PySem.W.mg_of X G e_TOLD
 have tt_TOLD:b3w l.prog w K aa_TOLD a1c:=b5a 9 t_TOLD h_TOLD (by decide+kernel)
 refine b4a (b7r.to X G) hfa (fun _ _ _ _ _ _ _=>rfl) main fun base f fd kb F=> ?_
 have a2C:=a6F l.prog w base (z9.to X G)
 have O8:=a6E l.prog w base (t5.to X G) a2C
 have a64:=a6G l.prog w base (X7.to X G) M O8
 have a63:=a6D l.prog w base (D6.to X G)
 have a3t:=a3b l.prog w base (M9.to X G)
 have a45:=a4y l.prog w base (u6.to X G) M
 have a54:=a5b l.prog w base (T6.to X G) M a64 a63 a3t a45
 have a26:=a2r l.prog w base (K2.to X G) M mm_WAYS q_WAYS
 have a8s:=a7Z l.prog w base (a0U.to X G)
 have a0Q:=a7Y l.prog w base (A0.to X G) mm_LEADS tt_LEADS
 have a56:=a5d l.prog w base (T8.to X G) a8s a0Q
 have b5k:=b6v l.prog w base (a7o.to X G) a0Q
 have b5L:=b4u l.prog w base (a6d.to X G) M
 have a2D:=a6I l.prog w base (J1.to X G) M a56 b5k b5L
 have b03:=b0L l.prog w base (a3Q.to X G) a2D
 have b0a:=a83 l.prog w base (a16.to X G) M a26 b03
 have a8t:=a70 l.prog w base (a0V.to X G) mm_TELLING q_TELLING mm_TOLD tt_TOLD a0Q
 have b04:=b4v l.prog w base (a3R.to X G) b5k a8t
 have b0b:=a85 l.prog w base (a0e.to X G) M b04
 have a65:=b0M l.prog w base (X8.to X G) M b0b
 have b02:=b0K l.prog w base (a3P.to X G) M a65
 have b0c:=a86 l.prog w base (a17.to X G) M a65 b04
 have a99:=a82 l.prog w base (a15.to X G) M
 have a8r:=a7X l.prog w base (a0T.to X G) M O8
 have a1d:=a5a l.prog w base (E6.to X G) a2C O8
 have a8q:=a7W l.prog w base (a0S.to X G) M a1d
 have a55:=a5c l.prog w base (T7.to X G) M O8
 exact b6u l.prog w base F M a54 b0a b02 b0c a99 a8r a2D a1d a8q a55
end LW
namespace PySem.W.Fast
def tw8982836713454341104:=()
def tw6141868057656575970:=()
def tw10638407194706435221:=()
def tw11881106248698582068:=()
def tw5920068518769251419:=()
def tw5865306292321592295:=()
def tw9229350101443074637:=()
def tw10351467666101514575:=()
def tw14033423706622061880:=()
def tw2225759609524112037:=()
def tw4695502419993794247:=()
def tw734469192056107354:=()
def tw16623683332299280582:=()
def tw4087994999505186953:=()
def tw46077068718230399:=()
def tw3520411847973707355:=()
end PySem.W.Fast
open PySem PySem.W PyProof.Rows
set_option maxRecDepth 100000 in
set_option maxHeartbeats 0 in
theorem PySem.Challenge.cw_carpetkin_k45_whole_all_by_few_holds : PySem.Challenge.rw_carpetkin_k45_whole_all_by_few.Holds := by
 w_on;o_law;k_head;(case hw=>w_witness2)
 k_fill
 refine PU.b8C (k:=7) (x:="_law_script") (l:=PySem.Challenge.rw_carpetkin_k45_whole_all_by_few) (by decide) rfl rfl (fun w h Y=>PySem.W.kIn_of Y) ?F
 case F=>
  intro w mg fa h KX G hmg
  refine' LW.b5T KX G hmg ?_ ?_ ?_ ?_ ?_ ?_ ?_ ?_ ?_ ?_ ?_ ?_ ?_ ?_ ?_ ?_ ?_ ?_ ?_ ?_ ?_ ?_ ?_ ?_ ?_ ?_ ?_ ?_ ?_ ?_ ?_ ?_ ?_ ?_ ?_ ?_ ?_ ?_ ?_ ?_ ?_ ?_ ?_ ?_ ?_ ?_
  all_goals first|(apply PU.b7t<;>k_is)|k_is|kernel_rfl|skip
