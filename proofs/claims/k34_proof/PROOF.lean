import PyProof.Rows.All
import Wide.All
import OpenK.AllK
import Wide.FinOn
import Lean
import PyProof.EqAt
import PyProof.EqKinds
import PyProof.TupleCall
import PyProof.Rows.SortPure
import PyProof.Rows.SortWalk
import PyProof.AttrMissHeap
import KE.KDictOf
import KE.KIntText
import PyProof.StrBlockH
import PyProof.CallStr
import PyProof.StrLawsIn
import PyProof.StrLawsOcc
import PyProof.StationsW
import PyProof.ExcClass2
import PyProof.ExcBaseAll.ValueError
import PyProof.RulesTry
import PyProof.Rows.CatchBare
import PyProof.Rows.CatchOwn
import OpenK.KOwn
import PyProof.NsDelKeeps
import PyProof.Rows.RuleDivmod
import PyProof.ExcInit
import PyProof.InstStore
import OpenK.KMake
import PyProof.InstStoreFacts
import PyProof.ExcAttrAll.ValueError
import OpenK.KCls
import PyProof.Rows.SumAny
import PyProof.Rows.SetFrom
import PyProof.Rows.TupAdd
import PyProof.StrLawsLast
import PySem.Challenge.RW_carpetkin_k34_weavings_written
set_option Elab.async false
set_option linter.all false
set_option maxRecDepth 100000
noncomputable section
open PySem renaming Value -> AA
open PySem renaming Addr -> AB
open PySem renaming Shared -> AC
open Option renaming bind_some -> AD
open PySem.W renaming Frag -> AE
open PySem renaming Expr -> AF
open PySem renaming wpAny_bind -> AG
open List renaming map_cons -> AH
open PySem renaming wpAny -> AI
open PySem renaming World -> AJ
open PySem renaming Program -> AK
open PySem renaming Around -> AL
open PySem renaming starEach -> AM
open List renaming cons_append -> AN
open List renaming replicate_zero -> AO
open List renaming nil_append -> AQ
open List renaming map_nil -> AR
open List renaming set_cons_zero -> AS
open List renaming set_cons_succ -> AT
open PySem renaming sizeLine -> AU
open List renaming length_cons -> AV
open List renaming replicate_succ -> AW
open List renaming length_append -> AX
open PySem.Str renaming ofString -> AY
open Nat renaming le_refl -> AZ
open PySem renaming wpAny_pure -> Aa
open List renaming replicate -> Ab
open List renaming range -> Ac
open List renaming append_nil -> Ad
open List renaming length_map -> Ae
open List renaming length_nil -> Af
open PySem.Heap renaming lt_size -> Ag
open Option renaming map_some -> Ah
open Nat renaming reduceLeDiff -> Ai
open List renaming size_toArray -> Aj
open List renaming mem_cons_of_mem -> Ak
open List renaming mem_cons_self -> Al
open List renaming mem_cons -> Am
open PySem.Heap renaming get?_push_of_some -> An
open Bool renaming false_ne_true -> Ao
open Nat renaming lt_of_lt_of_le -> Aq
open Nat renaming ne_of_lt -> Ar
open List renaming map_append -> As
open List renaming map_map -> At
open List renaming mem_map -> Au
open List renaming mem_append -> Av
open List renaming getElem?_eq_some_iff -> Aw
open List renaming getElem?_eq_getElem -> Ax
open List renaming mem_append_right -> Ay
open PySem.Heap renaming get?_push_size -> Az
open List renaming length_range -> BA
open List renaming getElem?_map -> BB
open List renaming getElem?_append_left -> BC
open List renaming mem_of_getElem? -> BD
open List renaming mem_append_left -> BE
open Nat renaming le_of_lt -> BF
open Bool renaming false_eq_true -> BG
open List renaming getElem?_set_self -> BH
open Int renaming toNat_natCast -> BI
namespace L2
open PySem PySem.Spec PyProof.Rows
abbrev B0:=Sum Int Str
def b7l:B0->AA->Bool
 | .inl k,v=>Value.isInt k v
 | .inr x,v=>Value.isStrOf x v
def c2Q(w:AJ):B0->Int
 | .inl k=>hashInt k
 | .inr x=>hashStr w x
theorem K4:∀{k:B0} {v:AA},b7l k v=true->(∃i t,k=Sum.inl i/\v=Value.int i t)\/(∃x t,k=Sum.inr x/\v=Value.str x t)
 | .inl i,v,h=>by
   obtain⟨t,e⟩:=Value.isInt_shape (k:=i) (v:=v) h
   exact .inl ⟨i,t,rfl,e⟩
 | .inr x,v,h=>by
   obtain⟨t,e⟩:=Value.isStrOf_shape (x:=x) (v:=v) h
   exact .inr ⟨x,t,rfl,e⟩
theorem c0N(a b:Int):decide ((Sum.inl a:B0)=Sum.inl b)=(a==b):=by
 by_cases e:a=b
 ·subst e;simp
 ·have h:¬(Sum.inl a:B0)=Sum.inl b:=fun q=>e (Sum.inl.inj q)
  rw [decide_eq_false h]
  exact(beq_eq_false_iff_ne.mpr e).symm
theorem c0Q(a b:Str):decide ((Sum.inr a:B0)=Sum.inr b)=decide (a=b):=by
 by_cases e:a=b
 ·subst e;simp
 ·have h:¬(Sum.inr a:B0)=Sum.inr b:=fun q=>e (Sum.inr.inj q)
  rw [decide_eq_false h,decide_eq_false e]
theorem c0O(a:Int)(b:Str):decide ((Sum.inl a:B0)=Sum.inr b)=false:=decide_eq_false (fun q=>nomatch q)
theorem c0P(a:Str)(b:Int):decide ((Sum.inr a:B0)=Sum.inl b)=false:=decide_eq_false (fun q=>nomatch q)
def a8T(prog:AK)(w:AJ):PySem.KeyKind prog w B0 where
 is:=b7l
 hash:=c2Q w
 inj:=fun v a b ha hb=>by
  rcases K4 ha with⟨i,t,rfl,rfl⟩|⟨x,t,rfl,rfl⟩
  ·rcases K4 hb with⟨j,u,rfl,e⟩|⟨y,u,rfl,e⟩
   ·injection e with e1 _;rw [e1]
   ·exact nomatch e
  ·rcases K4 hb with⟨j,u,rfl,e⟩|⟨y,u,rfl,e⟩
   ·exact nomatch e
   ·injection e with e1 _;rw [e1]
 byValue:=fun k v h=>by
   rcases K4 h with⟨i,t,rfl,rfl⟩|⟨x,t,rfl,rfl⟩<;>rfl
 pyHash:=fun hv h=>by
  rcases K4 hv with⟨i,t,rfl,rfl⟩|⟨x,t,rfl,rfl⟩
  ·exact wpAny_pyHash_int h
  ·exact wpAny_pyHash_str h
 eqBool:=fun hu hv h=>by
  rcases K4 hu with⟨i,t,rfl,rfl⟩|⟨x,t,rfl,rfl⟩
  ·rcases K4 hv with⟨j,u,rfl,rfl⟩|⟨y,u,rfl,rfl⟩
   ·rw [c0N] at h;exact wpAny_eqBool_int h
   ·rw [c0O] at h;exact SeqAt.EqAt.int_str i t y u _ _ _ _ h
  ·rcases K4 hv with⟨j,u,rfl,rfl⟩|⟨y,u,rfl,rfl⟩
   ·rw [c0P] at h;exact SeqAt.EqAt.str_int x t j u _ _ _ _ h
   ·rw [c0Q] at h;exact wpAny_eqBool_str h
 «strs»:=fun k x t v h=>by
  rcases K4 h with⟨i,u,rfl,e⟩|⟨y,u,rfl,e⟩
  ·exact nomatch e
  ·injection e with e1 _
   subst e1
   cases v<;>rfl
inductive V where
 |non|bl (b:Bool)|int (i:Int)|str (x:Str)|byt (b:Array UInt8)|flt (b:UInt64)|ref (a:AB)|ty (n:String)
 deriving DecidableEq
def A4:V->AA->Prop
 | .non,u=>u=Value.none
 | .bl b,u=>u=Value.bool b
 | .int i,u=>∃t,u=Value.int i t
 | .str x,u=>∃t,u=Value.str x t
 | .byt b,u=>∃t,u=Value.bytes b t
 | .flt b,u=>∃t,u=Value.float b t
 | .ref a,u=>u=Value.ref a
 | .ty n,u=>u=Value.type n
abbrev t7:List V->List AA->Prop:=Paired A4
theorem t7.length{xs:List V}{us:List AA}(r:t7 xs us):xs.length=us.length:=Paired.length r
theorem t7.get:∀{xs:List V} {us:List AA} {i:Nat} {x:V},t7 xs us->xs[i]?=some x->∃u,us[i]?=some u/\A4 x u
 |_,_,_,_,.nil,e=>by simp at e
 |_,_,0,_,.cons r _,e=>by simp at e;subst e;exact⟨_,rfl,r⟩
 |_,_,i+1,x,.cons _ t,e=>by
  obtain⟨u,h1,h2⟩:=t7.get (i:=i) (x:=x) t (by simpa using e)
  exact⟨u,by simpa using h1,h2⟩
theorem t7.set{x:V}{u:AA}(r:A4 x u):∀{xs:List V} {us:List AA} (i:Nat),t7 xs us->t7 (xs.set i x) (us.set i u)
 |_,_,_,.nil=> .nil
 |_,_,0,.cons _ t=> .cons r t
 |_,_,i+1,.cons q t=> .cons q (t7.set r i t)
theorem t7.append:∀{xs ys:List V} {us ws:List AA},t7 xs us->t7 ys ws->t7 (xs++ys) (us++ws)
 |_,_,_,_,.nil,s=>s
 |_,_,_,_,.cons r t,s=> .cons r (t7.append t s)
theorem t7.take:∀{xs:List V} {us:List AA} (n:Nat),t7 xs us->t7 (xs.take n) (us.take n)
 |_,_,0,_=> .nil
 |_,_,_+1,.nil=> .nil
 |_,_,n+1,.cons r t=> .cons r (t7.take n t)
theorem t7.drop:∀{xs:List V} {us:List AA} (n:Nat),t7 xs us->t7 (xs.drop n) (us.drop n)
 |_,_,0,r=>r
 |_,_,_+1,.nil=> .nil
 |_,_,n+1,.cons _ t=>t7.drop n t
theorem t7.none_of:∀{xs:List V} {us:List AA} {i:Nat},t7 xs us->xs[i]?=none->us[i]?=none:=fun {xs us i} r e=>by
 have h1:=r.length
 have h2:xs.length<=i:=List.getElem?_eq_none_iff.mp e
 exact List.getElem?_eq_none_iff.mpr (by lia)
def a8Z:Option V->Option AA->Prop
 |some v,some u=>A4 v u
 |none,none=>True
 |_,_=>False
def KV{κ:Type}:List (κ×V)->List (κ×AA)->Prop:=Paired fun(p:κ×V) (q:κ×AA)=>p.1=q.1/\A4 p.2 q.2
def kV:B0->V
 | .inl i=> .int i
 | .inr x=> .str x
inductive HO where
 |lst (xs:List V)
 |tup (xs:List V)
 |dK (kvs:List (B0×V))|dT (kvs:List (List B0×V))
 |set (S:Int->Bool) (n:Nat)
 |ins (C dx:AB) (fs:List (Str×V))
 |own (x:AB)
 |xd (fs:List (Str×V))
 |met (f x:AB)
 |rng (lo hi:Int)
 |frz (o:Obj) (u:HO)
 |tbl (ps:Array AA)
 |ext (φ:Heap->Prop)
abbrev Hp:=AB->Option HO
def upd(H:Hp)(a:AB)(o:HO):Hp:=fun b=>if b=a then some o else H b
theorem w4{H:Hp}{a:AB}{o:HO}:upd H a o a=some o:=by unfold upd;rw [if_pos rfl]
theorem l7{H:Hp}{a b:AB}{o:HO}(h:b≠a):upd H a o b=H b:=by unfold upd;rw [if_neg h]
theorem b24{H:Hp}{a b:AB}{o u:HO}(h:H a=some o)(h':H b=some u)(d:o≠u):a≠b:=by
 intro e;subst e;rw [h] at h';exact d (Option.some.inj h')
theorem m4{H:Hp}{a b:AB}{o:HO}(h:H a=some o)(h':H b=none):a≠b:=by
 intro e;subst e;rw [h] at h';cases h'
section
variable (P:AK)(w:AJ)
def R3(H:Hp)(h:Heap)(a:AB):HO->Prop
 | .lst xs=>xs.length<=AU/\∃(its:List AA) (n:Nat),t7 xs its/\h.get? a=some {cls:= .type "list",data:= .seq its.toArray n}
 | .tup xs=>xs.length<=AU/\∃its:List AA,t7 xs its/\IsTup h a its.toArray
 | .dK kvs=>kvs.length<=AU/\(a==sysModules)=false/\∃vs,KV kvs vs/\h.DictOf (a8T P w) a vs
 | .dT kvs=>kvs.length<=AU/\(a==sysModules)=false/\∃xs:List (List B0×AB×AA),
  Paired (fun(p:List B0×V) (q:List B0×AB×AA)=>p.1=q.1/\H q.2.1=some (.tup (p.1.map kV))/\A4 p.2 q.2.2) kvs xs/\
  ∃o es ep,h.get? a=some o/\o.ExactDict/\o.data= .dict es ep/\es.toList=xs.map (entryOfKey (tupleKind (a8T P w)))/\(xs.map (·.1)).Nodup
 | .set S n=>h.SetOf (intKind P w) a S n
 | .ins C dx fs=>H dx=some (.own a)/\fs.length<=1000/\dx≠a/\h.get? a=some (PySem.W.instObj C dx)/\
  ∃mA,h.Ns1 dx mA/\(∀f,a8Z (fs.lookup f) (mA f))/\PySem.Within mA (fs.map (·.1))
 | .own _=>∃o,h.get? a=some o
 | .xd fs=>∃mA,h.Ns1 a mA/\∀f,a8Z (fs.lookup f) (mA f)
 | .rng lo hi=>∃t u v,h.get? a=some {cls:= .type "range",data:= .fields #[.int lo t,.int hi u,.int 1 v]}
 | .frz o u=>h.get? a=some o/\R3 H h a u
 | .tbl ps=>h.get? a=some {cls:= .none,data:= .fields ps}
 | .met f x=>h.get? a=some (PySem.W.methodObj (.ref f) (.ref x))
 | .ext φ=>φ h/\(∃o,h.get? a=some o)/\∀h1 h2:Heap,φ h1->(∀o,h1.get? a=some o->h2.get? a=some o)->φ h2
def HOk(H:Hp)(h:Heap):Prop:=∀a o,H a=some o->R3 P w H h a o
end
section
variable {P:AK}{w:AJ}{H H':Hp}{h h':Heap}{a:AB}{o:HO}
theorem R3.lt(x:R3 P w H h a o):a<h.objs.size:=by
 cases o with
 |lst xs=>obtain⟨_,_,_,_,e⟩:=x;exact Ag e
 |tup xs=>obtain⟨_,_,_,p⟩:=x;exact p.lt
 |dK kvs=>obtain⟨_,_,_,_,o,_,_,e,_⟩:=x;exact Ag e
 |dT kvs=>obtain⟨_,_,_,_,o,_,_,e,_⟩:=x;exact Ag e
 |set S n=>obtain⟨o,_,_,_,e,_⟩:=x;exact Ag e
 |ins C dx fs=>obtain⟨_,_,_,e,_⟩:=x;exact Ag e
 |own y=>obtain⟨_,e⟩:=x;exact Ag e
 |xd fs=>obtain⟨_,⟨_,_,_,e,_⟩,_⟩:=x;exact Ag e
 |rng lo hi=>obtain⟨_,_,_,e⟩:=x;exact Ag e
 |frz ob u=>obtain⟨e,_⟩:=x;exact Ag e
 |tbl ps=>exact Ag (show h.get? a=some _ from x)
 |met f y=>exact Ag (show h.get? a=some _ from x)
 |ext φ=>obtain⟨_,⟨_,e⟩,_⟩:=x;exact Ag e
theorem Paired.mapP{α β:Type}{F G:α->β->Prop}:∀{l₁:List α} {l₂:List β},Paired F l₁ l₂->(∀a b,F a b->G a b)->Paired G l₁ l₂
 |_,_,.nil,_=> .nil
 |_,_,.cons r t,f=> .cons (f _ _ r) (Paired.mapP t f)
theorem R3.stay(x:R3 P w H h a o)(k:∀b u,(b=a\/H b=some (.own a))->h.get? b=some u->h'.get? b=some u)
 (ho:∀b,H b=some (.own a)->H' b=some (.own a)) (ht:∀b xs,H b=some (.tup xs)->H' b=some (.tup xs)):R3 P w H' h' a o:=by
 induction o with
 |lst xs=>obtain⟨z,its,n,r,e⟩:=x;exact⟨z,its,n,r,k _ _ (.inl rfl) e⟩
 |tup xs=>obtain⟨z,its,r,ob,e,c⟩:=x;exact⟨z,its,r,ob,k _ _ (.inl rfl) e,c⟩
 |dK kvs=>obtain⟨z,y,vs,r,ob,es,ep,e,c⟩:=x;exact⟨z,y,vs,r,ob,es,ep,k _ _ (.inl rfl) e,c⟩
 |dT kvs=>
  obtain⟨z,y,xs,r,ob,es,ep,e,c⟩:=x
  exact⟨z,y,xs,Paired.mapP r fun p q z=>⟨z.1,ht _ _ z.2.1,z.2.2⟩,ob,es,ep,k _ _ (.inl rfl) e,c⟩
 |set S n=>obtain⟨ob,es,ep,t,e,c⟩:=x;exact⟨ob,es,ep,t,k _ _ (.inl rfl) e,c⟩
 |ins C dx fs=>
  obtain⟨d,z,ne,e,mA,⟨od,es,ep,e2,c⟩,r⟩:=x
  exact⟨ho _ d,z,ne,k _ _ (.inl rfl) e,mA,⟨od,es,ep,k _ _ (.inr d) e2,c⟩,r⟩
 |own y=>obtain⟨ob,e⟩:=x;exact⟨ob,k _ _ (.inl rfl) e⟩
 |xd fs=>obtain⟨mA,⟨od,es,ep,e,c⟩,r⟩:=x;exact⟨mA,⟨od,es,ep,k _ _ (.inl rfl) e,c⟩,r⟩
 |rng lo hi=>obtain⟨t,u,v,e⟩:=x;exact⟨t,u,v,k _ _ (.inl rfl) e⟩
 |frz ob u ih=>obtain⟨e,q⟩:=x;exact⟨k _ _ (.inl rfl) e,ih q⟩
 |tbl ps=>
  have e:h.get? a=some {cls:= .none,data:= .fields ps}:=x
  show h'.get? a=some {cls:= .none,data:= .fields ps}
  exact k a _ (.inl rfl) e
 |met f y=>
  have e:h.get? a=some (PySem.W.methodObj (.ref f) (.ref y)):=x
  show h'.get? a=some (PySem.W.methodObj (.ref f) (.ref y))
  exact k a _ (.inl rfl) e
 |ext φ=>obtain⟨p,⟨o,e⟩,st⟩:=x;exact⟨st _ _ p fun o q=>k _ _ (.inl rfl) q,⟨o,k _ _ (.inl rfl) e⟩,st⟩
theorem HOk.lt(x:HOk P w H h)(e:H a=some o):a<h.objs.size:=(x a o e).lt
theorem HOk.fresh(x:HOk P w H h)(e:h.objs.size<=a):H a=none:=by
 cases q:H a with
 |none=>rfl
 |some u=>exact absurd (Aq (x.lt q) e) (Nat.lt_irrefl _)
theorem HOk.kept(x:HOk P w H h)(k:∀b u,h.get? b=some u->h'.get? b=some u):HOk P w H h':=fun a o e=>
 (x a o e).stay (fun b u _ q=>k b u q) (fun _ q=>q) fun _ _ q=>q
theorem HOk.laid(x:HOk P w H h)(k:∀b u,h.get? b=some u->h'.get? b=some u)(hp:h.objs.size<=a)(new:R3 P w (upd H a o) h' a o):HOk P w (upd H a o) h':=fun b u e=>by
 have hn:=x.fresh hp
 by_cases hb:b=a
 ·subst hb;rw [w4] at e;cases e;exact new
 ·rw [l7 hb] at e
  exact(x b u e).stay (fun c v _ q=>k c v q) (fun c q=>by rw [l7 (m4 q hn)];exact q) fun c xs q=>by rw [l7 (m4 q hn)];exact q
end
def Rd(H:Hp)(a:AB)(u:HO):Prop:=H a=some u\/∃o,H a=some (.frz o u)
theorem Rd.of{H:Hp}{a:AB}{u:HO}(h:H a=some u):Rd H a u:= .inl h
theorem Rd.ok{P:AK}{w:AJ}{H:Hp}{h:Heap}{a:AB}{u:HO}(r:Rd H a u)(x:HOk P w H h):R3 P w H h a u:=by
 rcases r with r|⟨o,r⟩
 ·exact x a u r
 ·obtain⟨_,q⟩:=x a _ r
  exact q
def Mut:Option HO->Prop
 |some (.lst _)=>True
 |some (.dK _)=>True
 |some (.dT _)=>True
 |some (.set _ _)=>True
 |some (.ins _ _ _)=>True
 |some (.ext _)=>True
 |_=>False
section
variable {P:AK}{w:AJ}{H:Hp}{h h':Heap}{x e:AB}{o':HO}
theorem HOk.write(ok:HOk P w H h)(mu:Mut (H x))(he:e=x\/H e=some (.own x))(k:∀b u,b≠e->h.get? b=some u->h'.get? b=some u)(heo:∃u,h'.get? e=some u)
 (new:R3 P w (upd H x o') h' x o'):HOk P w (upd H x o') h':=fun b u q=>by
 have nown:∀c y,H c=some (.own y)->c≠x:=fun c y r z=>by subst z;rw [r] at mu;exact mu
 have ntup:∀c xs,H c=some (.tup xs)->c≠x:=fun c xs r z=>by subst z;rw [r] at mu;exact mu
 by_cases hb:b=x
 ·subst hb;rw [w4] at q;cases q;exact new
 ·rw [l7 hb] at q
  by_cases hbe:b=e
  ·have q':H b=some (.own x):=by
    rcases he with z|z
    ·exact absurd (hbe.trans z) hb
    ·rw [hbe];exact z
   rw [q] at q';cases q'
   obtain⟨v,hv⟩:=heo
   exact⟨v,by rw [hbe];exact hv⟩
  ·refine(ok b u q).stay (fun c v hc r=>k c v ?_ r) (fun c r=>by rw [l7 (nown c b r)];exact r) fun c xs r=>by rw [l7 (ntup c xs r)];exact r
   rcases hc with rfl|hc
   ·exact hbe
   ·rintro rfl
    rcases he with z|z
    ·exact nown c b hc z
    ·rw [hc] at z;cases z;exact hb rfl
end
structure Un(fs ex:List AB)(H H':Hp)(h h':Heap):Prop where
 keep:∀b o,h.get? b=some o->H b=none->b∉fs->b∉ex->h'.get? b=some o
 slot:∀b o,h.get? b=some o->H b=none->b∈fs->b∉ex->∃sl,h'.get? b=some {o with slots:=sl}
 free:∀b o,h.get? b=some o->H b=none->b∉ex->H' b=none
 there:∀b o,h.get? b=some o->b∉ex->∃o',h'.get? b=some o'
 tups:∀b xs,H b=some (.tup xs)->H' b=some (.tup xs)
 frzs:∀b o u,H b=some (.frz o u)->H' b=some (.frz o u)
 tbls:∀b ps,H b=some (.tbl ps)->∃more,H' b=some (.tbl (ps++more))
section
variable {fs fs' ex ex':List AB}{H H1 H2:Hp}{h h1 h2 h':Heap}{a x e:AB}{o:HO}
theorem Un.any(u:Un fs ex H H1 h h1){b:AB}{ob:Obj}(q:h.get? b=some ob)(n:H b=none)(hx:b∉ex):∃sl,h1.get? b=some {ob with slots:=sl}:=by
 by_cases hb:b∈fs
 ·exact u.slot b ob q n hb hx
 ·exact⟨ob.slots,u.keep b ob q n hb hx⟩
theorem Un.trans(a:Un fs ex H H1 h h1)(b:Un fs ex H1 H2 h1 h2):Un fs ex H H2 h h2 where
 keep:=fun c ob q n hc hx=>b.keep c ob (a.keep c ob q n hc hx) (a.free c ob q n hx) hc hx
 slot:=fun c ob q n hc hx=>by
  obtain⟨sl,e1⟩:=a.slot c ob q n hc hx
  obtain⟨sl',e2⟩:=b.slot c _ e1 (a.free c ob q n hx) hc hx
  exact⟨sl',e2⟩
 free:=fun c ob q n hx=>by
  obtain⟨o',e1⟩:=a.there c ob q hx
  exact b.free c o' e1 (a.free c ob q n hx) hx
 there:=fun c ob q hx=>by
  obtain⟨o',e1⟩:=a.there c ob q hx
  exact b.there c o' e1 hx
 tups:=fun c xs q=>b.tups c xs (a.tups c xs q)
 frzs:=fun c ob xs q=>b.frzs c ob xs (a.frzs c ob xs q)
 tbls:=fun c ps q=>by
  obtain⟨m1,e1⟩:=a.tbls c ps q
  obtain⟨m2,e2⟩:=b.tbls c _ e1
  exact⟨m1++m2,by rw [e2,Array.append_assoc]⟩
theorem Un.kept(k:∀b u,h.get? b=some u->h'.get? b=some u):Un fs ex H H h h':=
 ⟨fun b ob q _ _ _=>k b ob q,fun b ob q _ _ _=>⟨ob.slots,k b ob q⟩,fun _ _ _ n _=>n,fun b ob q _=>⟨ob,k b ob q⟩,fun _ _ q=>q,fun _ _ _ q=>q,fun _ ps q=>⟨#[],by rw [q];simp⟩⟩
theorem Un.refl:Un fs ex H H h h:=Un.kept fun _ _ q=>q
theorem Un.laid(k:∀b u,h.get? b=some u->h'.get? b=some u)(hp:h.objs.size<=a)(hn:H a=none):Un fs ex H (upd H a o) h h' where
 keep:=fun b u q _ _ _=>k b u q
 slot:=fun b u q _ _ _=>⟨u.slots,k b u q⟩
 free:=fun b u q n _=>by rw [l7 (Ar (Aq (Ag q) hp))];exact n
 there:=fun b u q _=>⟨u,k b u q⟩
 tups:=fun b xs q=>by rw [l7 (m4 q hn)];exact q
 frzs:=fun b u xs q=>by rw [l7 (m4 q hn)];exact q
 tbls:=fun b ps q=>⟨#[],by rw [l7 (m4 q hn),q];simp⟩
theorem Un.write(mu:Mut (H x))(he:e=x\/H e=some (.own x))(k:∀b u,b≠e->h.get? b=some u->h'.get? b=some u)(heo:∃u,h'.get? e=some u):Un fs ex H (upd H x o) h h':=by
 have hx:∀b,H b=none->b≠x:=fun b n z=>by subst z;rw [n] at mu;exact mu
 have hb:∀b,H b=none->b≠e:=fun b n z=>by
  subst z
  rcases he with r|r
  ·exact hx b n r
  ·rw [n] at r;cases r
 have hm:∀b u,H b=some u->¬Mut (some u)->b≠x:=fun b u q nm z=>by subst z;rw [q] at mu;exact nm mu
 refine⟨fun b u q n _ _=>k b u (hb b n) q,fun b u q n _ _=>⟨u.slots,k b u (hb b n) q⟩,fun b u q n _=>by rw [l7 (hx b n)];exact n,fun b u q _=> ?_,
  fun b xs q=>by rw [l7 (hm b _ q fun z=>z)];exact q,fun b u xs q=>by rw [l7 (hm b _ q fun z=>z)];exact q,fun b ps q=>⟨#[],by rw [l7 (hm b _ q fun z=>z),q];simp⟩⟩
 by_cases hbe:b=e
 ·subst hbe;exact heo
 ·exact⟨u,k b u hbe q⟩
theorem Un.mono(u:Un fs ex H H1 h h1)(hs:∀b∈fs,b∈fs')(hx:∀b∈ex,b∈ex'):Un fs' ex' H H1 h h1:=
 ⟨fun b ob q n hb he=>u.keep b ob q n (fun z=>hb (hs b z)) fun z=>he (hx b z),fun _ _ q n _ he=>u.any q n fun z=>he (hx _ z),fun b ob q n he=>u.free b ob q n fun z=>he (hx b z),fun b ob q he=>u.there b ob q fun z=>he (hx b z),u.tups,u.frzs,u.tbls⟩
end
def trk(h:Heap)(H:Hp):List AB:=(Ac h.objs.size).filter fun a=>(H a).isSome
def b1E(h:Heap)(H:Hp):Heap:=PySem.W.hideAll h (trk h H)
theorem b5X(h:Heap)(H:Hp):(b1E h H).objs.size=h.objs.size:=PySem.W.hideAll_size _ _
theorem b7c{h:Heap}{H:Hp}{b:AB}{o:Obj}(e:h.get? b=some o)(n:H b=none):(b1E h H).get? b=some o:=
 PySem.W.hideAll_get _ e fun hm=>by
  have q:(H b).isSome=true:=(List.mem_filter.mp hm).2
  rw [n] at q;simp at q
theorem b9c{h:Heap}{H:Hp}{b:AB}{o:Obj}(e:(b1E h H).get? b=some o):h.get? b=some o/\H b=none:=by
 have e':h.get? b=some o:=PySem.W.of_hideAll (trk h H) e
 refine⟨e', ?_⟩
 cases q:H b with
 |none=>rfl
 |some x=>
  have hm:b∈trk h H:=List.mem_filter.mpr ⟨List.mem_range.mpr (Ag e'),by simp [q]⟩
  have z:(b1E h H).get? b=none:=PySem.W.hideAll_none (trk h H) hm
  rw [z] at e;cases e
def b8E(g h:Heap)(L:AB):List (AB×Obj):=(Ac h.objs.size).filterMap fun a=>if a=L\/(g.get? a).isSome=true then none else(h.get? a).map fun o=>(a,o)
def C7(g h:Heap)(L d:AB):List (AB×Obj):=(b8E g h L).filter fun p=>decide (p.1≠d)
structure Mod(K:AE)(mg:Str->Option AA)(base:Heap):Prop where
 kin:K.In base
 glob:base.Ns mainGlobals mg
 blt:∃mb,base.Ns builtinsNs mb/\∀x:Str,x≠"__name__"->mb x=bootBuiltins x
 nolimit:base.NoLimit
structure Cx where
 prog:AK
 w:AJ
 K:AE
 mg:Str->Option AA
 base:Heap
 A:AL
 N:List Str
 s₀:AC
 H₀:Hp
 env:Env
 outer:List Env
 stack:List Env
 ex:List AB
 fn:Str->Bool
 calm:Bool
 pn:List (AB×Obj)
 xe:AA->AC->Prop
def frs(l:List Env):List AB:=l.filterMap (·.frame)
abbrev Cx.fs(X:Cx):List AB:=frs X.outer
def Vis(sc:Scope)(x:Str):Prop:=sc.names.lookup x=some .local\/sc.names.lookup x=some .cell\/sc.names.lookup x=some .free
def Loc(sc:Scope)(x:Str):Prop:=sc.names.lookup x=some .local\/sc.names.lookup x=some .cell
def c2E(env:Env)(h:Heap)(m:Str->Option AA)(x:Str)(u:AA):Prop:=
 (env.kindOf x=some .local/\m x=some u)\/((env.kindOf x=some .cell\/env.kindOf x=some .free)/\∃c,env.cells.lookup x=some c/\h.IsCell c (some u))
structure Cx.Ok(X:Cx):Prop where
 mod:Mod X.K X.mg X.base
 kind:X.env.scope.kind= .function
 glob:X.env.globals=mainGlobals
 blt:X.env.builtins=builtinsNs
 above:X.s₀.heap.objs.size<=X.env.locals
 inj:∀x y c,X.env.cells.lookup x=some c->X.env.cells.lookup y=some c->x=y
 has:∀x,(X.env.kindOf x=some .cell\/X.env.kindOf x=some .free)->∃c,X.env.cells.lookup x=some c
 cab:∀x c,X.fn x=true->X.env.cells.lookup x=some c->X.s₀.heap.objs.size<=c
 hd:X.calm=true->X.A.handled=none
 frames:X.A.frames=some X.stack
 stk:X.stack=X.outer\/(X.stack=X.env::X.outer/\X.env.frame=some X.env.locals)
 exf:∀b∈X.ex,b≠X.env.locals/\∀x c,X.env.cells.lookup x=some c->c≠b
 bs:∀b o,X.base.get? b=some o->X.s₀.heap.get? b=some o/\X.H₀ b=none
 bsz:X.base.objs.size<=X.s₀.heap.objs.size
 noex:∀b o,X.base.get? b=some o->b∉X.ex
 exfs:∀b∈X.ex,b∉X.fs
 funs:X.s₀.heap.FunFrames X.base X.outer
 frf:∀b∈X.fs,X.H₀ b=none
structure l8(X:Cx)(pins:List (AB×Obj))(σ:List (Option V))(H:Hp)(s:AC):Prop where
 ok:X.Ok
 os:s.os=X.s₀.os
 bare:AllBare s.gens
 base:Un X.fs X.ex X.H₀ H X.s₀.heap s.heap
 loc:∃m,s.heap.Ns X.env.locals m/\∀(i:Nat) (x:Str) (v:V),X.N[i]?=some x->σ[i]?=some (some v)->Vis X.env.scope x->∃u,A4 v u/\c2E X.env s.heap m x u
 cell:∀x c,X.env.cells.lookup x=some c->∃v,s.heap.IsCell c v
 free:H X.env.locals=none
 freeC:∀x c,X.env.cells.lookup x=some c->H c=none
 pin:∀p∈X.pn++pins,s.heap.get? p.1=some p.2/\H p.1=none/\p.1≠X.env.locals/\p.1∉X.fs/\∀v,p.2.data≠.cell v
 hok:HOk X.prog X.w H s.heap
 len:σ.length=X.N.length
section
variable {X:Cx}{pins:List (AB×Obj)}{σ:List (Option V)}{H H':Hp}{s:AC}{h':Heap}
theorem Cx.Ok.nofr(ok:X.Ok){b:AB}{o:Obj}(e:X.base.get? b=some o):b∉X.fs:=fun hb=>by
 have:=(ok.funs.mem hb).1
 rw [e] at this;cases this
theorem l8.bs(I:l8 X pins σ H s):∀b o,X.base.get? b=some o->s.heap.get? b=some o/\H b=none:=fun b o e=>
 ⟨I.base.keep b o (I.ok.bs b o e).1 (I.ok.bs b o e).2 (I.ok.nofr e) (I.ok.noex b o e),I.base.free b o (I.ok.bs b o e).1 (I.ok.bs b o e).2 (I.ok.noex b o e)⟩
theorem l8.bk(I:l8 X pins σ H s):∀b o,X.base.get? b=some o->s.heap.get? b=some o:=fun b o e=>(I.bs b o e).1
theorem l8.mod(I:l8 X pins σ H s):Mod X.K X.mg X.base:=I.ok.mod
theorem l8.kIn(I:l8 X pins σ H s):X.K.In s.heap:=I.ok.mod.kin.keeps I.bk
theorem l8.nolimit(I:l8 X pins σ H s):s.heap.NoLimit:=I.ok.mod.nolimit.keeps I.bk
theorem l8.fr(I:l8 X pins σ H s):∃m,Fr X.base X.env.locals s.heap m:=
 let ⟨m,hn,_⟩:=I.loc
 ⟨m,hn,I.bk,Nat.le_trans I.ok.bsz I.ok.above⟩
theorem l8.lt(I:l8 X pins σ H s):X.env.locals<s.heap.objs.size:=let ⟨_,hn,_⟩:=I.loc;hn.lt
theorem l8.sz(I:l8 X pins σ H s):X.s₀.heap.objs.size<=s.heap.objs.size:=Nat.le_trans I.ok.above (BF I.lt)
theorem l8.nofs(I:l8 X pins σ H s){a:AB}(h:s.heap.objs.size<=a):a∉X.fs:=fun hb=>by
 obtain⟨_,o,ho,_⟩:=I.ok.funs.mem hb
 exact absurd (Aq (Ag ho) (Nat.le_trans I.sz h)) (Nat.lt_irrefl _)
theorem l8.cne(I:l8 X pins σ H s):∀x c,X.env.cells.lookup x=some c->c≠X.env.locals:=fun x c e z=>by
 obtain⟨v,o,ho,hd⟩:=I.cell x c e
 obtain⟨m,⟨o',es,ep,ho',hd',_⟩,_⟩:=I.loc
 rw [z,ho'] at ho;cases ho;rw [hd'] at hd;cases hd
theorem l8.funs(I:l8 X pins σ H s):s.heap.FunFrames X.base X.outer:=by
 have all:∀(l:List Env),(∀b∈frs l,b∈X.fs)->X.s₀.heap.FunFrames X.base l->s.heap.FunFrames X.base l:=by
  intro l
  induction l with
  |nil=>intro _ _;trivial
  |cons env r ih=>
   intro hs hl
   obtain⟨hk,⟨L,o,hf,hn,ho,hd⟩,hr⟩:=hl
   have hL:L∈X.fs:=hs L (by unfold frs;rw [List.filterMap_cons,hf];exact Al)
   obtain⟨sl,e⟩:=I.base.slot L o ho (I.ok.frf L hL) hL fun z=>I.ok.exfs L z hL
   exact⟨hk,⟨L,_,hf,hn,e,hd⟩,ih (fun b hb=>hs b (by unfold frs;rw [List.filterMap_cons,hf];exact Ak _ hb)) hr⟩
 exact all X.outer (fun _ hb=>hb) I.ok.funs
theorem l8.stack(I:l8 X pins σ H s):s.heap.FunFrames X.base X.stack:=by
 rcases I.ok.stk with e|⟨e,hf⟩
 ·rw [e];exact I.funs
 ·rw [e]
  obtain⟨m,hn,_⟩:=I.loc
  refine .cons (by rw [I.ok.kind];decide) hf hn ?_ I.funs
  exact Heap.get?_none_of_le (Nat.le_trans I.ok.bsz I.ok.above)
theorem l8.stkSub(I:l8 X pins σ H s):∀b∈frs X.stack,b∈X.env.locals::X.fs:=fun b hb=>by
 rcases I.ok.stk with e|⟨e,hf⟩
 ·rw [e] at hb;exact Ak _ hb
 ·rw [e] at hb
  unfold frs at hb
  rw [List.filterMap_cons,hf] at hb
  exact hb
theorem l8.stkFree(I:l8 X pins σ H s):∀b∈frs X.stack,H b=none:=fun b hb=>by
 rcases Am.mp (I.stkSub b hb) with e|hb
 ·rw [e];exact I.free
 ·obtain⟨_,o,ho,_⟩:=I.ok.funs.mem hb
  exact I.base.free b o ho (I.ok.frf b hb) fun z=>I.ok.exfs b z hb
theorem l8.step{g':Array GenState}{t':Nat}{d':Drawn}{ch:List AB}(I:l8 X pins σ H s)
 (hch:∀b∈ch,(b∈X.ex\/X.s₀.heap.objs.size<=b)/\b≠X.env.locals/\(∀x c,X.env.cells.lookup x=some c->c≠b)/\∀p∈X.pn++pins,p.1≠b)
 (keep:∀b o,b≠X.env.locals->b∉X.fs->b∉ch->s.heap.get? b=some o->H b=none->h'.get? b=some o)
 (slot:∀b o,b≠X.env.locals->b∈X.fs->b∉ch->s.heap.get? b=some o->H b=none->∃sl,h'.get? b=some {o with slots:=sl}) (free:∀b o,b∉ch->s.heap.get? b=some o->H b=none->H' b=none)
 (there:∀b o,b∉ch->s.heap.get? b=some o->∃o',h'.get? b=some o')
 (tups:∀b xs,H b=some (.tup xs)->H' b=some (.tup xs)) (frzs:∀b o u,H b=some (.frz o u)->H' b=some (.frz o u)) (tbls:∀b ps,H b=some (.tbl ps)->∃more,H' b=some (.tbl (ps++more)))
 (ns:∀m,s.heap.Ns X.env.locals m->h'.Ns X.env.locals m) (hok:HOk X.prog X.w H' h') (hg:AllBare g'):
 l8 X pins σ H' {s with heap:=h',gens:=g',drawn:=d',toks:=t'}:=by
 have neL:∀b o,X.s₀.heap.get? b=some o->b≠X.env.locals:=fun b o e=>Ar (Aq (Ag e) I.ok.above)
 have neC:∀b o,X.s₀.heap.get? b=some o->b∉X.ex->b∉ch:=fun b o e hx hb=>by
  rcases(hch b hb).1 with z|z
  ·exact hx z
  ·exact absurd (Aq (Ag e) z) (Nat.lt_irrefl _)
 have cellK:∀x c,X.env.cells.lookup x=some c->∀v,s.heap.IsCell c v->h'.IsCell c v:=fun x c e v ⟨o,ho,hd⟩=>by
  have nch:c∉ch:=fun z=>(hch c z).2.2.1 x c e rfl
  by_cases hc:c∈X.fs
  ·obtain⟨sl,q⟩:=slot c o (I.cne x c e) hc nch ho (I.freeC x c e)
   exact⟨_,q,hd⟩
  ·exact⟨o,keep c o (I.cne x c e) hc nch ho (I.freeC x c e),hd⟩
 refine⟨I.ok,I.os,hg,⟨fun b o e n hb hx=> ?_,fun b o e n hb hx=> ?_,fun b o e n hx=> ?_,fun b o e hx=> ?_,fun b xs e=>tups b xs (I.base.tups b xs e),fun b o xs e=>frzs b o xs (I.base.frzs b o xs e),fun b ps e=> ?_⟩, ?_,fun x c e=> ?_, ?_,fun x c e=> ?_,fun p hp=> ?_,hok,I.len⟩
 ·exact keep b o (neL b o e) hb (neC b o e hx) (I.base.keep b o e n hb hx) (I.base.free b o e n hx)
 ·obtain⟨sl,e1⟩:=I.base.slot b o e n hb hx
  obtain⟨sl',e2⟩:=slot b _ (neL b o e) hb (neC b o e hx) e1 (I.base.free b o e n hx)
  exact⟨sl',e2⟩
 ·obtain⟨o',e1⟩:=I.base.there b o e hx
  exact free b o' (neC b o e hx) e1 (I.base.free b o e n hx)
 ·obtain⟨o',e1⟩:=I.base.there b o e hx
  exact there b o' (neC b o e hx) e1
 ·obtain⟨m1,e1⟩:=I.base.tbls b ps e
  obtain⟨m2,e2⟩:=tbls b _ e1
  exact⟨m1++m2,by rw [e2,Array.append_assoc]⟩
 ·obtain⟨m,hn,hl⟩:=I.loc
  refine⟨m,ns m hn,fun i x v e1 e2 e3=> ?_⟩
  obtain⟨u,r,l⟩:=hl i x v e1 e2 e3
  refine⟨u,r, ?_⟩
  rcases l with l|⟨k,c,e,z⟩
  ·exact .inl l
  ·exact .inr ⟨k,c,e,cellK x c e _ z⟩
 ·obtain⟨v,z⟩:=I.cell x c e
  exact⟨v,cellK x c e v z⟩
 ·obtain⟨m,⟨o,_,_,ho,_⟩,_⟩:=I.loc
  exact free _ o (fun z=>(hch _ z).2.1 rfl) ho I.free
 ·obtain⟨v,o,ho,hd⟩:=I.cell x c e
  exact free c o (fun z=>(hch c z).2.2.1 x c e rfl) ho (I.freeC x c e)
 ·obtain⟨e,n,ne,nf,d⟩:=I.pin p hp
  have nch:p.1∉ch:=fun z=>(hch p.1 z).2.2.2 p hp rfl
  exact⟨keep p.1 p.2 ne nf nch e n,free p.1 p.2 nch e n,ne,nf,d⟩
theorem l8.un{t':Nat}(I:l8 X pins σ H s)(u:Un X.fs [] H H' s.heap h')(hok:HOk X.prog X.w H' h'):l8 X pins σ H' {s with heap:=h',toks:=t'}:=by
 obtain⟨m,⟨o,es,ep,ho,r⟩,_⟩:=id I.loc
 obtain⟨sl,hL⟩:=u.any ho I.free (by simp)
 exact I.step (g':=s.gens) (d':=s.drawn) (ch:=[]) (fun _ z=>nomatch z) (fun b o _ hb _ e n=>u.keep b o e n hb (by simp)) (fun b o _ hb _ e n=>u.slot b o e n hb (by simp)) (fun b o _ e n=>u.free b o e n (by simp)) (fun b o _ e=>u.there b o e (by simp)) u.tups u.frzs u.tbls (fun m' hm=>by
  obtain⟨o',es',ep',ho',r'⟩:=hm
  rw [ho] at ho';cases ho'
  exact⟨_,es',ep',hL,r'⟩) hok I.bare
theorem l8.call{g':Array GenState}{t':Nat}{d':Drawn}{ch:List AB}(I:l8 X pins σ H s)(u:Un (frs X.stack) ch H H' s.heap h')(hok:HOk X.prog X.w H' h')(hg:AllBare g')
 (hch:∀b∈ch,(b∈X.ex\/X.s₀.heap.objs.size<=b)/\b≠X.env.locals/\(∀x c,X.env.cells.lookup x=some c->c≠b)/\∀p∈X.pn++pins,p.1≠b):
 l8 X pins σ H' {s with heap:=h',gens:=g',drawn:=d',toks:=t'}:=by
 obtain⟨m,⟨o,es,ep,ho,r⟩,_⟩:=id I.loc
 obtain⟨sl,hL⟩:=u.any ho I.free fun z=>(hch _ z).2.1 rfl
 exact I.step (ch:=ch) hch (fun b o hL hb hc e n=>u.keep b o e n (fun z=>(Am.mp (I.stkSub b z)).elim hL hb) hc) (fun b o _ _ hc e n=>u.any e n hc) (fun b o hc e n=>u.free b o e n hc) (fun b o hc e=>u.there b o e hc) u.tups u.frzs u.tbls (fun m' hm=>by
  obtain⟨o',es',ep',ho',r'⟩:=hm
  rw [ho] at ho';cases ho'
  exact⟨_,es',ep',hL,r'⟩) hok hg
theorem l8.turned{t':Nat}{it:AB}(I:l8 X pins σ H s)(k:∀b o,b≠it->s.heap.get? b=some o->h'.get? b=some o)(hn:H it=none)(hL:it≠X.env.locals)
 (h1:it∈X.ex\/X.s₀.heap.objs.size<=it) (h2:∀x c,X.env.cells.lookup x=some c->c≠it) (h3:∀p∈X.pn++pins,p.1≠it):l8 X pins σ H {s with heap:=h',toks:=t'}:=by
 have nit:∀b u,H b=some u->b≠it:=fun b u e z=>by rw [z,hn] at e;cases e
 refine I.step (g':=s.gens) (d':=s.drawn) (ch:=[it]) (fun b hb=> ?_) (fun b o _ _ hc e _=>k b o (fun z=>hc (by simp [z])) e) (fun b o _ _ hc e _=>⟨o.slots,k b o (fun z=>hc (by simp [z])) e⟩) (fun _ _ _ _ n=>n)
  (fun b o hc e=>⟨o,k b o (fun z=>hc (by simp [z])) e⟩) (fun _ _ e=>e) (fun _ _ _ e=>e) (fun b ps e=>⟨#[],by rw [e];simp⟩) (fun m hm=> ?_) (fun b u e=> ?_) I.bare
 ·have e:b=it:=by simpa using hb
  subst e
  exact⟨h1,hL,h2,h3⟩
 ·obtain⟨o,es,ep,ho,r⟩:=hm
  exact⟨o,es,ep,k _ o (Ne.symm hL) ho,r⟩
 ·refine(I.hok b u e).stay (fun c v hc q=>k c v ?_ q) (fun _ q=>q) fun _ _ q=>q
  rcases hc with z|z
  ·rw [z];exact nit b u e
  ·exact nit c _ z
theorem l8.tok(I:l8 X pins σ H s)(t:Nat):l8 X pins σ H {s with toks:=t}:=I.un (h':=s.heap) (t':=t) Un.refl I.hok
theorem l8.kept{t':Nat}(I:l8 X pins σ H s)(k:∀b u,s.heap.get? b=some u->h'.get? b=some u):l8 X pins σ H {s with heap:=h',toks:=t'}:=I.un (Un.kept k) (I.hok.kept k)
theorem l8.laid{a:AB}{o:HO}{t':Nat}(I:l8 X pins σ H s)(k:∀b u,s.heap.get? b=some u->h'.get? b=some u)(hp:s.heap.objs.size<=a)(new:R3 X.prog X.w (upd H a o) h' a o):
 l8 X pins σ (upd H a o) {s with heap:=h',toks:=t'}:=I.un (Un.laid k hp (I.hok.fresh hp)) (I.hok.laid k hp new)
theorem l8.write{x e:AB}{o:HO}{t':Nat}(I:l8 X pins σ H s)(mu:Mut (H x))(he:e=x\/H e=some (.own x))(k:∀b u,b≠e->s.heap.get? b=some u->h'.get? b=some u)(heo:∃u,h'.get? e=some u)
 (new:R3 X.prog X.w (upd H x o) h' x o):l8 X pins σ (upd H x o) {s with heap:=h',toks:=t'}:=I.un (Un.write mu he k heo) (I.hok.write mu he k heo new)
theorem l8.weak{σ':List (Option V)}(I:l8 X pins σ H s)(hl:σ'.length=σ.length)(w:∀(i:Nat) v,σ'[i]?=some (some v)->σ[i]?=some (some v)):l8 X pins σ' H s:=
 ⟨I.ok,I.os,I.bare,I.base,let ⟨m,hn,hl'⟩:=I.loc;⟨m,hn,fun i x v e1 e2 e3=>hl' i x v e1 (w i v e2) e3⟩,I.cell,I.free,I.freeC,I.pin,I.hok,hl.trans I.len⟩
theorem l8.pins_of{pins':List (AB×Obj)}(I:l8 X pins σ H s)(h:∀p∈pins',s.heap.get? p.1=some p.2/\H p.1=none/\p.1≠X.env.locals/\p.1∉X.fs/\∀v,p.2.data≠.cell v):l8 X pins' σ H s:=
 ⟨I.ok,I.os,I.bare,I.base,I.loc,I.cell,I.free,I.freeC,fun p hp=>(Av.mp hp).elim (fun z=>I.pin p (BE _ z)) (h p),I.hok,I.len⟩
theorem a9B{N:List Str}(hN:N.Nodup){i j:Nat}{x:Str}(a:N[i]?=some x)(b:N[j]?=some x):i=j:=by
 obtain⟨h1,e1⟩:=Aw.mp a
 obtain⟨h2,e2⟩:=Aw.mp b
 exact(List.getElem_inj hN).mp (e1.trans e2.symm)
theorem b6l{M:Model}{A:AL}{E:AA->AC->Prop}{i:Nat}{x:Str}{v:V}{u:AA}{Q:Unit->AC->Prop}(I:l8 X pins σ H s)(hN:X.N.Nodup)(hi:X.N[i]?=some x)(hx:Loc X.env.scope x)(r:A4 v u)
 (h:∀s',l8 X pins (σ.set i (some v)) H s'->(∃a,Heap.SameBut a s.heap s'.heap/\(a=X.env.locals\/X.env.cells.lookup x=some a))->Q () s') (hf:X.fn x=true\/X.env.scope.names.lookup x=some .local:=by first|exact .inl rfl|exact .inr rfl|assumption):AI M A (storeName X.env x u) Q E s:=by
 obtain⟨m,hn,hl⟩:=id I.loc
 have hcls:(X.env.scope.kind== .class||(X.env.scope.kind== .module && X.env.locals !=X.env.globals))=false:=by rw [I.ok.kind];rfl
 have hiσ:i<σ.length:=by rw [I.len];exact(Aw.mp hi).1
 have cne:=I.cne
 have tracked:∀{a:AB} {h':Heap},(∃o,s.heap.get? a=some o/\H a=none)->Heap.SameBut a s.heap h'->HOk X.prog X.w H h':=fun {a h'} ha hs b ob e=>by
  obtain⟨_,_,hfree⟩:=ha
  refine(I.hok b ob e).stay (fun c w' hc q=>(hs.2 c ?_).trans q) (fun _ q=>q) fun _ _ q=>q
  rintro rfl
  rcases hc with rfl|hc
  ·rw [hfree] at e;cases e
  ·rw [hfree] at hc;cases hc
 rcases hx with hk|hk
 ·refine wpAny_storeName_local hk hn (fun h' hn' hs=> ?_) hcls
  obtain⟨oL,_,_,hoL,_⟩:=id hn
  refine h _ ⟨I.ok,I.os,I.bare,⟨fun b o e n hb hx=> ?_,fun b o e n hb hx=> ?_,I.base.free,fun b o e hx=> ?_,I.base.tups,I.base.frzs,I.base.tbls⟩,⟨_,hn',fun j y v' e1 e2 e3=> ?_⟩,fun y c e=> ?_,I.free,I.freeC,fun p hp=> ?_,tracked ⟨oL,hoL,I.free⟩ hs,by simpa using I.len⟩ ⟨_,hs,.inl rfl⟩
  ·exact(hs.2 b (Ar (Aq (Ag e) I.ok.above))).trans (I.base.keep b o e n hb hx)
  ·obtain⟨sl,e1⟩:=I.base.slot b o e n hb hx
   exact⟨sl,(hs.2 b (Ar (Aq (Ag e) I.ok.above))).trans e1⟩
  ·obtain⟨o',e1⟩:=I.base.there b o e hx
   exact⟨o',(hs.2 b (Ar (Aq (Ag e) I.ok.above))).trans e1⟩
  ·by_cases hj:j=i
   ·subst hj
    rw [hi] at e1;cases e1
    rw [BH hiσ] at e2
    cases e2
    exact⟨u,r,.inl ⟨hk,by simp⟩⟩
   ·rw [List.getElem?_set_ne (Ne.symm hj)] at e2
    obtain⟨u',r',q⟩:=hl j y v' e1 e2 e3
    refine⟨u',r', ?_⟩
    rcases q with⟨k,e⟩|⟨k,c,e,z⟩
    ·refine .inl ⟨k, ?_⟩
     have:y≠x:=fun e=>hj (a9B hN e1 (e▸hi))
     simp [this,e]
    ·exact .inr ⟨k,c,e,z.sameBut hs (cne y c e)⟩
  ·obtain⟨w',z⟩:=I.cell y c e
   exact⟨w',z.sameBut hs (cne y c e)⟩
  ·obtain⟨e,n,ne,nf,d⟩:=I.pin p hp
   exact⟨(hs.2 p.1 ne).trans e,n,ne,nf,d⟩
 ·have hfn:X.fn x=true:=by
   rcases hf with z|z
   ·exact z
   ·rw [z] at hk;cases hk
  obtain⟨c,hc⟩:=I.ok.has x (.inl hk)
  obtain⟨w',z⟩:=I.cell x c hc
  refine wpAny_storeName_cell I.ok.kind hk hc z (fun h' hc' hs=> ?_)
  obtain⟨oc,hoc,hocd⟩:=id z
  refine h {s with heap:=h'} ⟨I.ok,I.os,I.bare,⟨fun b o e n hb hx=> ?_,fun b o e n hb hx=> ?_,I.base.free,fun b o e hx=> ?_,I.base.tups,I.base.frzs,I.base.tbls⟩,⟨m,hn.sameBut hs (Ne.symm (cne x c hc)),fun j y v' e1 e2 e3=> ?_⟩,fun y c' e=> ?_,I.free,I.freeC,fun p hp=> ?_,tracked ⟨oc,hoc,I.freeC x c hc⟩ hs,by simpa using I.len⟩ ⟨c,hs,.inr hc⟩
  ·exact(hs.2 b (Ar (Aq (Ag e) (I.ok.cab x c hfn hc)))).trans (I.base.keep b o e n hb hx)
  ·obtain⟨sl,e1⟩:=I.base.slot b o e n hb hx
   exact⟨sl,(hs.2 b (Ar (Aq (Ag e) (I.ok.cab x c hfn hc)))).trans e1⟩
  ·obtain⟨o',e1⟩:=I.base.there b o e hx
   exact⟨o',(hs.2 b (Ar (Aq (Ag e) (I.ok.cab x c hfn hc)))).trans e1⟩
  ·by_cases hj:j=i
   ·subst hj
    rw [hi] at e1;cases e1
    rw [BH hiσ] at e2
    cases e2
    exact⟨u,r,.inr ⟨.inl hk,c,hc,hc'⟩⟩
   ·rw [List.getElem?_set_ne (Ne.symm hj)] at e2
    obtain⟨u',r',q⟩:=hl j y v' e1 e2 e3
    refine⟨u',r', ?_⟩
    rcases q with q|⟨k,c',e,z'⟩
    ·exact .inl q
    ·refine .inr ⟨k,c',e,z'.sameBut hs ?_⟩
     rintro rfl
     exact hj (a9B hN e1 (I.ok.inj _ _ _ e hc▸hi))
  ·by_cases hcc:c'=c
   ·subst hcc;exact⟨_,hc'⟩
   ·obtain⟨w2,z2⟩:=I.cell y c' e
    exact⟨w2,z2.sameBut hs hcc⟩
  ·obtain⟨e,n,ne,nf,d⟩:=I.pin p hp
   refine⟨(hs.2 p.1 ?_).trans e,n,ne,nf,d⟩
   intro q
   rw [q,hoc] at e
   have q':oc=p.2:=Option.some.inj e
   exact d w' (by rw [<-q'];exact hocd)
theorem a7f{M:Model}{A:AL}{E:AA->AC->Prop}{i:Nat}{x:Str}{v:V}{u:AA}{Q:Unit->AC->Prop}(I:l8 X pins σ H s)(hN:X.N.Nodup)(hi:X.N[i]?=some x)(hx:Loc X.env.scope x)(r:A4 v u)
 (h:∀s',l8 X pins (σ.set i (some v)) H s'->Q () s') (hf:X.fn x=true\/X.env.scope.names.lookup x=some .local:=by first|exact .inl rfl|exact .inr rfl|assumption):AI M A (storeName X.env x u) Q E s:=
 b6l I hN hi hx r (fun s' I' _=>h s' I') hf
theorem l8.call'{s':AC}{ch:List AB}(I:l8 X pins σ H s)(ho:s'.os=s.os)(u:Un (frs X.stack) ch H H' s.heap s'.heap)(hok:HOk X.prog X.w H' s'.heap)(hg:AllBare s'.gens)
 (hch:∀b∈ch,(b∈X.ex\/X.s₀.heap.objs.size<=b)/\b≠X.env.locals/\(∀x c,X.env.cells.lookup x=some c->c≠b)/\∀p∈X.pn++pins,p.1≠b):l8 X pins σ H' s':=by
 obtain⟨h',g',d',t',o'⟩:=s'
 have e:o'=s.os:=ho
 subst e
 exact I.call (g':=g') (t':=t') (d':=d') u hok hg hch
end
abbrev XK:=AA->Option AB->Hp->Prop
abbrev St:=List (Option V)
abbrev VK:=V->Hp->Prop
abbrev TE:=St->Hp->VK->Prop
abbrev TT:=St->Hp->(Bool->Hp->Prop)->Prop
abbrev TA:=St->Hp->(List V->Hp->Prop)->Prop
structure a0w where
 nx:St->Hp->Prop
 rt:VK
 bk:St->Hp->Prop:=fun _ _=>False
 ct:St->Hp->Prop:=fun _ _=>False
abbrev TS:=a0w->St->Hp->Prop
def EP(X:Cx)(pins:List (AB×Obj))(σ:St)(Q:VK)(u:AA)(s':AC):Prop:=∃v H',l8 X pins σ H' s'/\A4 v u/\Q v H'
def TP(X:Cx)(pins:List (AB×Obj))(σ:St)(Q:Bool->Hp->Prop)(b:Bool)(s':AC):Prop:=∃H',l8 X pins σ H' s'/\Q b H'
def AP(X:Cx)(pins:List (AB×Obj))(σ:St)(Q:List V->Hp->Prop)(us:List AA)(s':AC):Prop:=∃vs H',l8 X pins σ H' s'/\t7 vs us/\Q vs H'
def SP(X:Cx)(pins:List (AB×Obj))(D:a0w)(f:Flow)(s':AC):Prop:=
 match f with
 | .next=>∃σ' H',l8 X pins σ' H' s'/\D.nx σ' H'
 | .brk=>∃σ' H',l8 X pins σ' H' s'/\D.bk σ' H'
 | .cont=>∃σ' H',l8 X pins σ' H' s'/\D.ct σ' H'
 | .ret u=>∃v σ' H',l8 X pins σ' H' s'/\A4 v u/\D.rt v H'
def PE(X:Cx)(e:AF)(t:TE):Prop:=
 ∀(pins:List (AB×Obj)) (s:AC) (σ:St) (H:Hp) (Q:VK),l8 X pins σ H s->t σ H Q->AI (model X.prog X.w) X.A (eval e X.env) (EP X pins σ Q) X.xe s
def PT(X:Cx)(e:AF)(t:TT):Prop:=
 ∀(pins:List (AB×Obj)) (s:AC) (σ:St) (H:Hp) (Q:Bool->Hp->Prop),l8 X pins σ H s->t σ H Q->AI (model X.prog X.w) X.A (isTrue e X.env (eval e X.env)) (TP X pins σ Q) X.xe s
def PW(X:Cx)(e:AF)(t:TT):Prop:=
 ∀(whole:Sem AA) (pins:List (AB×Obj)) (s:AC) (σ:St) (H:Hp) (Q:Bool->Hp->Prop),l8 X pins σ H s->t σ H Q->AI (model X.prog X.w) X.A (isTrue e X.env whole) (TP X pins σ Q) X.xe s
theorem PW.pt{X:Cx}{e:AF}{t:TT}(h:PW X e t):PT X e t:=h _
def PA(X:Cx)(es:List AF)(t:TA):Prop:=
 ∀(pos:Pos) (pins:List (AB×Obj)) (s:AC) (σ:St) (H:Hp) (Q:List V->Hp->Prop),l8 X pins σ H s->t σ H Q->AI (model X.prog X.w) X.A (spliced (backTo pos (AM es X.env))) (AP X pins σ Q) X.xe s
def PS(X:Cx)(st:Stmt)(t:TS):Prop:=
 ∀(pins:List (AB×Obj)) (s:AC) (σ:St) (H:Hp) (D:a0w),l8 X pins σ H s->t D σ H->AI (model X.prog X.w) X.A (exec st X.env) (SP X pins D) X.xe s
def PSs(X:Cx)(st:List Stmt)(t:TS):Prop:=
 ∀(pins:List (AB×Obj)) (s:AC) (σ:St) (H:Hp) (D:a0w),l8 X pins σ H s->t D σ H->AI (model X.prog X.w) X.A (execs st X.env) (SP X pins D) X.xe s
theorem U5{α:Type}{t:Sem α}{Q Q':α->AC->Prop}{M:Model}{A:AL}{E:AA->AC->Prop}{s:AC}(h:AI M A t Q E s)(hQ:∀a s,Q a s->Q' a s):AI M A t Q' E s:=wpAny_mono h hQ fun _ _ x=>x
section
variable {X:Cx}
def b3D(i:Nat):TE:=fun σ H Q=>∃v,σ[i]?=some (some v)/\Q v H
def tC(v:V):TE:=fun _ H Q=>Q v H
theorem c1h{i:Nat}{x:Str}{pos:Pos}(hN:X.N[i]?=some x)(hv:Vis X.env.scope x)(hd:(x==("__debug__":Str))=false:=by decide)(hcd:(x==("__classdict__":Str))=false:=by decide):PE X (.Name x pos) (b3D i):=by
 intro pins s σ H Q I h
 obtain⟨v,e,h⟩:=h
 obtain⟨m,hn,hl⟩:=I.loc
 obtain⟨u,r,l⟩:=hl i x v hN e hv
 have fin:EP X pins σ Q u s:=⟨v,H,I,r,h⟩
 rcases l with⟨hk,hm⟩|⟨hk,c,hc,hcell⟩
 ·exact wpAny_Name (wpAny_loadName_local I.ok.kind hk hn hm fin) hd
 ·rcases hk with hk|hk
  ·exact wpAny_Name (wpAny_loadName_cell I.ok.kind hk hc hcell fin) hd
  ·exact wpAny_Name (wpAny_loadName_free I.ok.kind hk hc hcell fin hcd) hd
theorem c1a{i j pos}:PE X (.Constant (.int i) j pos) (tC (.int i)):=fun _ _ _ H _ I h=>wpAny_Constant_int ⟨.int i,H,I.tok _,⟨_,rfl⟩,h⟩
theorem c2c{b j pos}:PE X (.Constant (.bool b) j pos) (tC (.bl b)):=fun _ _ _ H _ I h=>Constant_bool ⟨.bl b,H,I,rfl,h⟩
theorem c1c{j pos}:PE X (.Constant .none j pos) (tC .non):=fun _ _ _ H _ I h=>Constant_none ⟨.non,H,I,rfl,h⟩
theorem c1f{x j pos}:PE X (.Constant (.str x) j pos) (tC (.str x)):=fun _ _ _ H _ I h=>Calls.Constant_str ⟨.str x,H,I.tok _,⟨_,rfl⟩,h⟩
def Gl(X:Cx)(x:Str):Prop:=X.env.kindOf x=some .globalImplicit
theorem a5u{E:AA->AC->Prop}{pins:List (AB×Obj)}{s:AC}{σ:St}{H:Hp}{x:Str}{u:AA}{pos:Pos}{Q:AA->AC->Prop}(I:l8 X pins σ H s)(hg:Gl X x)(hm:X.mg x=some u)(h:Q u s)
 (hd:(x==("__debug__":Str))=false:=by decide):AI (model X.prog X.w) X.A (eval (.Name x pos) X.env) Q E s:=
 Calls.Name_function_global I.ok.kind hg (Calls.loadGlobal_global (by rw [I.ok.glob];exact I.mod.glob.keeps I.bk) hm h) hd
theorem b1N{E:AA->AC->Prop}{pins:List (AB×Obj)}{s:AC}{σ:St}{H:Hp}{x:Str}{u:AA}{pos:Pos}{Q:AA->AC->Prop}(I:l8 X pins σ H s)(hg:Gl X x)(hm:X.mg x=none)(hv:bootBuiltins x=some u)(h:Q u s)
 (hn:x≠"__name__":=by decide) (hd:(x==("__debug__":Str))=false:=by decide):AI (model X.prog X.w) X.A (eval (.Name x pos) X.env) Q E s:=by
 obtain⟨mb,h1,h2⟩:=I.mod.blt
 exact Calls.Name_function_global I.ok.kind hg (Calls.loadGlobal_builtin (by rw [I.ok.glob];exact I.mod.glob.keeps I.bk) hm (by rw [I.ok.blt];exact h1.keeps I.bk) ((h2 x hn).trans hv) h) hd
theorem b18{x:Str}{v:V}{u:AA}{pos:Pos}(hg:Gl X x)(hm:X.mg x=some u)(r:A4 v u)(hd:(x==("__debug__":Str))=false:=by decide):PE X (.Name x pos) (tC v):=
 fun _ _ _ H _ I h=>a5u I hg hm ⟨v,H,I,r,h⟩ hd
theorem a01{x:Str}{v:V}{u:AA}{pos:Pos}(hg:Gl X x)(hm:X.mg x=none)(hv:bootBuiltins x=some u)(r:A4 v u)(hn:x≠"__name__":=by decide)(hd:(x==("__debug__":Str))=false:=by decide):PE X (.Name x pos) (tC v):=
 fun _ _ _ H _ I h=>b1N I hg hm hv ⟨v,H,I,r,h⟩ hn hd
variable {a b:AF}{ta tb:TE}{pos:Pos}
variable {tA tB':TT}{C7:List AF}
def c22(t u:TT):TT:=fun σ H Q=>t σ H fun c H1=>if c=true then u σ H1 Q else Q false H1
def tOr(t u:TT):TT:=fun σ H Q=>t σ H fun c H1=>if c=true then Q true H1 else u σ H1 Q
def c27(t:TT):TT:=fun σ H Q=>t σ H fun c H1=>Q (!c) H1
theorem b9s(ha:PT X a tA):PW X (.BoolOp .And [a] pos) tA:=by
 intro wh pins s σ H Q I h
 refine isTrue_and (U5 (ha pins s σ H Q I h) fun c s1 e=> ?_)
 cases c with
 |true=>exact isTrue_and_nil e
 |false=>exact e
theorem c1o(ha:PT X a tA):PW X (.BoolOp .Or [a] pos) tA:=by
 intro wh pins s σ H Q I h
 refine isTrue_or (U5 (ha pins s σ H Q I h) fun c s1 e=> ?_)
 cases c with
 |false=>exact isTrue_or_nil e
 |true=>exact e
theorem c1n(ha:PT X a tA)(hb:PW X (.BoolOp .And (b::C7) pos) tB'):PW X (.BoolOp .And (a::b::C7) pos) (c22 tA tB'):=by
 intro wh pins s σ H Q I h
 refine isTrue_and (U5 (ha pins s σ H _ I h) fun c s1 ⟨H1,I1,q1⟩=> ?_)
 cases c with
 |true=>exact hb wh pins s1 σ H1 Q I1 q1
 |false=>exact⟨H1,I1,q1⟩
theorem c2h(ha:PT X a tA)(hb:PW X (.BoolOp .Or (b::C7) pos) tB'):PW X (.BoolOp .Or (a::b::C7) pos) (tOr tA tB'):=by
 intro wh pins s σ H Q I h
 refine isTrue_or (U5 (ha pins s σ H _ I h) fun c s1 ⟨H1,I1,q1⟩=> ?_)
 cases c with
 |true=>exact⟨H1,I1,q1⟩
 |false=>exact hb wh pins s1 σ H1 Q I1 q1
theorem c1m(ha:PT X a tA):PT X (.UnaryOp .Not a pos) (c27 tA):=by
 intro pins s σ H Q I h
 exact isTrue_not (ha pins s σ H (fun c H1=>Q (!c) H1) I h)
def c2o(ta tb:TE):TE:=fun σ H Q=>ta σ H fun x H1=>∃c,x= .bl c/\if c=true then tb σ H1 Q else Q (.bl false) H1
def c2t(ta:TE):TE:=fun σ H Q=>ta σ H fun x H1=>∃c,x= .bl c/\Q (.bl (!c)) H1
theorem c1e{op}{t:TE}(h:PE X a t):PE X (.BoolOp op [a] pos) t:=fun pins s σ H Q I hw=>BoolOp_one (h pins s σ H Q I hw)
theorem c09(ha:PE X a ta)(hb:PE X (.BoolOp .And (b::C7) pos) tb):PE X (.BoolOp .And (a::b::C7) pos) (c2o ta tb):=by
 intro pins s σ H Q I h
 refine BoolOp_and (U5 (ha pins s σ H _ I h) fun v s1 ⟨x,H1,I1,r1,q1⟩=> ?_)
 obtain⟨c,rfl,q1⟩:=q1
 cases r1
 refine wpAny_truthy_bool ?_
 cases c with
 |true=>exact hb pins s1 σ H1 Q I1 q1
 |false=>exact⟨.bl false,H1,I1,rfl,q1⟩
theorem c1d(ha:PE X a ta):PE X (.UnaryOp .Not a pos) (c2t ta):=by
 intro pins s σ H Q I h
 refine UnaryOp_ (U5 (ha pins s σ H _ I h) fun v s1 ⟨x,H1,I1,r1,q1⟩=> ?_)
 obtain⟨c,rfl,q1⟩:=q1
 cases r1
 exact not_of (wpAny_truthy_bool ⟨.bl (!c),H1,I1,rfl,q1⟩)
def tIf(t:TT)(ta tb:TE):TE:=fun σ H Q=>t σ H fun c H1=>if c=true then ta σ H1 Q else tb σ H1 Q
theorem b7I{c:AF}(hc:PT X c tA)(ha:PE X a ta)(hb:PE X b tb):PE X (.IfExp c a b pos) (tIf tA ta tb):=by
 intro pins s σ H Q I h
 refine wpAny_IfExp (U5 (hc pins s σ H _ I h) fun d s1 ⟨H1,I1,q1⟩=> ?_)
 cases d with
 |true=>exact ha pins s1 σ H1 Q I1 q1
 |false=>exact hb pins s1 σ H1 Q I1 q1
end
def SqL(K:AE)(H:Hp)(a:AB)(xs:List V):Prop:=
 Rd H a (.lst xs)\/
  ∃(o:Obj) (its:Array AA) (n:Nat),K.lookup a=some o/\o.cls= .type "list"/\o.dict=none/\o.data= .seq its n/\its.size<=AU/\t7 xs its.toList
def SqT(K:AE)(H:Hp)(a:AB)(xs:List V):Prop:=
 Rd H a (.tup xs)\/
  ∃(o:Obj) (its:Array AA) (n:Nat),K.lookup a=some o/\o.cls= .type "tuple"/\o.data= .seq its n/\its.size<=AU/\t7 xs its.toList
def c2H:AA->Option V
 | .none=>some .non
 | .bool b=>some (.bl b)
 | .int i _=>some (.int i)
 | .str x _=>some (.str x)
 | .bytes b _=>some (.byt b)
 | .float b _=>some (.flt b)
 | .ref a=>some (.ref a)
 | .type n=>some (.ty n)
 |_=>none
theorem A4.abs{x:V}{u:AA}(r:A4 x u):c2H u=some x:=by
 cases x with
 |non=>cases r;rfl
 |bl _=>cases r;rfl
 |int _=>obtain⟨t,rfl⟩:=r;rfl
 |str _=>obtain⟨t,rfl⟩:=r;rfl
 |byt _=>obtain⟨t,rfl⟩:=r;rfl
 |flt _=>obtain⟨t,rfl⟩:=r;rfl
 |ref _=>cases r;rfl
 |ty _=>cases r;rfl
theorem A4.inj{x y:V}{u:AA}(r:A4 x u)(q:A4 y u):x=y:=Option.some.inj (r.abs.symm.trans q.abs)
theorem t7.inj:∀{xs ys:List V} {us:List AA},t7 xs us->t7 ys us->xs=ys
 |_,_,_,.nil,.nil=>rfl
 |_,_,_,.cons r t,.cons r' t'=>by rw [r.inj r',t7.inj t t']
section
variable {X:Cx}{pins:List (AB×Obj)}{σ:St}{H:Hp}{s:AC}{a:AB}{xs ys:List V}
theorem SqL.of{K:AE}(h:H a=some (.lst xs)):SqL K H a xs:= .inl (.inl h)
theorem SqT.of{K:AE}(h:H a=some (.tup xs)):SqT K H a xs:= .inl (.inl h)
theorem l8.list(I:l8 X pins σ H s)(h:SqL X.K H a xs):∃its:List AA,t7 xs its/\PlainL s.heap a its.toArray/\xs.length<=AU:=by
 rcases h with h|⟨o,its,n,hk,hc,hd,hs,hz,r⟩
 ·obtain⟨z,its,n,r,e⟩:=h.ok I.hok
  exact⟨its,r,⟨_,n,e,rfl,rfl,rfl⟩,z⟩
 ·refine⟨its.toList,r,⟨o,n,I.kIn a o hk,hc,hd,by simpa using hs⟩, ?_⟩
  have e:=r.length
  simp only [Array.length_toList] at e
  lia
theorem l8.tuple(I:l8 X pins σ H s)(h:SqT X.K H a xs):∃its:List AA,t7 xs its/\IsTup s.heap a its.toArray/\xs.length<=AU:=by
 rcases h with h|⟨o,its,n,hk,hc,hs,hz,r⟩
 ·obtain⟨z,its,r,p⟩:=h.ok I.hok
  exact⟨its,r,p,z⟩
 ·refine⟨its.toList,r,⟨o,I.kIn a o hk,hc,n,by simpa using hs⟩, ?_⟩
  have e:=r.length
  simp only [Array.length_toList] at e
  lia
theorem l8.list_inj(I:l8 X pins σ H s)(h:SqL X.K H a xs)(h':SqL X.K H a ys):xs=ys:=by
 obtain⟨its,r,⟨o,n,e,_,_,d⟩,_⟩:=I.list h
 obtain⟨its',r',⟨o',n',e',_,_,d'⟩,_⟩:=I.list h'
 rw [e] at e';cases e'
 rw [d] at d'
 injection d' with d1 _
 have:its=its':=by simpa using congrArg Array.toList d1
 subst this
 exact r.inj r'
theorem l8.tuple_inj(I:l8 X pins σ H s)(h:SqT X.K H a xs)(h':SqT X.K H a ys):xs=ys:=by
 obtain⟨its,r,⟨o,e,_,n,d⟩,_⟩:=I.tuple h
 obtain⟨its',r',⟨o',e',_,n',d'⟩,_⟩:=I.tuple h'
 rw [e] at e';cases e'
 rw [d] at d'
 injection d' with d1 _
 have:its=its':=by simpa using congrArg Array.toList d1
 subst this
 exact r.inj r'
end
abbrev Cx.wish(X:Cx)(E:AA->AC->Prop):Cx:={X with xe:=E}
abbrev Cx.nox(X:Cx):Cx:=X.wish fun _ _=>False
theorem Cx.Ok.wish{X:Cx}(ok:X.Ok)(E:AA->AC->Prop):(X.wish E).Ok:=
 ⟨ok.mod,ok.kind,ok.glob,ok.blt,ok.above,ok.inj,ok.has,ok.cab,ok.hd,ok.frames,ok.stk,ok.exf,ok.bs,ok.bsz,ok.noex,ok.exfs,ok.funs,ok.frf⟩
theorem Cx.Ok.unwish{X:Cx}{E:AA->AC->Prop}(ok:(X.wish E).Ok):X.Ok:=
 ⟨ok.mod,ok.kind,ok.glob,ok.blt,ok.above,ok.inj,ok.has,ok.cab,ok.hd,ok.frames,ok.stk,ok.exf,ok.bs,ok.bsz,ok.noex,ok.exfs,ok.funs,ok.frf⟩
section
variable {X:Cx}{pins:List (AB×Obj)}{σ:St}{H:Hp}{s:AC}{E:AA->AC->Prop}
theorem l8.wish(I:l8 X pins σ H s)(E:AA->AC->Prop):l8 (X.wish E) pins σ H s:=⟨I.ok.wish E,I.os,I.bare,I.base,I.loc,I.cell,I.free,I.freeC,I.pin,I.hok,I.len⟩
theorem l8.unwish(I:l8 (X.wish E) pins σ H s):l8 X pins σ H s:=⟨I.ok.unwish,I.os,I.bare,I.base,I.loc,I.cell,I.free,I.freeC,I.pin,I.hok,I.len⟩
theorem SP.unwish{D:a0w}{f:Flow}{s':AC}(h:SP (X.wish E) pins D f s'):SP X pins D f s':=by
 cases f with
 |next=>obtain⟨σ',H',I,q⟩:=h;exact⟨σ',H',I.unwish,q⟩
 |brk=>obtain⟨σ',H',I,q⟩:=h;exact⟨σ',H',I.unwish,q⟩
 |cont=>obtain⟨σ',H',I,q⟩:=h;exact⟨σ',H',I.unwish,q⟩
 |ret u=>obtain⟨v,σ',H',I,r,q⟩:=h;exact⟨v,σ',H',I.unwish,r,q⟩
theorem PE.nox{e:AF}{t:TE}(h:PE X.nox e t):PE X e t:=fun pins s σ H Q I hw=>
 wpAny_mono (h pins s σ H Q (I.wish _) hw) (fun _ _ ⟨v,H',I',r,q⟩=>⟨v,H',I'.unwish,r,q⟩) fun _ _ z=>False.elim z
theorem PT.nox{e:AF}{t:TT}(h:PT X.nox e t):PT X e t:=fun pins s σ H Q I hw=>
 wpAny_mono (h pins s σ H Q (I.wish _) hw) (fun _ _ ⟨H',I',q⟩=>⟨H',I'.unwish,q⟩) fun _ _ z=>False.elim z
theorem PSs.nox{st:List Stmt}{t:TS}(h:PSs X.nox st t):PSs X st t:=fun pins s σ H D I hw=>
 wpAny_mono (h pins s σ H D (I.wish _) hw) (fun _ _ q=>q.unwish) fun _ _ z=>False.elim z
end
section
variable {X:Cx}{st:Stmt}{C7:List Stmt}{t u:TS}{e:AF}{te:TE}{pos:Pos}
def c2s:TS:=fun D σ H=>D.nx σ H
def c29(t u:TS):TS:=fun D σ H=>t {D with nx:=u D} σ H
theorem b9q:PSs X [] c2s:=fun _ _ σ H _ I h=>wpAny_execs_nil ⟨σ,H,I,h⟩
theorem b3j(h1:PS X st t)(h2:PSs X C7 u):PSs X (st::C7) (c29 t u):=by
 intro pins s σ H D I h
 refine wpAny_execs_cons (U5 (h1 pins s σ H {D with nx:=u D} I h) fun f s1 q=> ?_)
 cases f with
 |next=>
  obtain⟨σ',H',I',q⟩:=q
  exact h2 pins s1 σ' H' D I' q
 |ret v=>exact q
 |brk=>exact q
 |cont=>exact q
theorem b5k(h1:PS X st t):PSs X [st] t:=by
 intro pins s σ H D I h
 refine wpAny_execs_cons (U5 (h1 pins s σ H D I h) fun f s1 q=> ?_)
 cases f with
 |next=>exact wpAny_execs_nil q
 |ret v=>exact q
 |brk=>exact q
 |cont=>exact q
theorem l8.quiet{pins:List (AB×Obj)}{σ:St}{H:Hp}{s:AC}(I:l8 X pins σ H s):interactive X.env=false:=by simp [interactive,I.ok.kind]
def c2r(te:TE):TS:=fun D σ H=>te σ H fun _ H1=>D.nx σ H1
theorem b19(he:PE X e te)(hs:swapsWith e none pos.line X.env=pure false:=by rfl):PS X (.Expr e pos) (c2r te):=by
 intro pins s σ H D I h
 exact wpAny_Expr_any (U5 (he pins s σ H _ I h) fun v s1 ⟨x,H1,I1,r1,q1⟩=>⟨σ,H1,I1,q1⟩) I.quiet hs
def c28(te:TE):TS:=fun D σ H=>te σ H D.rt
theorem b7O(he:PE X e te):PS X (.Return (some e) pos) (c28 te):=by
 intro pins s σ H D I h
 exact wpAny_Return_some (U5 (he pins s σ H _ I h) fun v s1 ⟨x,H1,I1,r1,q1⟩=>⟨x,σ,H1,I1,r1,q1⟩)
def c25(c:TT)(t u:TS):TS:=fun D σ H=>c σ H fun b H1=>if b=true then t D σ H1 else u D σ H1
theorem b96{c:AF}{a b:List Stmt}{tc:TT}(hc:PT X c tc)(ha:PSs X a t)(hb:PSs X b u):PS X (.If c a b pos) (c25 tc t u):=by
 intro pins s σ H D I h
 refine wpAny_If (U5 (hc pins s σ H _ I h) fun d s1 ⟨H1,I1,q1⟩=> ?_)
 cases d with
 |true=>exact ha pins s1 σ H1 D I1 q1
 |false=>exact hb pins s1 σ H1 D I1 q1
end
abbrev TG:=V->St->Hp->(St->Hp->Prop)->Prop
abbrev TGs:=List V->St->Hp->(St->Hp->Prop)->Prop
def PG(X:Cx)(target:AF)(t:TG):Prop:=
 ∀(pins:List (AB×Obj)) (s:AC) (σ:St) (H:Hp) (v:V) (u:AA) (Q:St->Hp->Prop),l8 X pins σ H s->A4 v u->t v σ H Q->
  AI (model X.prog X.w) X.A (assign target X.env u) (fun _ s'=>∃σ' H',l8 X pins σ' H' s'/\Q σ' H') X.xe s
def PGs(X:Cx)(ts:List AF)(t:TGs):Prop:=
 ∀(pins:List (AB×Obj)) (s:AC) (σ:St) (H:Hp) (vs:List V) (us:List AA) (Q:St->Hp->Prop),l8 X pins σ H s->t7 vs us->t vs σ H Q->
  AI (model X.prog X.w) X.A (assignInOrder ((assignEach ts X.env).map (·.2)) us) (fun _ s'=>∃σ' H',l8 X pins σ' H' s'/\Q σ' H') X.xe s
abbrev c0j:=V->V->V->Hp->(Hp->Prop)->Prop
def c1H(X:Cx)(t:c0j):Prop:=
 ∀(pins:List (AB×Obj)) (s:AC) (σ:St) (H:Hp) (o i v:V) (ov iv u:AA) (Q:Hp->Prop),l8 X pins σ H s->A4 o ov->A4 i iv->A4 v u->t o i v H Q->
  AI (model X.prog X.w) X.A (setItem ov iv u) (fun _ s'=>∃H',l8 X pins σ H' s'/\Q H') X.xe s
abbrev TIp:=V->V->Hp->VK->Prop
def PIp(X:Cx)(op:Operator)(t:TIp):Prop:=
 ∀(pins:List (AB×Obj)) (s:AC) (σ:St) (H:Hp) (x y:V) (v u:AA) (Q:VK),l8 X pins σ H s->A4 x v->A4 y u->t x y H Q->
  AI (model X.prog X.w) X.A (inplaceOp op v u) (EP X pins σ Q) X.xe s
section
variable {X:Cx}{pos:Pos}
def b2P(i:Nat):TG:=fun v σ H Q=>Q (σ.set i (some v)) H
theorem u6{i:Nat}{x:Str}(hN:X.N.Nodup)(hi:X.N[i]?=some x)(hx:Loc X.env.scope x)(hf:X.fn x=true\/X.env.scope.names.lookup x=some .local:=by first|exact .inl rfl|exact .inr rfl|assumption):PG X (.Name x pos) (b2P i):=by
 intro pins s σ H v u Q I r h
 exact wpAny_assign_Name (a7f I hN hi hx r (fun s' I'=>⟨_,H,I',h⟩) hf)
def c1W:TGs:=fun vs σ H Q=>vs=[]/\Q σ H
def b91(t:TG)(u:TGs):TGs:=fun vs σ H Q=>∃v r,vs=v::r/\t v σ H fun σ' H'=>u r σ' H' Q
theorem b5j:PGs X [] c1W:=by
 intro pins s σ H vs us Q I r h
 obtain⟨e,h⟩:=h
 subst e
 cases r
 exact assignInOrder_nil ⟨σ,H,I,h⟩
theorem a6Z{e:AF}{es:List AF}{t:TG}{u:TGs}(h1:PG X e t)(h2:PGs X es u)
 (hs:(assignEach (e::es) X.env).map (·.2)=assign e X.env::(assignEach es X.env).map (·.2):=by rfl):PGs X (e::es) (b91 t u):=by
 intro pins s σ H vs us Q I r h
 obtain⟨v,vr,e1,h⟩:=h
 subst e1
 cases r with
 |cons r rr=>
  rw [hs]
  refine assignInOrder_cons (U5 (h1 pins s σ H _ _ _ I r h) fun _ s1 ⟨σ1,H1,I1,q1⟩=> ?_)
  exact h2 pins s1 σ1 H1 _ _ Q I1 rr q1
def c2L(K:AE)(n:Nat)(t:TGs):TG:=fun v σ H Q=>∃a xs,v= .ref a/\SqT K H a xs/\xs.length=n/\t xs σ H Q
theorem c1j{es:List AF}{k:Nat}{t:TGs}{n:Nat}(hc:X.calm=true)(h:PGs X es t)
 (hn:(assignEach es X.env).length=n:=by rfl) (hst:(assignEach es X.env).findIdx? (·.1)=none:=by rfl):PG X (.Tuple es k pos) (c2L X.K n t):=by
 intro pins s σ H v u Q I r hw
 obtain⟨a,xs,e1,hq,hl,hw⟩:=hw
 subst e1
 cases r
 obtain⟨its,rv,ht,hz⟩:=I.tuple hq
 refine assign_Tuple_tuple (I.ok.hd hc) ht (by simp [hn,<-hl,rv.length]) hst fun h' hx=> ?_
 have I1:l8 X pins σ H {s with heap:=h'}:=I.kept (t':=s.toks) fun b o e=>hx b o (Ar (Ag e)) e
 exact h pins _ σ H xs _ Q I1 (by simpa using rv) hw
def c2K(to ti:TE)(t:c0j):TG:=fun v σ H Q=>to σ H fun o H1=>ti σ H1 fun i H2=>t o i v H2 fun H3=>Q σ H3
theorem c1i{o i:AF}{to ti:TE}{t:c0j}(ho:PE X o to)(hi:PE X i ti)(hs:c1H X t)
 (ha:∀v,assign (.Subscript o i pos) X.env v=(do
  let ov<-holding [v] (eval o X.env)
  let iv<-holding [v,ov] (eval i X.env)
  standAt pos
  holding [v,ov,iv] (setItem ov iv v)
  release [v,ov,iv] []):=by intro _;rfl):PG X (.Subscript o i pos) (c2K to ti t):=by
 intro pins s σ H v u Q I r h
 rw [ha]
 refine AG (wpAny_holding (U5 (ho pins s σ H _ I h) fun ov s1 ⟨x,H1,I1,r1,q1⟩=> ?_))
 refine AG (wpAny_holding (U5 (hi pins s1 σ H1 _ I1 q1) fun iv s2 ⟨y,H2,I2,r2,q2⟩=> ?_))
 refine AG (wpAny_standAt (AG (wpAny_holding (U5 (hs pins s2 σ H2 x y v ov iv u _ I2 r1 r2 r q2) fun _ s3 ⟨H3,I3,q3⟩=> ?_))))
 exact wpAny_release ⟨σ,H3,I3,q3⟩
def c2p(te:TE)(g:TG):TS:=fun D σ H=>te σ H fun x H1=>g x σ H1 D.nx
theorem b7M{tg e:AF}{te:TE}{g:TG}(he:PE X e te)(hg:PG X tg g)(hs:swapsWithSole [tg] e pos.line X.env=pure false:=by rfl)(hw:swappedStores [tg] e X.env=pure none:=by rfl)
 (h1:(assignEach [tg] X.env).map (·.2)=[assign tg X.env]:=by rfl):PS X (.Assign [tg] e pos) (c2p te g):=by
 intro pins s σ H D I h
 refine wpAny_Assign_stores (U5 (he pins s σ H _ I h) fun v s1 ⟨x,H1,I1,r1,q1⟩=> ?_) hs hw
 rw [h1]
 exact U5 (hg pins s1 σ H1 x v _ I1 r1 q1) fun _ s2 q=>q
theorem b7P{i:Nat}{x:Str}{e:AF}{te:TE}{pos':Pos}(hN:X.N.Nodup)(hi:X.N[i]?=some x)(hx:Loc X.env.scope x)(he:PE X e te)(hs:swapsWith e (some (.Name x pos')) pos.line X.env=pure false:=by rfl)(hf:X.fn x=true\/X.env.scope.names.lookup x=some .local:=by first|exact .inl rfl|exact .inr rfl|assumption):
 PS X (.Assign [.Name x pos'] e pos) (c2p te (b2P i)):=by
 intro pins s σ H D I h
 refine wpAny_Assign_Name (U5 (he pins s σ H _ I h) fun v s1 ⟨y,H1,I1,r1,q1⟩=> ?_) hs
 exact a7f I1 hN hi hx r1 (fun s2 I2=>⟨_,H1,I2,q1⟩) hf
def c23(i:Nat)(te:TE)(ti:TIp):TS:=fun D σ H=>∃x,σ[i]?=some (some x)/\te σ H fun y H1=>ti x y H1 fun z H2=>D.nx (σ.set i (some z)) H2
theorem c1l{i:Nat}{x:Str}{e:AF}{te:TE}{op:Operator}{ti:TIp}{pos':Pos}(hN:X.N.Nodup)(hi:X.N[i]?=some x)(hx:Loc X.env.scope x)(he:PE X e te)(ho:PIp X op ti)(hf:X.fn x=true\/X.env.scope.names.lookup x=some .local:=by first|exact .inl rfl|exact .inr rfl|assumption):
 PS X (.AugAssign (.Name x pos') op e pos) (c23 i te ti):=by
 intro pins s σ H D I h
 obtain⟨v,e1,h⟩:=h
 obtain⟨m,hn,hl⟩:=I.loc
 have vis:Vis X.env.scope x:=by rcases hx with k|k;exact .inl k;exact .inr (.inl k)
 obtain⟨u,r,l⟩:=hl i x v hi e1 vis
 refine wpAny_AugAssign_Name ?_
 have go:AI (model X.prog X.w) X.A (eval e X.env) (fun w s₂=>AI (model X.prog X.w) X.A (inplaceOp op u w) (fun r s₃=>AI (model X.prog X.w) X.A (storeName X.env x r) (fun _=>SP X pins D .next) X.xe s₃) X.xe s₂) X.xe s:=by
  refine U5 (he pins s σ H _ I h) fun w s1 ⟨y,H1,I1,r1,q1⟩=> ?_
  refine U5 (ho pins s1 σ H1 v y u w _ I1 r r1 q1) fun z s2 ⟨zv,H2,I2,r2,q2⟩=> ?_
  exact a7f I2 hN hi hx r2 (fun s3 I3=>⟨_,H2,I3,q2⟩) hf
 rcases l with⟨hk,hm⟩|⟨hk,c,hc,hcell⟩
 ·exact wpAny_loadName_local I.ok.kind hk hn hm go
 ·rcases hk with hk|hk
  ·exact wpAny_loadName_cell I.ok.kind hk hc hcell go
  ·rcases hx with k|k
   ·have:X.env.scope.names.lookup x=some .free:=hk
    rw [k] at this;cases this
   ·have:X.env.scope.names.lookup x=some .free:=hk
    rw [k] at this;cases this
end
section
variable {X:Cx}{pos:Pos}
def c1w(c:TT)(tb:TS):TS:=fun D σ H=>∃W:Nat->St->Hp->Prop,(∃m,W m σ H)/\∀m σ H,W m σ H->
 c σ H fun b H1=>if b=true then ∃N:St->Hp->Prop,(∀σ' H',N σ' H'->∃m',m'<m/\W m' σ' H')/\tb {D with nx:=N,ct:=N,bk:=D.nx} σ H1 else D.nx σ H1
theorem b7R{c:AF}{body:List Stmt}{tc:TT}{tb:TS}(hp:PassesOwn (model X.prog X.w) X.A X.env X.xe)(hc:PT X c tc)(hb:PSs X body tb):PS X (.While c body [] pos) (c1w tc tb):=by
 intro pins s σ H D I h
 obtain⟨W,⟨m0,w0⟩,turn⟩:=h
 refine wpAny_While (codeAny_whileLoop (fun n s'=>∃σ' H',l8 X pins σ' H' s'/\W n σ' H') ?_ m0 ⟨σ,H,I,w0⟩)
 rintro n s1 ⟨σ1,H1,I1,w1⟩
 refine wpAny_passesOwn hp (U5 (hc pins s1 σ1 H1 _ I1 (turn n σ1 H1 w1)) fun b s2 ⟨H2,I2,q2⟩=> ?_)
 cases b with
 |true=>
  obtain⟨N,hN,q2⟩:=q2
  rw [if_pos rfl]
  refine wpAny_passesOwn hp (U5 (hb pins s2 σ1 H2 _ I2 q2) fun f s3 q3=> ?_)
  cases f with
  |next=>
   obtain⟨σ3,H3,I3,n3⟩:=q3
   obtain⟨m',hm,w3⟩:=hN σ3 H3 n3
   exact⟨m',hm,σ3,H3,I3,w3⟩
  |cont=>
   obtain⟨σ3,H3,I3,n3⟩:=q3
   obtain⟨m',hm,w3⟩:=hN σ3 H3 n3
   exact⟨m',hm,σ3,H3,I3,w3⟩
  |brk=>exact q3
  |ret v=>exact q3
 |false=>
  rw [if_neg Ao]
  exact wpAny_execs_nil ⟨σ1,H2,I2,q2⟩
end
structure It where
 go:Nat->Hp->Prop
 yld:Nat->Hp->V->Hp->Prop
 stop:Nat->Hp->Prop
def a7r(X:Cx)(pins:List (AB×Obj))(H:Hp)(b:AB):Prop:=
 H b=none/\b≠X.env.locals/\b∉X.fs/\(b∈X.ex\/X.s₀.heap.objs.size<=b)/\(∀x c,X.env.cells.lookup x=some c->c≠b)/\∀p∈X.pn++pins,p.1≠b
theorem l8.fpOk{X:Cx}{pins:List (AB×Obj)}{σ:St}{H H':Hp}{s:AC}{b:AB}(I:l8 X pins σ H s)(hb:s.heap.objs.size<=b)(hn:H' b=none):a7r X pins H' b:=by
 refine⟨hn,Nat.ne_of_gt (Aq I.lt hb),I.nofs hb,.inr (Nat.le_trans I.sz hb),fun x c e z=> ?_,fun p hp z=> ?_⟩
 ·obtain⟨v,q⟩:=I.cell x c e
  exact absurd (Aq q.lt (by rw [z];exact hb)) (Nat.lt_irrefl _)
 ·exact absurd (Aq (Ag (I.pin p hp).1) (by rw [z];exact hb)) (Nat.lt_irrefl _)
structure b5F(P:AK)(w:AJ)(K:AE)(tg:AF)(J:It)(fp:List AB)(it:AB)(tn:Nat->Heap->Prop):Prop where
 mem:it∈fp
 obj:∀i h,tn i h->∀b∈fp,∃o,h.get? b=some o/\∀v,o.data≠.cell v
 keep:∀i h h',tn i h->(∀b∈fp,∀o,h.get? b=some o->h'.get? b=some o)->tn i h'
 item:∀(X:Cx),X.prog=P->X.w=w->X.K=K->X.calm=true->∀(i:Nat) (pins:List (AB×Obj)) (s:AC) (σ:St) (H:Hp) (E:AA->AC->Prop),l8 X pins σ H s->(∀b∈fp,a7r X pins H b)->tn i s.heap->J.go i H->
  AI (model P w) X.A (pyNext (.ref it)) (fun r s1=>∃u,r=some u/\
   AI (model P w) X.A (letOwnedTupleGo tg (.ref it) u) (fun _ s2=>∃x H',l8 X pins σ H' s2/\A4 x u/\J.yld i H x H'/\tn (i+1) s2.heap/\∀b∈fp,H' b=none) E s1) E s
 done:∀(X:Cx),X.prog=P->X.w=w->X.K=K->X.calm=true->∀(i:Nat) (pins:List (AB×Obj)) (s:AC) (σ:St) (H:Hp) (E:AA->AC->Prop),l8 X pins σ H s->(∀b∈fp,a7r X pins H b)->tn i s.heap->J.stop i H->
   AI (model P w) X.A (pyNext (.ref it)) (fun r s1=>r=none/\l8 X pins σ H s1) E s
 self:∀(A:AL) (i:Nat) (s:AC) (Q:AA->AC->Prop) (E:AA->AC->Prop),tn i s.heap->Q (.ref it) s->AI (model P w) A (pyIter (.ref it)) Q E s
abbrev TI:=St->Hp->(It->Hp->Prop)->Prop
def PIE(X:Cx)(pins:List (AB×Obj))(σ:St)(tg:AF)(R:It->Hp->Prop)(itv:AA)(s2:AC):Prop:=
 ∃(it:AB) (fp:List AB) (tn:Nat->Heap->Prop) (J:It) (H':Hp),itv= .ref it/\l8 X pins σ H' s2/\b5F X.prog X.w X.K tg J fp it tn/\tn 0 s2.heap/\(∀b∈fp,a7r X pins H' b)/\R J H'
def PI(X:Cx)(tg iter:AF)(wi:TI):Prop:=
 ∀(pins:List (AB×Obj)) (s:AC) (σ:St) (H:Hp) (R:It->Hp->Prop),l8 X pins σ H s->wi σ H R->
  AI (model X.prog X.w) X.A (eval iter X.env) (fun v s1=>AI (model X.prog X.w) X.A (pyIter v) (PIE X pins σ tg R) X.xe s1) X.xe s
theorem b4Z{M:Model}{A:AL}{E:AA->AC->Prop}{s:AC}{tg:AF}{it:AB}{u:AA}{o:Obj}{n:String}{vs:Array AA}{Q:Unit->AC->Prop}(ho:s.heap.get? it=some o)(hc:o.cls= .type n)(hd:o.data= .fields vs)
 (hn:["enumerate","zip","dict_itemiterator","dict_reverseitemiterator","odict_iterator","itertools.zip_longest","itertools.pairwise"].contains n=false) (hQ:Q () s):AI M A (letOwnedTupleGo tg (.ref it) u) Q E s:=by
 unfold letOwnedTupleGo
 cases tg<;>first
  |exact Aa hQ
  |(cases u<;>first
   |exact Aa hQ
   |(refine AG (wpAny_load ho ?_)
     rw [hc,hd]
     show AI M A (if(["enumerate","zip","dict_itemiterator","dict_reverseitemiterator","odict_iterator","itertools.zip_longest","itertools.pairwise"].contains n && vs[0]?==some (rawInt _))=true then _ else _) Q E s
     rw [if_neg (by intro h;rw [hn,Bool.false_and] at h;cases h)]
     exact Aa hQ))
def Itl(K:AE)(a:AB):It:=
 ⟨fun i H=>∃xs x,SqL K H a xs/\xs[i]?=some x,fun i H x H'=>H'=H/\∀xs,SqL K H a xs->xs[i]?=some x,fun i H=>∃xs,SqL K H a xs/\xs.length<=i⟩
def Itt(K:AE)(a:AB):It:=
 ⟨fun i H=>∃xs x,SqT K H a xs/\xs[i]?=some x,fun i H x H'=>H'=H/\∀xs,SqT K H a xs->xs[i]?=some x,fun i H=>∃xs,SqT K H a xs/\xs.length<=i⟩
def Itr(lo:Int)(n:Nat):It:=⟨fun i _=>i<n,fun i H x H'=>H'=H/\x= .int (lo+i),fun i _=>n<=i⟩
theorem b6m{P:AK}{w:AJ}{K:AE}{tg:AF}(a it:AB):b5F P w K tg (Itl K a) [it] it (fun i h=>h.IsListIter it a i) where
 mem:=by simp
 obj:=fun i h st b hb=>by
  have e:b=it:=by simpa using hb
  subst e
  obtain⟨o,e,c,d⟩:=st
  exact⟨o,e,fun v z=>by rw [d] at z;cases z⟩
 keep:=fun i h h' st k=>st.at fun o e=>k it (by simp) o e
 item:=by
  intro X hP hw hK hc i pins s σ H E I hf st hg
  subst hP hw hK
  obtain⟨xs,x,hq,hx⟩:=hg
  obtain⟨its,rv,p,hz⟩:=I.list hq
  obtain⟨u,hu,ru⟩:=rv.get hx
  obtain⟨f0,f1,f2,f3,f4,f5⟩:=hf it (by simp)
  refine wpAny_pyNext_list_item st p.isList (x:=u) (by simpa using hu) fun h' st' sb=> ?_
  have I1:l8 X pins σ H {s with heap:=h'}:=I.turned (t':=s.toks) (fun b o hb e=>(sb.2 b hb).trans e) f0 f1 f3 f4 f5
  obtain⟨o,e,c,d⟩:=id st'
  exact⟨u,rfl,b4Z (s:={s with heap:=h'}) e c d (by decide) ⟨x,H,I1,ru,⟨rfl,fun ys hy=>by rw [I.list_inj hy hq];exact hx⟩,st',fun b hb=>(hf b hb).1⟩⟩
 done:=by
   intro X hP hw hK hc i pins s σ H E I hf st hg
   subst hP hw hK
   obtain⟨xs,hq,hx⟩:=hg
   obtain⟨its,rv,p,hz⟩:=I.list hq
   obtain⟨f0,f1,f2,f3,f4,f5⟩:=hf it (by simp)
   have hl:=rv.length
   exact wpAny_pyNext_list_end (I.ok.hd hc) st p.isList (by simp;lia) fun h' eb=>⟨rfl,I.turned (t':=s.toks) (fun b o hb e=>eb b o hb e) f0 f1 f3 f4 f5⟩
 self:=fun _ _ _ _ _ st h=>wpAny_pyIter_listiter st h
theorem b4y{P:AK}{w:AJ}{K:AE}{tg:AF}(a it:AB):b5F P w K tg (Itt K a) [it] it (fun i h=>h.IsTupleIter it a i) where
 mem:=by simp
 obj:=fun i h st b hb=>by
  have e:b=it:=by simpa using hb
  subst e
  obtain⟨o,e,c,d⟩:=st
  exact⟨o,e,fun v z=>by rw [d] at z;cases z⟩
 keep:=fun i h h' st k=>st.at fun o e=>k it (by simp) o e
 item:=by
  intro X hP hw hK hc i pins s σ H E I hf st hg
  subst hP hw hK
  obtain⟨xs,x,hq,hx⟩:=hg
  obtain⟨its,rv,p,hz⟩:=I.tuple hq
  obtain⟨u,hu,ru⟩:=rv.get hx
  obtain⟨f0,f1,f2,f3,f4,f5⟩:=hf it (by simp)
  refine wpAny_pyNext_tuple_item st (show s.heap.IsTuple a its.toArray from p) (x:=u) (by simpa using hu) fun h' st' sb=> ?_
  have I1:l8 X pins σ H {s with heap:=h'}:=I.turned (t':=s.toks) (fun b o hb e=>(sb.2 b hb).trans e) f0 f1 f3 f4 f5
  obtain⟨o,e,c,d⟩:=id st'
  exact⟨u,rfl,b4Z (s:={s with heap:=h'}) e c d (by decide) ⟨x,H,I1,ru,⟨rfl,fun ys hy=>by rw [I.tuple_inj hy hq];exact hx⟩,st',fun b hb=>(hf b hb).1⟩⟩
 done:=by
   intro X hP hw hK hc i pins s σ H E I hf st hg
   subst hP hw hK
   obtain⟨xs,hq,hx⟩:=hg
   obtain⟨its,rv,p,hz⟩:=I.tuple hq
   obtain⟨f0,f1,f2,f3,f4,f5⟩:=hf it (by simp)
   have hl:=rv.length
   exact wpAny_pyNext_tuple_end (I.ok.hd hc) st (show s.heap.IsTuple a its.toArray from p) (by simp;lia) fun h' eb=>⟨rfl,I.turned (t':=s.toks) (fun b o hb e=>eb b o hb e) f0 f1 f3 f4 f5⟩
 self:=fun _ _ _ _ _ st h=>wpAny_pyIter_tupleiter st h
theorem b4x{P:AK}{w:AJ}{K:AE}{tg:AF}(it:AB)(lo:Int)(n:Nat):b5F P w K tg (Itr lo n) [it] it (fun i h=>IsRangeIter h it (lo+(i:Nat)*1) ((n:Int) - (i:Nat)) 1) where
 mem:=by simp
 obj:=fun i h st b hb=>by
  have e:b=it:=by simpa using hb
  subst e
  exact⟨_,st,fun v z=>by
   have z':Data.fields _=Data.cell v:=z
   cases z'⟩
 keep:=fun i h h' st k=>k it (by simp) _ st
 item:=by
  intro X hP hw hK hc i pins s σ H E I hf st hg
  subst hP hw hK
  obtain⟨f0,f1,f2,f3,f4,f5⟩:=hf it (by simp)
  have W:=Walks.range (prog:=X.prog) (w:=X.w) (I.ok.hd hc) it lo 1 n
  refine W.item i s _ _ hg st fun v h' tk hv st' kk=> ?_
  obtain⟨t,rfl⟩:=hv
  have I1:l8 X pins σ H {s with heap:=h',toks:=tk}:=I.turned (fun b o hb e=>kk b o (by simpa using hb) e) f0 f1 f3 f4 f5
  refine⟨_,rfl,b4Z (s:={s with heap:=h',toks:=tk}) (n:="range_iterator") st' rfl rfl (by decide) ⟨.int (lo+i),H,I1,⟨t, ?_⟩,⟨rfl,rfl⟩,st',fun b hb=>(hf b hb).1⟩⟩
  rw [Int.mul_one]
 done:=by
   intro X hP hw hK hc i pins s σ H E I hf st hg
   subst hP hw hK
   obtain⟨f0,f1,f2,f3,f4,f5⟩:=hf it (by simp)
   exact wpAny_pyNext_range_end (I.ok.hd hc) st (by have:n<=i:=hg;lia) fun h' eb=>⟨rfl,I.turned (t':=s.toks) (fun b o hb e=>eb b o hb e) f0 f1 f3 f4 f5⟩
 self:=fun _ _ _ _ _ st h=>wpAny_pyIter_rangeiter st h
section
variable {X:Cx}{tg:AF}
theorem b7W{pins:List (AB×Obj)}{σ:St}{H:Hp}{s:AC}{R:It->Hp->Prop}{E:AA->AC->Prop}{lo hi:Int}{t u v:Tok}{tk:Nat}(I:l8 X pins σ H s)(h1: -(2 ^ 62)<=lo)(h2:lo<2 ^ 62)(h3: -(2 ^ 62)<=hi)(h4:hi<2 ^ 62)
 (q:R (Itr lo (hi - lo).toNat) H):AI (model X.prog X.w) X.A (pyIter (.ref s.heap.objs.size)) (PIE X pins σ tg R) E {s with heap:=s.heap.push {cls:= .type "range",data:= .fields #[.int lo t,.int hi u,.int 1 v]},toks:=tk}:=by
 refine wpAny_pyIter_range (IsRange.new ..) (small_one h1 h2 h3 h4) ?_
 have I1:l8 X pins σ H {s with heap:=s.heap.push {cls:= .type "range",data:= .fields #[.int lo t,.int hi u,.int 1 v]},toks:=tk}:=I.kept fun b o e=>An _ e
 refine⟨(s.heap.push {cls:= .type "range",data:= .fields #[.int lo t,.int hi u,.int 1 v]}).objs.size,[(s.heap.push {cls:= .type "range",data:= .fields #[.int lo t,.int hi u,.int 1 v]}).objs.size],_,_,H,rfl,
  I1.kept (t':=tk) fun b o e=>An _ e,b4x _ lo (hi - lo).toNat, ?_,fun b hb=> ?_,q⟩
 ·have e1:lo+((0:Nat):Int)*1=lo:=by simp
  have e2:(((hi - lo).toNat:Nat):Int) - ((0:Nat):Int)=Builtin.Range.rangeSize lo hi 1:=by rw [rangeSize_one];split<;>lia
  show IsRangeIter _ _ (lo+((0:Nat):Int)*1) ((((hi - lo).toNat:Nat):Int) - ((0:Nat):Int)) 1
  rw [e1,e2]
  exact Az _ rfl
 ·have e:b=(s.heap.push {cls:= .type "range",data:= .fields #[.int lo t,.int hi u,.int 1 v]}).objs.size:=by simpa using hb
  subst e
  exact I1.fpOk (AZ _) (I1.hok.fresh (AZ _))
def c1Z(ta:TA):TI:=fun σ H R=>ta σ H fun vs H1=>∃j:Int,vs=[.int j]/\ -(2 ^ 62)<=j/\j<2 ^ 62/\R (Itr 0 j.toNat) H1
theorem b1b{a:AF}{ta:TA}{p pos:Pos}(hg:Gl X "range")(hm:X.mg "range"=none)(ha:PA X [a] ta)(hs:AM [a] X.env=[(false,eval a X.env)]:=by rfl):PI X tg (.Call (.Name "range" p) [a] [] pos) (c1Z ta):=by
 intro pins s σ H R I h
 refine Call_ (b1N I hg hm boot_range (PyProof.Rows.callWith_type1 (U5 (ha pos pins s σ H _ I h) fun us s1 ⟨vs,H1,I1,r1,q1⟩=> ?_) hs rfl))
 obtain⟨j,e,q1,q2,q⟩:=q1
 subst e
 cases r1 with
 |cons r rr=>
  cases rr
  obtain⟨t,rfl⟩:=r
  exact call_range_1 (b7W I1 (by lia) (by lia) q1 q2 (by simpa using q))
def c24(wi:TI)(g:TG)(tb:TS):TS:=fun D σ H=>wi σ H fun J H1=>∃W:Nat->Nat->St->Hp->Prop,(∃m,W 0 m σ H1)/\∀i m σ H,W i m σ H->
 (J.stop i H/\D.nx σ H)\/(J.go i H/\∃N:St->Hp->Prop,(∀σ' H',N σ' H'->∃m',m'<m/\W (i+1) m' σ' H')/\∀x H',J.yld i H x H'->g x σ H' fun σ2 H2=>tb {D with nx:=N,ct:=N,bk:=D.nx} σ2 H2)
def a9T(fp:List AB)(h:Heap):List (AB×Obj):=fp.filterMap fun b=>(h.get? b).map fun o=>(b,o)
theorem a3N{fp:List AB}{h:Heap}{b:AB}{o:Obj}(hb:b∈fp)(e:h.get? b=some o):(b,o)∈a9T fp h:=List.mem_filterMap.mpr ⟨b,hb,by rw [e];rfl⟩
theorem b6b{fp:List AB}{h:Heap}{p:AB×Obj}(hp:p∈a9T fp h):p.1∈fp/\h.get? p.1=some p.2:=by
 obtain⟨b,hb,e⟩:=List.mem_filterMap.mp hp
 cases q:h.get? b with
 |none=>rw [q] at e;cases e
 |some o=>
  rw [q] at e
  have e':(b,o)=p:=Option.some.inj e
  subst e'
  exact⟨hb,q⟩
theorem l8.pinned{pins:List (AB×Obj)}{σ:St}{H:Hp}{s:AC}{fp:List AB}(I:l8 X pins σ H s)(hf:∀b∈fp,a7r X pins H b)(ho:∀b∈fp,∃o,s.heap.get? b=some o/\∀v,o.data≠.cell v):l8 X (pins++a9T fp s.heap) σ H s:=
 I.pins_of fun p hp=>(Av.mp hp).elim (fun z=>I.pin p (Ay _ z)) fun z=>by
  obtain⟨hb,e⟩:=b6b z
  obtain⟨f0,f1,f2,_⟩:=hf p.1 hb
  obtain⟨o,e',d⟩:=ho p.1 hb
  rw [e] at e';cases e'
  exact⟨e,f0,f1,f2,d⟩
theorem l8.unpinned{pins pl:List (AB×Obj)}{σ:St}{H:Hp}{s:AC}(I:l8 X (pins++pl) σ H s):l8 X pins σ H s:=I.pins_of fun p hp=>I.pin p (Ay _ (BE _ hp))
theorem b4r{iter:AF}{body:List Stmt}{wi:TI}{g:TG}{tb:TS}{pos:Pos}(hp:PassesOwn (model X.prog X.w) X.A X.env X.xe)(hc:X.calm=true)(hi:PI X tg iter wi)(hg:PG X tg g)(hb:PSs X body tb)
 (hs:∀x,foldedSetIterable iter X.env x=pure x:=by intro _;rfl):PS X (.For tg iter body [] pos) (c24 wi g tb):=by
 intro pins s σ H D I h
 refine wpAny_For (U5 (hi pins s σ H _ I h) fun v s1 h1=>U5 h1 fun itv s2 h2=> ?_) hs
 obtain⟨it,fp,tn,J,H2,e,I2,T,st2,f2,W,⟨m0,w0⟩,turn⟩:=h2
 subst e
 have stat:∀{H':Hp},(∀b∈fp,H' b=none)->∀b∈fp,a7r X pins H' b:=fun hn b hb=>⟨hn b hb,(f2 b hb).2⟩
 refine codeAny_forLoop_any (fun n s'=>∃i σ' H',l8 X pins σ' H' s'/\tn i s'.heap/\(∀b∈fp,H' b=none)/\W i n σ' H') ?_ m0 ⟨0,σ,H2,I2,st2,fun b hb=>(f2 b hb).1,w0⟩
 rintro n s3 ⟨i,σ3,H3,I3,st3,fr3,w3⟩
 rcases turn i n σ3 H3 w3 with⟨stop,qn⟩|⟨go,N,hN,step⟩
 ·refine wpAny_passesOwn hp (U5 (T.done X rfl rfl rfl hc i pins s3 σ3 H3 X.xe I3 (stat fr3) st3 stop) fun r s4 ⟨hr,I4⟩=> ?_)
  subst hr
  exact wpAny_execs_nil ⟨σ3,H3,I4,qn⟩
 ·refine wpAny_passesOwn hp (U5 (T.item X rfl rfl rfl hc i pins s3 σ3 H3 X.xe I3 (stat fr3) st3 go) fun r s4 ⟨u,hr,h4⟩=> ?_)
  subst hr
  refine wpAny_passesOwn hp (U5 h4 fun _ s5 ⟨x,H5,I5,r5,y5,st5,fr5⟩=> ?_)
  have I5':=I5.pinned (stat fr5) (T.obj _ _ st5)
  refine wpAny_passesOwn hp (U5 (hg _ s5 σ3 H5 x u _ I5' r5 (step x H5 y5)) fun _ s6 ⟨σ6,H6,I6,q6⟩=> ?_)
  refine wpAny_passesOwn hp (U5 (hb _ s6 σ6 H6 _ I6 q6) fun f s7 q7=> ?_)
  have again:∀{σ7:St} {H7:Hp},l8 X (pins++a9T fp s5.heap) σ7 H7 s7->N σ7 H7->∃m,m<n/\∃i σ' H',l8 X pins σ' H' s7/\tn i s7.heap/\(∀b∈fp,H' b=none)/\W i m σ' H':=fun {σ7 H7} I7 n7=>by
   obtain⟨m',hm,w7⟩:=hN σ7 H7 n7
   refine⟨m',hm,i+1,σ7,H7,I7.unpinned,T.keep _ _ _ st5 fun b hb o e=>(I7.pin (b,o) (Ay _ (Ay _ (a3N hb e)))).1,fun b hb=> ?_,w7⟩
   obtain⟨o,e,d⟩:=T.obj _ _ st5 b hb
   exact(I7.pin (b,o) (Ay _ (Ay _ (a3N hb e)))).2.1
  cases f with
  |next=>obtain⟨σ7,H7,I7,n7⟩:=q7;exact again I7 n7
  |cont=>obtain⟨σ7,H7,I7,n7⟩:=q7;exact again I7 n7
  |brk=>obtain⟨σ7,H7,I7,q7⟩:=q7;exact⟨σ7,H7,I7.unpinned,q7⟩
  |ret v=>obtain⟨x7,σ7,H7,I7,r7,q7⟩:=q7;exact⟨x7,σ7,H7,I7.unpinned,r7,q7⟩
end
theorem b60{K:AE}{a:AB}{xs:List V}{g:TG}{tb:TS}{D:a0w}{σ:St}{H:Hp}(Pv:Nat->St->Hp->Prop)(h0:Pv 0 σ H)(hl:∀i σ H,i<=xs.length->Pv i σ H->SqL K H a xs)
 (hs:∀i x σ H,xs[i]?=some x->Pv i σ H->g x σ H fun σ2 H2=>tb {D with nx:=Pv (i+1),ct:=Pv (i+1),bk:=D.nx} σ2 H2) (hd:∀σ H,Pv xs.length σ H->D.nx σ H):
 ∃W:Nat->Nat->St->Hp->Prop,(∃m,W 0 m σ H)/\∀i m σ H,W i m σ H->
  ((Itl K a).stop i H/\D.nx σ H)\/((Itl K a).go i H/\∃N:St->Hp->Prop,(∀σ' H',N σ' H'->∃m',m'<m/\W (i+1) m' σ' H')/\∀x H',(Itl K a).yld i H x H'->g x σ H' fun σ2 H2=>tb {D with nx:=N,ct:=N,bk:=D.nx} σ2 H2):=by
 refine⟨fun i m σ H=>m=xs.length - i/\i<=xs.length/\Pv i σ H,⟨xs.length,by simp,Nat.zero_le _,h0⟩, ?_⟩
 rintro i m σ H ⟨rfl,hi,p⟩
 have q:=hl i σ H hi p
 by_cases hlt:i<xs.length
 ·refine .inr ⟨⟨xs,xs[i],q,by simp [hlt]⟩,Pv (i+1),fun σ' H' p'=>⟨xs.length - (i+1),by lia,rfl,hlt,p'⟩,fun x H' y=> ?_⟩
  obtain⟨e,y⟩:=y
  subst e
  exact hs i x σ _ (y xs q) p
 ·have e:i=xs.length:=by lia
  subst e
  exact .inl ⟨⟨xs,q,AZ _⟩,hd σ H p⟩
theorem b8U{K:AE}{a:AB}{xs:List V}{g:TG}{tb:TS}{D:a0w}{σ:St}{H:Hp}(Pv:Nat->St->Hp->Prop)(h0:Pv 0 σ H)(hl:∀i σ H,i<=xs.length->Pv i σ H->SqT K H a xs)
 (hs:∀i x σ H,xs[i]?=some x->Pv i σ H->g x σ H fun σ2 H2=>tb {D with nx:=Pv (i+1),ct:=Pv (i+1),bk:=D.nx} σ2 H2) (hd:∀σ H,Pv xs.length σ H->D.nx σ H):
 ∃W:Nat->Nat->St->Hp->Prop,(∃m,W 0 m σ H)/\∀i m σ H,W i m σ H->
  ((Itt K a).stop i H/\D.nx σ H)\/((Itt K a).go i H/\∃N:St->Hp->Prop,(∀σ' H',N σ' H'->∃m',m'<m/\W (i+1) m' σ' H')/\∀x H',(Itt K a).yld i H x H'->g x σ H' fun σ2 H2=>tb {D with nx:=N,ct:=N,bk:=D.nx} σ2 H2):=by
 refine⟨fun i m σ H=>m=xs.length - i/\i<=xs.length/\Pv i σ H,⟨xs.length,by simp,Nat.zero_le _,h0⟩, ?_⟩
 rintro i m σ H ⟨rfl,hi,p⟩
 have q:=hl i σ H hi p
 by_cases hlt:i<xs.length
 ·refine .inr ⟨⟨xs,xs[i],q,by simp [hlt]⟩,Pv (i+1),fun σ' H' p'=>⟨xs.length - (i+1),by lia,rfl,hlt,p'⟩,fun x H' y=> ?_⟩
  obtain⟨e,y⟩:=y
  subst e
  exact hs i x σ _ (y xs q) p
 ·have e:i=xs.length:=by lia
  subst e
  exact .inl ⟨⟨xs,q,AZ _⟩,hd σ H p⟩
theorem b5V{lo:Int}{n:Nat}{g:TG}{tb:TS}{D:a0w}{σ:St}{H:Hp}(Pv:Nat->St->Hp->Prop)(h0:Pv 0 σ H)
 (hs:∀i σ H,i<n->Pv i σ H->g (.int (lo+i)) σ H fun σ2 H2=>tb {D with nx:=Pv (i+1),ct:=Pv (i+1),bk:=D.nx} σ2 H2) (hd:∀σ H,Pv n σ H->D.nx σ H):
 ∃W:Nat->Nat->St->Hp->Prop,(∃m,W 0 m σ H)/\∀i m σ H,W i m σ H->
  ((Itr lo n).stop i H/\D.nx σ H)\/((Itr lo n).go i H/\∃N:St->Hp->Prop,(∀σ' H',N σ' H'->∃m',m'<m/\W (i+1) m' σ' H')/\∀x H',(Itr lo n).yld i H x H'->g x σ H' fun σ2 H2=>tb {D with nx:=N,ct:=N,bk:=D.nx} σ2 H2):=by
 refine⟨fun i m σ H=>m=n - i/\i<=n/\Pv i σ H,⟨n,by simp,Nat.zero_le _,h0⟩, ?_⟩
 rintro i m σ H ⟨rfl,hi,p⟩
 by_cases hlt:i<n
 ·refine .inr ⟨hlt,Pv (i+1),fun σ' H' p'=>⟨n - (i+1),by lia,rfl,hlt,p'⟩,fun x H' y=> ?_⟩
  obtain⟨e,y⟩:=y
  subst e y
  exact hs i σ _ hlt p
 ·have e:i=n:=by lia
  subst e
  exact .inl ⟨AZ _,hd σ H p⟩
abbrev R2:=V->V->Hp->VK->Prop
def OpR(X:Cx)(f:AA->AA->Sem AA)(r:R2):Prop:=
 ∀(pins:List (AB×Obj)) (s:AC) (σ:St) (H:Hp) (x y:V) (v u:AA) (Q:VK),l8 X pins σ H s->A4 x v->A4 y u->r x y H Q->
  AI (model X.prog X.w) X.A (f v u) (EP X pins σ Q) X.xe s
def UnR(X:Cx)(f:AA->Sem AA)(r:V->Hp->VK->Prop):Prop:=
 ∀(pins:List (AB×Obj)) (s:AC) (σ:St) (H:Hp) (x:V) (v:AA) (Q:VK),l8 X pins σ H s->A4 x v->r x H Q->
  AI (model X.prog X.w) X.A (f v) (EP X pins σ Q) X.xe s
def O7(X:Cx)(f:AA)(r:List V->Hp->VK->Prop):Prop:=
 ∀(pins:List (AB×Obj)) (s:AC) (σ:St) (H:Hp) (xs:List V) (us:List AA) (Q:VK),l8 X pins σ H s->t7 xs us->r xs H Q->
  AI (model X.prog X.w) X.A (call f us) (EP X pins σ Q) X.xe s
def c2G(X:Cx)(r:V->Hp->(Bool->Hp->Prop)->Prop):Prop:=
 ∀(pins:List (AB×Obj)) (s:AC) (σ:St) (H:Hp) (x:V) (v:AA) (Q:Bool->Hp->Prop),l8 X pins σ H s->A4 x v->r x H Q->
  AI (model X.prog X.w) X.A (truthy v) (TP X pins σ Q) X.xe s
def tOp(r:R2)(ta tb:TE):TE:=fun σ H Q=>ta σ H fun x H1=>tb σ H1 fun y H2=>r x y H2 Q
def tUn(r:V->Hp->VK->Prop)(ta:TE):TE:=fun σ H Q=>ta σ H fun x H1=>r x H1 Q
def rI(C:Int->Int->Prop)(g:Int->Int->V):R2:=fun x y H Q=>∃i j,x= .int i/\y= .int j/\C i j/\Q (g i j) H
def rI0(g:Int->Int->V):R2:=fun x y H Q=>∃i j,x= .int i/\y= .int j/\Q (g i j) H
def rU(g:Int->V):V->Hp->VK->Prop:=fun x H Q=>∃i,x= .int i/\Q (g i) H
section
variable {X:Cx}{a b c:AF}{ta tb tc:TE}{pos:Pos}
theorem c0q(ha:PE X a ta)(hb:PE X b tb){pins:List (AB×Obj)}{s:AC}{σ:St}{H:Hp}{R:V->V->Hp->Prop}(I:l8 X pins σ H s)
 (h:ta σ H fun x H1=>tb σ H1 fun y H2=>R x y H2) {Q:AA->AC->Prop} {f:AA->AA->Sem AA}
 (hf:∀v u s2 x y H2,l8 X pins σ H2 s2->A4 x v->A4 y u->R x y H2->AI (model X.prog X.w) X.A (f v u) Q X.xe s2):
 AI (model X.prog X.w) X.A (eval a X.env) (fun v s₁=>AI (model X.prog X.w) X.A (eval b X.env) (fun u s₂=>AI (model X.prog X.w) X.A (f v u) Q X.xe s₂) X.xe s₁) X.xe s:=by
 refine U5 (ha pins s σ H _ I h) fun v s1 ⟨x,H1,I1,r1,q1⟩=> ?_
 refine U5 (hb pins s1 σ H1 _ I1 q1) fun u s2 ⟨y,H2,I2,r2,q2⟩=> ?_
 exact hf v u s2 x y H2 I2 r1 r2 q2
theorem c2e{op:Operator}{r:R2}(ho:OpR X (binaryOp op) r)(ha:PE X a ta)(hb:PE X b tb):PE X (.BinOp a op b pos) (tOp r ta tb):=by
 intro pins s σ H Q I h
 exact wpAny_BinOp (c0q ha hb I h fun v u s2 x y H2 I2 rx ry q=>ho pins s2 σ H2 x y v u Q I2 rx ry q)
theorem c2f{op:UnaryOp}{r:V->Hp->VK->Prop}(ho:UnR X (unaryOp op) r)(ha:PE X a ta):PE X (.UnaryOp op a pos) (tUn r ta):=by
 intro pins s σ H Q I h
 exact UnaryOp_ (U5 (ha pins s σ H _ I h) fun v s1 ⟨x,H1,I1,r1,q1⟩=>ho pins s1 σ H1 x v Q I1 r1 q1)
theorem opI{f:AA->AA->Sem AA}{C:Int->Int->Prop}{g:Int->Int->Int}
 (rule:∀(i j:Int) (t u:Tok) (s:AC) (Q:AA->AC->Prop) (E:AA->AC->Prop),C i j->Q (.int (g i j) s.toks) {s with toks:=s.toks+1}->AI (model X.prog X.w) X.A (f (.int i t) (.int j u)) Q E s):
 OpR X f (rI C fun i j=> .int (g i j)):=by
 intro pins s σ H x y v u Q I rx ry h
 obtain⟨i,j,rfl,rfl,hc,q⟩:=h
 obtain⟨t,rfl⟩:=rx
 obtain⟨t',rfl⟩:=ry
 exact rule i j t t' s _ _ hc ⟨.int (g i j),H,I.tok _,⟨_,rfl⟩,q⟩
theorem c0Y{f:AA->AA->Sem AA}{g:Int->Int->Int}
 (rule:∀(i j:Int) (t u:Tok) (s:AC) (Q:AA->AC->Prop) (E:AA->AC->Prop),Q (.int (g i j) s.toks) {s with toks:=s.toks+1}->AI (model X.prog X.w) X.A (f (.int i t) (.int j u)) Q E s):
 OpR X f (rI0 fun i j=> .int (g i j)):=by
 intro pins s σ H x y v u Q I rx ry h
 obtain⟨i,j,rfl,rfl,q⟩:=h
 obtain⟨t,rfl⟩:=rx
 obtain⟨t',rfl⟩:=ry
 exact rule i j t t' s _ _ ⟨.int (g i j),H,I.tok _,⟨_,rfl⟩,q⟩
theorem b9e{f:AA->AA->Sem AA}{g:Int->Int->Bool}
 (rule:∀(i j:Int) (t u:Tok) (s:AC) (Q:AA->AC->Prop) (E:AA->AC->Prop),Q (.bool (g i j)) s->AI (model X.prog X.w) X.A (f (.int i t) (.int j u)) Q E s):
 OpR X f (rI0 fun i j=> .bl (g i j)):=by
 intro pins s σ H x y v u Q I rx ry h
 obtain⟨i,j,rfl,rfl,q⟩:=h
 obtain⟨t,rfl⟩:=rx
 obtain⟨t',rfl⟩:=ry
 exact rule i j t t' s _ _ ⟨.bl (g i j),H,I,rfl,q⟩
def a1A(i j:Int):Prop:=0<j/\j<1073741824
def c1E(i j:Int):Prop:=0<=j/\j<=1000000/\i.natAbs<2 ^ 64
def b1h(i j:Int):Prop:=(-(2 ^ 64)<i/\i<2 ^ 64)\/(-(2 ^ 64)<j/\j<2 ^ 64)
theorem b1h.ok{i j:Int}(h:b1h i j):IntMulOk i j:=by
 rcases h with⟨h1,h2⟩|⟨h1,h2⟩
 ·exact .of_left (intBits_le_64 h1 h2)
 ·exact .of_right (intBits_le_64 h1 h2)
theorem c0Z:OpR X (binaryOp .Add) (rI0 fun i j=> .int (i+j)):=c0Y fun _ _ _ _ _ _ _ q=>add_int q
theorem c05:OpR X (binaryOp .Sub) (rI0 fun i j=> .int (i - j)):=c0Y fun _ _ _ _ _ _ _ q=>sub_int q
theorem c03:OpR X (binaryOp .Mult) (rI b1h fun i j=> .int (i*j)):=opI fun _ _ _ _ _ _ _ hc q=>mul_int q hc.ok
theorem b9g:OpR X (binaryOp .FloorDiv) (rI a1A fun i j=> .int (i / j)):=opI fun i j _ _ _ _ _ hc q=>by
 have h1:(0:Int)<j:=hc.1
 have h2:j<1073741824:=hc.2
 exact floordiv_int (by lia) (by rw [Int.fdiv_eq_ediv_of_nonneg i (by lia)];exact q) (.inl (PyProof.noPylong_small (by lia)))
theorem c02:OpR X (binaryOp .Mod) (rI (fun _ j=>0<j) fun i j=> .int (i % j)):=opI fun i j _ _ _ _ _ hc q=>by
 have h1:(0:Int)<j:=hc
 exact mod_int' (by lia) (by rw [Int.fmod_eq_emod_of_nonneg i (by lia)];exact q)
theorem b8Z:OpR X (inplaceOp .Add) (rI0 fun i j=> .int (i+j)):=c0Y fun _ _ _ _ _ _ _ q=>iadd_int q
theorem unI{f:AA->Sem AA}{g:Int->Int}
 (rule:∀(i:Int) (t:Tok) (s:AC) (Q:AA->AC->Prop) (E:AA->AC->Prop),Q (.int (g i) s.toks) {s with toks:=s.toks+1}->AI (model X.prog X.w) X.A (f (.int i t)) Q E s):
 UnR X f (rU fun i=> .int (g i)):=by
 intro pins s σ H x v Q I rx h
 obtain⟨i,rfl,q⟩:=h
 obtain⟨t,rfl⟩:=rx
 exact rule i t s _ _ ⟨.int (g i),H,I.tok _,⟨_,rfl⟩,q⟩
theorem c1A:UnR X (unaryOp .USub) (rU fun i=> .int (-i)):=unI fun _ _ _ _ _ q=>neg_int q
end
section
variable {X:Cx}{a b c:AF}{ta tb tc:TE}{pos:Pos}
theorem b6X{pins:List (AB×Obj)}{σ:St}{H:Hp}{s:AC}{Q:VK}{k k':Bool}(I:l8 X pins σ H s)(q:Q (.bl k) H)(e:k=k'):EP X pins σ Q (.bool k') s:=by
 subst e
 exact⟨.bl k,H,I,rfl,q⟩
theorem c2b:OpR X (compareOp .Lt) (rI0 fun i j=> .bl (decide (i<j))):=b9e fun _ _ _ _ _ _ _ q=>lt_int q
theorem c2a:OpR X (compareOp .LtE) (rI0 fun i j=> .bl (decide (i<=j))):=b9e fun _ _ _ _ _ _ _ q=>le_int q
theorem c19:OpR X (compareOp .Gt) (rI0 fun i j=> .bl (decide (j<i))):=b9e fun _ _ _ _ _ _ _ q=>gt_int q
theorem c18:OpR X (compareOp .GtE) (rI0 fun i j=> .bl (decide (j<=i))):=b9e fun _ _ _ _ _ _ _ q=>ge_int q
theorem b6d:OpR X (compareOp .Lt) (fun x y H Q=>∃i j,x= .str i/\y= .str j/\Q (.bl (decide (i.cps.toList<j.cps.toList))) H):=by
 intro pins s σ H x y v u Q I rx ry h
 obtain⟨i,j,rfl,rfl,q⟩:=h
 obtain⟨t,rfl⟩:=rx
 obtain⟨t',rfl⟩:=ry
 exact lt_str (b6X I q rfl)
theorem c01:OpR X (compareOp .Is) (fun x y H Q=>y= .non/\Q (.bl (decide (x= .non))) H):=by
 intro pins s σ H x y v u Q I rx ry h
 obtain⟨rfl,q⟩:=h
 cases ry
 refine is_none_gen (b6X I q ?_)
 cases x<;>first
  |(cases rx;rfl)
  |(obtain⟨t,rfl⟩:=rx;rfl)
theorem OpR.or{f:AA->AA->Sem AA}{r r':R2}(h:OpR X f r)(h':OpR X f r'):OpR X f (fun x y H Q=>r x y H Q\/r' x y H Q):=by
 intro pins s σ H x y v u Q I rx ry q
 rcases q with q|q
 ·exact h pins s σ H x y v u Q I rx ry q
 ·exact h' pins s σ H x y v u Q I rx ry q
theorem j5(b:AF){op:CmpOp}(h:op≠.In:=by decide)(h2:op≠.NotIn:=by decide):behindInMarks op b=false:=by
 have e1:(op==CmpOp.In)=false:=by cases op<;>first|rfl|exact absurd rfl h
 have e2:(op==CmpOp.NotIn)=false:=by cases op<;>first|rfl|exact absurd rfl h2
 cases b<;>simp [behindInMarks,e1,e2]
theorem b9l{op:CmpOp}{r:R2}(ho:OpR X (compareOp op) r)(ha:PE X a ta)(hb:PE X b tb)(hm:behindInMarks op b=false):PE X (.Compare a [op] [b] pos) (tOp r ta tb):=by
 intro pins s σ H Q I h
 exact wpAny_Compare1 (c0q ha hb I h fun v u s2 x y H2 I2 rx ry q=>ho pins s2 σ H2 x y v u Q I2 rx ry q) hm
def c0b(t:TE):TT:=fun σ H Q=>t σ H fun x H'=>∃k,x= .bl k/\Q k H'
theorem b9r{op:CmpOp}{r:R2}(ho:OpR X (compareOp op) r)(ha:PE X a ta)(hb:PE X b tb)(hm:behindInMarks op b=false):PT X (.Compare a [op] [b] pos) (c0b (tOp r ta tb)):=by
 intro pins s σ H Q I h
 refine wpAny_isTrue_Compare1 (U5 (ha pins s σ H _ I h) fun v s1 ⟨x,H1,I1,r1,q1⟩=>U5 (hb pins s1 σ H1 _ I1 q1) fun u s2 ⟨y,H2,I2,r2,q2⟩=>
  U5 (ho pins s2 σ H2 x y v u _ I2 r1 r2 q2) fun c s3 ⟨z,H3,I3,r3,k,e,q3⟩=> ?_) hm
 subst e
 cases r3
 exact wpAny_truthy_bool ⟨H3,I3,q3⟩
def b8g(r r':R2)(ta tb tc:TE):TE:=fun σ H Q=>ta σ H fun x H1=>tb σ H1 fun y H2=>r x y H2 fun z H3=>∃k,z= .bl k/\
 (if k=true then tc σ H3 fun w' H4=>r' y w' H4 Q else Q (.bl false) H3)
theorem b7T{op op':CmpOp}{r r':R2}(ho:OpR X (compareOp op) r)(ho':OpR X (compareOp op') r')(ha:PE X a ta)(hb:PE X b tb)(hc:PE X c tc)
 (hm:lastMarks [op,op'] [b,c]=false:=by with_unfolding_all rfl):PT X (.Compare a [op,op'] [b,c] pos) (c0b (b8g r r' ta tb tc)):=by
 intro pins s σ H Q I h
 refine isTrue_chain (U5 (ha pins s σ H _ I h) fun v s1 ⟨x,H1,I1,r1,q1⟩=>test_link (U5 (hb pins s1 σ H1 _ I1 q1) fun u s2 ⟨y,H2,I2,r2,q2⟩=>
  U5 (ho pins s2 σ H2 x y v u _ I2 r1 r2 q2) fun d s3 ⟨z,H3,I3,r3,k,e,q3⟩=> ?_)) hm
 subst e
 cases r3
 refine wpAny_truthy_bool ?_
 cases k with
 |false=>
  obtain⟨k',e',q'⟩:=q3
  cases e'
  exact ite_ff ⟨H3,I3,q'⟩
 |true=>
  refine ite_tt (test_last (U5 (hc pins s3 σ H3 _ I3 q3) fun w' s4 ⟨z',H4,I4,r4,q4⟩=>U5 (ho' pins s4 σ H4 y z' u w' _ I4 r2 r4 q4) fun d' s5 ⟨z2,H5,I5,r5,k2,e2,q5⟩=> ?_))
  subst e2
  cases r5
  exact wpAny_truthy_bool ⟨H5,I5,q5⟩
def c0k(K:AE)(x:V)(H:Hp)(k:Bool):Prop:=
 match x with
 | .non=>k=false
 | .bl b=>k=b
 | .int i=>k=(i !=0)
 | .str y=>y.length<=AU/\k=((y.length:Int) !=0)
 | .byt y=>y.size<=AU/\k=((y.size:Int) !=0)
 | .ref p=>(∃xs,SqL K H p xs/\k= !xs.isEmpty)\/(∃xs,SqT K H p xs/\k= !xs.isEmpty)\/∃kvs,H p=some (.dK kvs)/\k= !kvs.isEmpty
 |_=>False
theorem b34{κ:Type}{kvs:List (κ×V)}{vs:List (κ×AA)}(r:KV kvs vs):(!vs.isEmpty)= !kvs.isEmpty:=by
 cases r<;>rfl
theorem a9m{xs:List V}{its:List AA}(r:t7 xs its):(!its.toArray.isEmpty)= !xs.isEmpty:=by
 cases r<;>simp
theorem a6h:(AU:Nat)<2 ^ 63:=by rw [sizeLine_eq];decide
theorem c1x:c2G X (fun x H Q=>∃k,c0k X.K x H k/\Q k H):=by
 intro pins s σ H x v Q I rx h
 obtain⟨k,e,q⟩:=h
 have hl:=a6h
 have hs:AU=16777216:=sizeLine_eq
 cases x with
 |non=>
  cases rx
  have e':k=false:=e
  subst e'
  exact truthy_none ⟨H,I,q⟩
 |bl b=>
  cases rx
  have e':k=b:=e
  subst e'
  exact wpAny_truthy_bool ⟨H,I,q⟩
 |int i=>
  obtain⟨t,rfl⟩:=rx
  have e':k=(i !=0):=e
  subst e'
  exact PySem.P.truthy_int ⟨H,I,q⟩
 |str y=>
  obtain⟨t,rfl⟩:=rx
  obtain⟨hy,e'⟩:y.length<=AU/\k=((y.length:Int) !=0):=e
  subst e'
  exact PySem.P.truthy_str (by lia) ⟨H,I.tok _,q⟩
 |byt y=>
  obtain⟨t,rfl⟩:=rx
  obtain⟨hy,e'⟩:y.size<=AU/\k=((y.size:Int) !=0):=e
  subst e'
  exact PySem.W.truthy_bytes (by lia) ⟨H,I.tok _,q⟩
 |ref p=>
  cases rx
  have e':(∃xs,SqL X.K H p xs/\k= !xs.isEmpty)\/(∃xs,SqT X.K H p xs/\k= !xs.isEmpty)\/∃kvs,H p=some (.dK kvs)/\k= !kvs.isEmpty:=e
  rcases e' with⟨xs,hx,e'⟩|⟨xs,hx,e'⟩|⟨kvs,hx,e'⟩
  ·subst e'
   obtain⟨its,r,pl,hz⟩:=I.list hx
   have hlen:=r.length
   exact wpAny_truthy_list pl.isList (by simp only [Aj];lia) ⟨H,I.tok _,by rw [a9m r];exact q⟩
  ·subst e'
   obtain⟨its,r,pl,hz⟩:=I.tuple hx
   have hlen:=r.length
   exact truthy_tuple pl (by simp only [Aj];lia) ⟨H,I.tok _,by rw [a9m r];exact q⟩
  ·subst e'
   obtain⟨hz,hS,vs,r,m⟩:kvs.length<=AU/\(p==sysModules)=false/\∃vs,KV kvs vs/\s.heap.DictOf (a8T X.prog X.w) p vs:=I.hok p _ hx
   have hlen:kvs.length=vs.length:=Paired.length r
   exact wpAny_truthy_dict hS m (by lia) ⟨H,I.tok _,by rw [b34 r];exact q⟩
 |_=>exact(show False from e).elim
theorem b7U(ha:PE X a ta)(he:∀whole,isTrue a X.env whole=(do let v<-whole;standAt a.pos;holding [v] (truthy v))):
 PT X a (fun σ H Q=>ta σ H fun x H'=>∃k,c0k X.K x H' k/\Q k H'):=by
 intro pins s σ H Q I h
 exact isTrue_plain (U5 (ha pins s σ H _ I h) fun v s1 ⟨x,H1,I1,r1,q1⟩=>c1x pins s1 σ H1 x v Q I1 r1 q1) (he _)
theorem b4o:OpR X (binaryOp .Add) (fun x y H Q=>∃i j,x= .str i/\y= .str j/\i.length+j.length<=AU/\Q (.str (i++j)) H):=by
 intro pins s σ H x y v u Q I rx ry h
 obtain⟨i,j,rfl,rfl,hz,q⟩:=h
 obtain⟨t,rfl⟩:=rx
 obtain⟨t',rfl⟩:=ry
 exact add_str (fun t' tk=>⟨.str (i++j),H,I.tok _,⟨_,rfl⟩,q⟩) hz
theorem a5Y{x:V}{us:List AA}(r:t7 [x] us):∃u,us=[u]/\A4 x u:=by
 cases r with
 |cons r1 r2=>cases r2;exact⟨_,rfl,r1⟩
theorem c2z{x y:V}{us:List AA}(r:t7 [x,y] us):∃u w',us=[u,w']/\A4 x u/\A4 y w':=by
 cases r with
 |cons r1 r2=>
  cases r2 with
  |cons r3 r4=>cases r4;exact⟨_,_,rfl,r1,r3⟩
theorem b5K(hc:X.calm=true):O7 X (.builtin "min") (fun xs H Q=>∃i j,xs=[.int i,.int j]/\Q (.int (if j<i then j else i)) H):=by
 intro pins s σ H xs us Q I r h
 obtain⟨i,j,rfl,q⟩:=h
 obtain⟨u,w',rfl,⟨t,rfl⟩,⟨t',rfl⟩⟩:=c2z r
 refine min_two_ints (I.ok.hd hc) fun h' tk k=>⟨_,H,I.kept k, ?_,q⟩
 by_cases hj:j<i
 ·rw [if_pos hj,if_pos hj];exact⟨_,rfl⟩
 ·rw [if_neg hj,if_neg hj];exact⟨_,rfl⟩
end
structure c1G(h:Heap)(x dx C:AB)(mA:Str->Option AA):Prop where
 obj:h.get? x=some (PySem.W.instObj C dx)
 ns:h.Ns1 dx mA
 ne:dx≠x
theorem b53{h:Heap}{dx:AB}{mA:Str->Option AA}(n:h.Ns1 dx mA):∃od,h.get? dx=some od/\∀name,PySem.W.lookIn name od=some (mA name):=by
 obtain⟨o,es,ep,ho,hd,hk,_,hm⟩:=n
 refine⟨o,ho,fun name=> ?_⟩
 have e:=hm name
 unfold nsFind findBy at e
 rw [<-Array.find?_toList] at e
 unfold PySem.W.lookIn
 rw [hd]
 dsimp only
 split
 ·rename_i y q
  rw [q] at e
  exact congrArg some e
 ·rename_i q
  rw [q] at e
  have a:es.toList.any (·.refKey)=false:=by
   rw [List.any_eq_false]
   intro y hy
   obtain⟨z,t,hkey⟩:=hk y (Array.mem_toList_iff.mp hy)
   simp [DictEntry.refKey,hkey]
  have a':¬es.toList.any (·.refKey)=true:=by rw [a];exact Ao
  rw [if_neg a']
  exact congrArg some e
theorem c1G.look{h:Heap}{x dx C:AB}{mA:Str->Option AA}(I:c1G h x dx C mA):∃od,PySem.W.InstAt h x (PySem.W.instObj C dx) C (some od)/\∀name,PySem.W.lookIn name od=some (mA name):=
 let ⟨od,ho,hl⟩:=b53 I.ns
 ⟨od,⟨I.obj,rfl,rfl,ho⟩,hl⟩
section
variable {prog:AK}{w:AJ}{A:AL}{E:AA->AC->Prop}{s:AC}{K:AE}{x dx C f:AB}{mA:Str->Option AA}{name:Str}{v:AA}
end
theorem a8Z.none_of{o:Option AA}(r:a8Z none o):o=none:=by
 cases o with
 |none=>rfl
 |some u=>exact(show False from r).elim
section
variable {P:AK}{w:AJ}{H H':Hp}{h h':Heap}{a C dx:AB}{fs fs':List (Str×V)}
end
structure Cls(K:AE)(C:AB):Prop where
 pg:PySem.W.plainGet K C Str.empty=true
 hd:PySem.W.hasDictIn K C=true
 po:PySem.W.plainOver K C=true
 sa:PySem.W.findIn K (.ref C) "__setattr__"=some (some (.builtin "object.__setattr__"))
theorem Cls.get{K:AE}{C:AB}(c:Cls K C)(f:Str):PySem.W.plainGet K C f=true:=c.pg
section
variable {X:Cx}{pins:List (AB×Obj)}{σ:St}{H:Hp}{s:AC}{a C dx:AB}{fs:List (Str×V)}{f:Str}{v:V}{A:AL}{E:AA->AC->Prop}
end
section
variable {X:Cx}{o e value:AF}{f:Str}{pos pos' tpos:Pos}{ta tv:TE}
end
section
variable {X:Cx}{pins:List (AB×Obj)}{σ:St}{H:Hp}{s:AC}{A:AL}{E:AA->AC->Prop}{Q:AA->AC->Prop}{c:AA}{b:Bool}
inductive a85 (K:AE) (H:Hp):V->AA->Prop where
 |non:a85 K H .non (.type "NoneType")
 |bl (x:Bool):a85 K H (.bl x) (.type "bool")
 |int (i:Int):a85 K H (.int i) (.type "int")
 |str (x:Str):a85 K H (.str x) (.type "str")
 |flt (x:UInt64):a85 K H (.flt x) (.type "float")
 |lst {a:AB} {xs:List V} (e:H a=some (.lst xs)):a85 K H (.ref a) (.type "list")
 |frz {a:AB} {o:Obj} {xs:List V} (e:H a=some (.frz o (.lst xs))):a85 K H (.ref a) (.type "list")
 |tup {a:AB} {xs:List V} (e:H a=some (.tup xs)):a85 K H (.ref a) (.type "tuple")
 |dK {a:AB} {kvs:List (B0×V)} (e:H a=some (.dK kvs)):a85 K H (.ref a) (.type "dict")
 |dT {a:AB} {kvs:List (List B0×V)} (e:H a=some (.dT kvs)):a85 K H (.ref a) (.type "dict")
 |ins {a C dx:AB} {fs:List (Str×V)} (e:H a=some (.ins C dx fs)) (cl:Cls K C) (ha:PySem.W.findIn K (.ref C) "__class__"=some (some (.builtin "object.__class__")))
  (hn:PySem.W.specialIn K (.builtin "object.__class__") "__get__"=some (some (.builtin "getset_descriptor.__get__"))) (htk:PySem.W.takesIn K (.builtin "object.__class__")=some true)
  (hm:PySem.W.mroIn K C (.type "object")=some true):a85 K H (.ref a) (.ref C)
end
structure R9(k:Nat)(A:AL):Prop where
 hd:A.handled=none
 dp:A.depth+3*k+5<recursionLimit
 un:A.units+16*k+200<cLine
theorem R9.mono{j k:Nat}{A:AL}(r:R9 k A)(h:j<=k):R9 j A:=⟨r.hd,by have:=r.dp;lia,by have:=r.un;lia⟩
theorem R9.deeper{k:Nat}{A:AL}(r:R9 (k+1) A)(env:Env):R9 k (A.deeper env):=
 ⟨r.hd,by have:=r.dp;show A.depth+1+3*k+5<_;lia,by have:=r.un;show A.units+3+16*k+200<_;lia⟩
theorem R9.in1{k:Nat}{A:AL}(r:R9 (k+1) A):R9 k A.in1:=
 ⟨r.hd,by have:=r.dp;show A.depth+3*k+5<_;lia,by have:=r.un;show A.units+1+16*k+200<_;lia⟩
theorem R9.depth{k:Nat}{A:AL}(r:R9 k A):A.depth<recursionLimit:=by have:=r.dp;lia
theorem R9.units{k:Nat}{A:AL}(r:R9 k A):A.units+64<cLine:=by have:=r.un;lia
def c1u:TA:=fun _ H Q=>Q [] H
def b5r(ta:TE)(tr:TA):TA:=fun σ H Q=>ta σ H fun x H1=>tr σ H1 fun xs H2=>Q (x::xs) H2
section
variable {X:Cx}{e:AF}{es:List AF}{te:TE}{t:TA}{pos:Pos}
theorem a0K:PA X [] c1u:=fun _ _ _ _ H Q I h=>Calls.spliced_nil ⟨[],H,I,.nil,h⟩
theorem J7(ha:PE X e te)(hr:PA X es t)(hs:AM (e::es) X.env=(false,eval e X.env)::AM es X.env:=by rfl):PA X (e::es) (b5r te t):=by
 intro pos pins s σ H Q I h
 rw [hs]
 show AI _ _ (spliced ((false,eval e X.env)::backTo pos (AM es X.env))) _ _ s
 refine Calls.spliced_cons (U5 (ha pins s σ H _ I h) fun u s1 ⟨x,H1,I1,r1,q1⟩=> ?_)
 exact U5 (hr pos pins s1 σ H1 _ I1 q1) fun us s2 ⟨xs,H2,I2,r2,q2⟩=>⟨x::xs,H2,I2,.cons r1 r2,q2⟩
def c3a(t:TA):TE:=fun σ H Q=>t σ H fun xs H1=>xs.length<=AU/\∀p,H1 p=none->Q (.ref p) (upd H1 p (.tup xs))
def c26(t:TA):TE:=fun σ H Q=>t σ H fun xs H1=>xs.length<=AU/\∀p,H1 p=none->Q (.ref p) (upd H1 p (.lst xs))
theorem c1g{x1}(h:PA X es t):PE X (.Tuple es x1 pos) (c3a t):=by
 intro pins s σ H Q I hq
 refine wpAny_Tuple_spliced (U5 (h pos pins s σ H _ I hq) fun us s1 ⟨xs,H1,I1,r,z,q⟩=>⟨by rw [<-r.length];exact z, ?_⟩)
 have hf:H1 s1.heap.objs.size=none:=I1.hok.fresh (AZ _)
 refine⟨.ref s1.heap.objs.size,upd H1 s1.heap.objs.size (.tup xs),I1.laid (t':=s1.toks) (fun b u e=>An _ e) (AZ _) ?_,rfl,q _ hf⟩
 exact⟨z,us,r,⟨_,Az _ rfl,rfl,_,rfl⟩⟩
theorem c1b(h:PA X es t):PE X (.List es pos) (c26 t):=by
 intro pins s σ H Q I hq
 refine wpAny_List_spliced (U5 (h pos pins s σ H _ I hq) fun us s1 ⟨xs,H1,I1,r,z,q⟩=>⟨by rw [<-r.length];exact z, ?_⟩)
 have hf:H1 s1.heap.objs.size=none:=I1.hok.fresh (AZ _)
 refine⟨.ref s1.heap.objs.size,upd H1 s1.heap.objs.size (.lst xs),I1.laid (t':=s1.toks) (fun b u e=>An _ e) (AZ _) ?_,rfl,q _ hf⟩
 exact⟨z,us,0,r,Az _ rfl⟩
end
abbrev Sp:=List V->Hp->VK->XK->Prop
abbrev CXT:=List Env->Hp->AC->XK->AA->AC->Prop
structure b3K(P:AK)(w:AJ)(K:AE)(mg:Str->Option AA)(base:Heap)(A:AL)(outer:List Env)(s:AC)(H:Hp):Prop where
 frames:A.frames=some outer
 mod:Mod K mg base
 bs:∀b o,base.get? b=some o->s.heap.get? b=some o/\H b=none
 bsz:base.objs.size<=s.heap.objs.size
 funs:s.heap.FunFrames base outer
 frf:∀b∈frs outer,H b=none
 hok:HOk P w H s.heap
 bare:AllBare s.gens
def CE(outer:List Env)(P:AK)(w:AJ)(H:Hp)(s:AC)(Q:VK)(u:AA)(s':AC):Prop:=
 ∃v H',s'.os=s.os/\AllBare s'.gens/\Un (frs outer) [] H H' s.heap s'.heap/\HOk P w H' s'.heap/\A4 v u/\Q v H'
def CR(CX:CXT)(outer:List Env)(P:AK)(w:AJ)(H:Hp)(s:AC)(Q:VK)(E:XK)(r:Result)(s':AC):Prop:=
 match r with
 | .ok (.ret u)=>CE outer P w H s Q u s'
 | .ok _=>False
 | .error e=>CX outer H s E e s'
structure a05(P:AK)(w:AJ)(K:AE)(mg:Str->Option AA)(base:Heap)(CX:CXT)(k:Nat)(f:AB)(fd:FuncData)(ps:List Str)(sp:Sp):Prop where
 len:∀vs H Q E,sp vs H Q E->vs.length=ps.length
 run:∀(A:AL) (outer:List Env) (s:AC) (H:Hp) (args:Args) (us:List AA) (vs:List V) (Q:VK) (E:XK),R9 k A->b3K P w K mg base A outer s H->BindsTo s fd args (ps.zip us)->t7 vs us->sp vs H Q E->
  codeAny (model P w) A (.call (.ref f) args) (CR CX outer P w H s Q E) s
theorem a05.mono{P:AK}{w:AJ}{K:AE}{mg:Str->Option AA}{base:Heap}{CX:CXT}{j k:Nat}{f:AB}{fd:FuncData}{ps:List Str}{sp:Sp}(F:a05 P w K mg base CX j f fd ps sp)(h:j<=k):
 a05 P w K mg base CX k f fd ps sp:=⟨F.len,fun A outer s H args us vs Q E hr=>F.run A outer s H args us vs Q E (hr.mono h)⟩
theorem a05.imp{P:AK}{w:AJ}{K:AE}{mg:Str->Option AA}{base:Heap}{CX:CXT}{k:Nat}{f:AB}{fd:FuncData}{ps:List Str}{sp sp':Sp}(F:a05 P w K mg base CX k f fd ps sp)
 (h:∀vs H Q E,sp' vs H Q E->sp vs H Q E):a05 P w K mg base CX k f fd ps sp':=
 ⟨fun vs H Q E q=>F.len vs H Q E (h _ _ _ _ q),fun A outer s H args us vs Q E hr he hb hv hs=>F.run A outer s H args us vs Q E hr he hb hv (h _ _ _ _ hs)⟩
theorem b3K.in1{P:AK}{w:AJ}{K:AE}{mg:Str->Option AA}{base:Heap}{A:AL}{outer:List Env}{s:AC}{H:Hp}(e:b3K P w K mg base A outer s H):
 b3K P w K mg base A.in1 outer s H:=⟨e.frames,e.mod,e.bs,e.bsz,e.funs,e.frf,e.hok,e.bare⟩
section
variable {X:Cx}{pins:List (AB×Obj)}{σ:St}{H:Hp}{s s':AC}
theorem l8.env0(I:l8 X pins σ H s):b3K X.prog X.w X.K X.mg X.base X.A X.stack s H:=
 ⟨I.ok.frames,I.ok.mod,I.bs,Nat.le_trans I.ok.bsz I.sz,I.stack,I.stkFree,I.hok,I.bare⟩
theorem l8.after{Q:VK}{u:AA}(I:l8 X pins σ H s)(h:CE X.stack X.prog X.w H s Q u s'):EP X pins σ Q u s':=by
 obtain⟨v,H',os,bare,un,hok,r,q⟩:=h
 obtain⟨hh,g,d,t,os'⟩:=s'
 obtain rfl:os'=s.os:=os
 exact⟨v,H',I.call (h':=hh) (g':=g) (d':=d) (t':=t) (ch:=[]) un hok bare (fun b z=>absurd z (by simp)),r,q⟩
end
def c2q(sp:Sp)(dvs:List V)(E:XK)(t:TA):TE:=fun σ H Q=>t σ H fun vs H1=>sp (vs++dvs) H1 Q E
def a39(K:AE)(fd:FuncData)(ps:List Str)(ds:List AA):Prop:=
 ∀(s:AC) (us:List AA),K.In s.heap->(us++ds).length=ps.length->BindsTo s fd ⟨us,[]⟩ (ps.zip (us++ds))
theorem a39.all{K:AE}{fd:FuncData}{ps:List Str}(h:∀us:List AA,us.length=ps.length->bindArgs fd ⟨us,[]⟩=pure (ps.zip us)):a39 K fd ps []:=fun s us _ hl=>by
 rw [Ad] at hl ⊢
 exact .of_eq (h us hl)
def a8Y(CX:CXT)(X:Cx)(E:XK):Prop:=∀(pins:List (AB×Obj)) (σ:St) (H:Hp) (s:AC) (e:AA) (s':AC),l8 X pins σ H s->CX X.stack H s E e s'->X.xe e s'
section
variable {X:Cx}{CX:CXT}{k:Nat}{f C:AB}{fd:FuncData}{ps:List Str}{sp:Sp}{dvs:List V}{ds:List AA}{E:XK}{x m:Str}{p pos apos:Pos}{e o:AF}{es:List AF}{ta:TE}{t:TA}
theorem b73{pins:List (AB×Obj)}{σ:St}{H:Hp}{s:AC}{Q:VK}{us:List AA}{vs:List V}(F:a05 X.prog X.w X.K X.mg X.base CX k f fd ps sp)(hr:R9 k X.A)(hb:a39 X.K fd ps ds)(hd:t7 dvs ds)(hx:a8Y CX X E)
 (I:l8 X pins σ H s) (r:t7 vs us) (h:sp (vs++dvs) H Q E):AI (model X.prog X.w) X.A (call (.ref f) us) (EP X pins σ Q) X.xe s:=by
 have r2:t7 (vs++dvs) (us++ds):=r.append hd
 have hl:(us++ds).length=ps.length:=by rw [<-r2.length];exact F.len _ _ _ _ h
 refine wpAny_call (codeAny_mono (F.run X.A X.stack s H ⟨us,[]⟩ (us++ds) (vs++dvs) Q E hr I.env0 (hb s us I.kIn hl) r2 h) fun r s' hq=> ?_)
 cases r with
 |error e=>exact hx pins σ H s e s' I hq
 |ok fl=>
  cases fl with
  |ret u=>exact I.after hq
  |next=>exact False.elim hq
  |brk=>exact False.elim hq
  |cont=>exact False.elim hq
theorem b5i(F:a05 X.prog X.w X.K X.mg X.base CX k f fd ps sp)(hr:R9 k X.A)(hg:Gl X x)(hm:X.mg x=some (.ref f))(hk:PySem.W.keepIn X.K (.ref f)=true)(hb:a39 X.K fd ps ds)(hd:t7 dvs ds)(hx:a8Y CX X E)
 (ha:PA X (e::es) t) (hdb:(x==("__debug__":Str))=false:=by decide) (he:AM (e::es) X.env=(false,eval e X.env)::AM es X.env:=by rfl) (hpl:(backTo pos (AM es X.env)).any (·.1)=false:=by rfl):
 PE X (.Call (.Name x p) (e::es) [] pos) (c2q sp dvs E t):=by
 intro pins s σ H Q I h
 refine wpAny_Call_Name_kw (a5u I hg hm ?_ hdb)
 refine PySem.W.callWith_K (h₀:=X.base) I.ok.mod.kin hk (U5 (ha pos pins s σ H _ I h) fun us s1 ⟨vs,H1,I1,r,q⟩=>⟨I1.kIn, ?_⟩) he hpl
 exact b73 F hr hb hd hx I1 r q
end
section
variable {X:Cx}{CX:CXT}{k:Nat}{f C:AB}{fd:FuncData}{ps ks:List Str}{sp:Sp}{E:XK}{x m:Str}{p pos apos kpos:Pos}{e o:AF}{es:List AF}{kws:List Keyword}{te ta:TE}{t tk:TA}{nm:Option Str}
variable {g:List AA->List AA->List AA}{gV:List V->List V->List V}
end
structure j8(N P:List Str)(sc:Scope):Prop where
 kind:sc.kind= .function
 co:sc.isCoroutine=false
 gen:sc.isGenerator=false
 nd:N.Nodup
 pre:N.take P.length=P
 par:∀x∈P,sc.names.lookup x=some .local\/sc.names.lookup x=some .cell
 nofree:∀y∈sc.names,y.2≠.free
theorem b0I{kindOf:Str->Option NameKind}{x:Str}:∀{binds:List (Str×AA)} {m:Str->Option AA},(∀v,(x,v)∉binds)->bindL kindOf binds m x=m x
 |[],_,_=>rfl
 |(n,v)::r,m,h=>by
  unfold bindL
  rw [b0I fun w hw=>h w (Ak _ hw)]
  split
  ·have:x≠n:=by rintro rfl;exact h v Al
   simp [this]
  ·rfl
theorem b0G{kindOf:Str->Option NameKind}{x:Str}:∀{binds:List (Str×AA)} {m:Str->Option AA},(∀v,(x,v)∉binds)->bindC kindOf binds m x=m x
 |[],_,_=>rfl
 |(n,v)::r,m,h=>by
  unfold bindC
  rw [b0G fun w hw=>h w (Ak _ hw)]
  split
  ·rfl
  ·have:x≠n:=by rintro rfl;exact h v Al
   simp [this]
theorem b0H{kindOf:Str->Option NameKind}{x:Str}{v:AA}:∀{P:List Str} {vs:List AA} {i:Nat} {m:Str->Option AA},P.Nodup->P[i]?=some x->vs[i]?=some v->kindOf x=some .local->
 bindL kindOf (P.zip vs) m x=some v
 |[],_,_,_,_,h,_,_=>by simp at h
 |_::_,[],_,_,_,_,h,_=>by simp at h
 |p::P,w::vs,0,m,nd,h1,h2,hk=>by
  simp at h1 h2;subst h1;subst h2
  show bindL kindOf ((p,w)::P.zip vs) m p=_
  unfold bindL
  rw [b0I fun v hv=>(List.nodup_cons.mp nd).1 (List.of_mem_zip hv).1,if_pos hk]
  simp
 |p::P,w::vs,i+1,m,nd,h1,h2,hk=>by
  show bindL kindOf ((p,w)::P.zip vs) m x=_
  unfold bindL
  exact b0H (i:=i) (List.nodup_cons.mp nd).2 (by simpa using h1) (by simpa using h2) hk
theorem b0F{kindOf:Str->Option NameKind}{x:Str}{v:AA}:∀{P:List Str} {vs:List AA} {i:Nat} {m:Str->Option AA},P.Nodup->P[i]?=some x->vs[i]?=some v->kindOf x≠some .local->
 bindC kindOf (P.zip vs) m x=some v
 |[],_,_,_,_,h,_,_=>by simp at h
 |_::_,[],_,_,_,_,h,_=>by simp at h
 |p::P,w::vs,0,m,nd,h1,h2,hk=>by
  simp at h1 h2;subst h1;subst h2
  show bindC kindOf ((p,w)::P.zip vs) m p=_
  unfold bindC
  rw [b0G fun v hv=>(List.nodup_cons.mp nd).1 (List.of_mem_zip hv).1,if_neg hk]
  simp
 |p::P,w::vs,i+1,m,nd,h1,h2,hk=>by
  show bindC kindOf ((p,w)::P.zip vs) m x=_
  unfold bindC
  exact b0F (i:=i) (List.nodup_cons.mp nd).2 (by simpa using h1) (by simpa using h2) hk
def a5X(N:List Str)(vs:List V):St:=vs.map some++Ab (N.length - vs.length) none
def a5H(CX:CXT)(P:AK)(w:AJ)(K:AE)(mg:Str->Option AA)(base:Heap)(N:List Str)(qual:Str)(scope:Scope)(f:AB)(cd:AA)(A:AL)(outer:List Env)(s:AC)(H:Hp)(E:XK):Cx where
 prog:=P
 w:=w
 K:=K
 mg:=mg
 base:=base
 A:=A.deeper (envOfC qual scope s.heap.objs.size f cd)
 N:=N
 s₀:=s
 H₀:=H
 env:=envOfC qual scope s.heap.objs.size f cd
 outer:=outer
 stack:=envOfC qual scope s.heap.objs.size f cd::outer
 ex:=[]
 calm:=true
 fn:=fun _=>true
 pn:=[]
 xe:=fun e s'=>AI (model P w) (A.deeper (envOfC qual scope s.heap.objs.size f cd)) (leaving (envOfC qual scope s.heap.objs.size f cd) e) (fun _ s''=>CX outer H s E e s'') (fun e' s''=>CX outer H s E e' s'') s'
theorem b2C{sc:Scope}{n:Nat}{x:Str}(h:sc.names.lookup x=some .cell):∃c,(cellsFrom n sc.names []).lookup x=some c:=by
 have q:=PySem.W.cellsFrom_some sc.names n [] (.inl h)
 exact Option.isSome_iff_exists.mp q
theorem b5Z{CX:CXT}{P:AK}{w:AJ}{K:AE}{mg:Str->Option AA}{base:Heap}{N ps:List Str}{qual:Str}{scope:Scope}{f:AB}{cd:AA}{A:AL}{outer:List Env}{s s1:AC}{H:Hp}{E:XK}{us:List AA}{vs:List V}
 (S:j8 N ps scope) (hd:A.handled=none) (e0:b3K P w K mg base A outer s H) (hl:vs.length=ps.length) (r:t7 vs us)
 (x:InCallC s s.heap.objs.size (bindL (envOfC qual scope s.heap.objs.size f cd).kindOf (ps.zip us) fun _=>none) (cellsFrom (s.heap.objs.size+1) scope.names []) (bindC (envOfC qual scope s.heap.objs.size f cd).kindOf (ps.zip us) fun _=>none) s1):
 l8 (a5H CX P w K mg base N qual scope f cd A outer s H E) [] (a5X N vs) H s1:=by
 have hpl:ps.length<=N.length:=by have:=congrArg List.length S.pre;rw [List.length_take] at this;lia
 obtain⟨h1,tk,rfl,hk⟩:=x.done
 have noA:∀b:AB,b∉(a5H CX P w K mg base N qual scope f cd A outer s H E).ex:=fun b z=>absurd (show b∈([]:List AB) from z) (by simp)
 refine⟨⟨e0.mod,S.kind,rfl,rfl,AZ _,fun y z c h1 h2=> ?_,fun y hy=> ?_,fun y c _ h=> ?_,fun _=>hd,Around.frames_deeper e0.frames,.inr ⟨rfl,rfl⟩,fun b z=>absurd z (noA b),e0.bs,e0.bsz,fun b _ _=>noA b,fun b z=>absurd z (noA b),e0.funs,e0.frf⟩,
  rfl,e0.bare,Un.kept hk,⟨_,x.toInCall.ns,fun i y v h1 h2 h3=> ?_⟩,fun y c h=>⟨_,x.cell y c h⟩,e0.hok.fresh (AZ _),fun y c h=> ?_,fun p hp=>absurd (show p∈([]:List (AB×Obj)) from hp) (by simp),e0.hok.kept hk, ?_⟩
 ·exact name_of_addr x.apart (PySem.mem_of_lookup h1) (PySem.mem_of_lookup h2)
 ·have hy:scope.names.lookup y=some .cell\/scope.names.lookup y=some .free:=hy
  rcases hy with hy|hy
  ·exact b2C hy
  ·exact absurd rfl (S.nofree _ (PySem.mem_of_lookup hy))
 ·exact BF (x.above y c (PySem.mem_of_lookup h))
 ·have hi:i<vs.length:=by
   unfold a5X at h2
   by_cases hi:i<vs.length
   ·exact hi
   ·rw [List.getElem?_append_right (by simpa using hi)] at h2
    rw [List.getElem?_replicate] at h2
    split at h2<;>cases h2
  have ha:vs[i]?=some v:=by
   unfold a5X at h2
   rw [BC (by simpa using hi),BB] at h2
   cases e:vs[i]? with
   |none=>rw [e] at h2;cases h2
   |some a=>rw [e] at h2;cases h2;rfl
  obtain⟨u,hu,rv⟩:=r.get ha
  have hp:ps[i]?=some y:=by
   rw [<-S.pre,List.getElem?_take_of_lt (by lia)];exact h1
  have ndP:ps.Nodup:=by rw [<-S.pre];exact S.nd.sublist (List.take_sublist _ _)
  refine⟨u,rv, ?_⟩
  rcases S.par y (BD hp) with k|k
  ·exact .inl ⟨k,b0H ndP hp hu k⟩
  ·obtain⟨c,e⟩:=b2C (n:=s.heap.objs.size+1) k
   refine .inr ⟨.inl k,c,e, ?_⟩
   have q:=x.cell y c e
   rw [b0F ndP hp hu (by show scope.names.lookup y≠_;rw [k];decide)] at q
   exact q
 ·exact e0.hok.fresh (BF (x.above y c (PySem.mem_of_lookup h)))
 ·unfold a5X
  show _=N.length
  rw [AX,Ae,List.length_replicate]
  lia
theorem b9Z{CX:CXT}{P:AK}{w:AJ}{K:AE}{mg:Str->Option AA}{base:Heap}{k:Nat}{f:AB}{name qual:Str}{params:Arguments}{body:List Stmt}{scope:Scope}{dV kV doc pm cdv ct oc:AA}{an od:Option AB}
 {osl:Array (Option AA)} {N ps:List Str} {sp:Sp} (lk:K.lookup f=some ⟨oc,od,.func (PySem.W.fnOf name qual params body scope dV kV doc pm an cdv ct),osl⟩) (hcd:PySem.W.codeIn K cdv qual=true) (S:j8 N ps scope)
 (len:∀vs H Q E,sp vs H Q E->vs.length=ps.length)
 (hbody:∀(A:AL) (outer:List Env) (s:AC) (H:Hp) (vs:List V) (Q:VK) (E:XK),R9 k (A.deeper (envOfC qual scope s.heap.objs.size f cdv))->sp vs H Q E->
  ∃t,PSs (a5H CX P w K mg base N qual scope f cdv A outer s H E) body t/\t {nx:=fun _ H'=>Q .non H',rt:=Q} (a5X N vs) H):
 a05 P w K mg base CX (k+1) f (PySem.W.fnOf name qual params body scope dV kV doc pm an cdv ct) ps sp:=by
 refine⟨len,fun A outer s H args us vs Q E hr e0 hb r hsp=> ?_⟩
 have hl:=len _ _ _ _ hsp
 have KX:K.In s.heap:=e0.mod.kin.keeps fun b o e=>(e0.bs b o e).1
 have lim:s.heap.NoLimit:=e0.mod.nolimit.keeps fun b o e=>(e0.bs b o e).1
 have hkind:∀y∈ps.zip us,scope.names.lookup y.1=some .local\/(scope.names.lookup y.1=some .cell/\((cellsFrom (s.heap.objs.size+1) scope.names []).lookup y.1).isSome=true):=fun⟨n,v⟩ hy=>by
  rcases S.par n (List.of_mem_zip hy).1 with q|q
  ·exact .inl q
  ·exact .inr ⟨q,PySem.W.cellsFrom_some _ _ _ (.inl q)⟩
 refine codeAny_call_function hr.depth (KX _ _ lk) rfl S.co S.gen rfl (PySem.W.codeRec_of KX hcd) (hb _ _ _ _ ?_)
 refine wpAny_newFunctionEnv_cells S.kind hkind fun env he s1 x=> ?_
 subst he
 refine⟨lim.keeps x.toInCall.keep,codeAny_func ?_⟩
 obtain⟨t,ht,hq⟩:=hbody A outer s H vs Q E (hr.deeper _) hsp
 have I:l8 (a5H CX P w K mg base N qual scope f cdv A outer s H E) [] (a5X N vs) H s1:=b5Z S hr.hd e0 hl r x
 refine wpAny_mono (ht [] s1 (a5X N vs) H _ I hq) (fun fl s' hs=> ?_) fun e s' hs=>hs
 have fin:∀{σ':St} {H':Hp} {v:V} {u:AA},l8 (a5H CX P w K mg base N qual scope f cdv A outer s H E) [] σ' H' s'->A4 v u->Q v H'->CE outer P w H s Q u s':=
  fun {σ' H' v u} J rv q=>⟨v,H',J.os,J.bare,J.base,J.hok,rv,q⟩
 cases fl with
 |ret u=>
  obtain⟨v,σ',H',J,rv,q⟩:=hs
  exact fin J rv q
 |next=>
  obtain⟨σ',H',J,q⟩:=hs
  exact fin (v:=V.non) (u:=Value.none) J rfl q
 |brk=>
  obtain⟨_,_,_,q⟩:=hs
  exact False.elim q
 |cont=>
  obtain⟨_,_,_,q⟩:=hs
  exact False.elim q
section
variable {X:Cx}{x:Str}{p pos:Pos}{e:AF}{es:List AF}{t:TA}{id T:String}{r:List V->Hp->VK->Prop}
def tCB(r:List V->Hp->VK->Prop)(t:TA):TE:=fun σ H Q=>t σ H fun vs H1=>r vs H1 Q
theorem a4V(hc:O7 X (.builtin id) r)(hg:Gl X x)(hm:X.mg x=none)(hv:bootBuiltins x=some (.builtin id))(ha:PA X (e::es) t)(hn:x≠"__name__":=by decide)(hdb:(x==("__debug__":Str))=false:=by decide)
 (he:AM (e::es) X.env=(false,eval e X.env)::AM es X.env:=by rfl) (hpl:(backTo pos (AM es X.env)).any (·.1)=false:=by rfl):PE X (.Call (.Name x p) (e::es) [] pos) (tCB r t):=by
 intro pins s σ H Q I h
 refine wpAny_Call_Name_kw (b1N I hg hm hv ?_ hn hdb)
 exact PyProof.Rows.callWith_builtin1 (U5 (ha pos pins s σ H _ I h) fun us s1 ⟨vs,H1,I1,r1,q1⟩=>hc pins s1 σ H1 vs us Q I1 r1 q1) he hpl
theorem b1a(hc:O7 X (.type T) r)(hg:Gl X x)(hm:X.mg x=none)(hv:bootBuiltins x=some (.type T))(ha:PA X (e::es) t)(hn:x≠"__name__":=by decide)(hdb:(x==("__debug__":Str))=false:=by decide)
 (he:AM (e::es) X.env=(false,eval e X.env)::AM es X.env:=by rfl) (hpl:(backTo pos (AM es X.env)).any (·.1)=false:=by rfl):PE X (.Call (.Name x p) (e::es) [] pos) (tCB r t):=by
 intro pins s σ H Q I h
 refine wpAny_Call_Name_kw (b1N I hg hm hv ?_ hn hdb)
 exact PyProof.Rows.callWith_type1 (U5 (ha pos pins s σ H _ I h) fun us s1 ⟨vs,H1,I1,r1,q1⟩=>hc pins s1 σ H1 vs us Q I1 r1 q1) he hpl
end
end L2
namespace HT
open PySem PyProof.Rows
section
open PySem.SeqAt
open PySem.AutoSeq1 (wpAny_loadPart')
open PySem.MeetsSeq PySem.MeetsSeq2 PySem.MeetsSeq3
end
section
variable {prog:AK}{w:AJ}{A:AL}{E:AA->AC->Prop}{s:AC}
theorem cat_tup{t b:AB}{vs ws:List AA}{Q:AA->AC->Prop}(ht:IsTup s.heap t vs.toArray)(hb:IsTup s.heap b ws.toArray)(hv:vs≠[])
 (h1:ws=[]->Q (.ref t) s) (h2:ws≠[]->Q (.ref s.heap.objs.size) {s with heap:=s.heap.push {cls:= .type "tuple",data:= .seq (vs++ws).toArray}})
 (hsz:vs.length+ws.length<=AU):AI (model prog w) A (binaryOp .Add (.ref t) (.ref b)) Q E s:=by
 obtain⟨⟨cls,dd,data,sl⟩,ho,hc,n,hd⟩:=id ht
 obtain⟨⟨cls2,dd2,data2,sl2⟩,ho2,hc2,n2,hd2⟩:=id hb
 simp only at hc hd hc2 hd2
 subst hc hd hc2 hd2
 have e:vs.toArray++ws.toArray=(vs++ws).toArray:=by simp
 by_cases hw:ws=[]
 ·exact concat_meets ⟨_,ho,rfl⟩ ⟨_,ho2,rfl⟩ noFill_tuple_add seq_tuple_add PySem.F.slot_tuple_add PySem.F.entry_tuple_add (PySem.F.args_tuple_add_2 _ _)
   (tuple_addW1 t b vs.toArray ws.toArray n n2 dd dd2 sl sl2 (by simpa using hv) (by simp [hw])) ⟨ho,ho2,h1 hw⟩
 ·refine concat_meets ⟨_,ho,rfl⟩ ⟨_,ho2,rfl⟩ noFill_tuple_add seq_tuple_add PySem.F.slot_tuple_add PySem.F.entry_tuple_add (PySem.F.args_tuple_add_2 _ _)
   (tuple_addW2 t b vs.toArray ws.toArray n n2 dd dd2 sl sl2 (by simpa using hv) (by simpa using hw) (by rw [Aj,Aj];exact hsz)) ⟨ho,ho2, ?_⟩
  rw [e]
  exact h2 hw
def sIx(n d:Nat):Option Int->Nat
 |none=>d
 |some v=>if v<0 then(v+(n:Int)).toNat else min v.toNat n
theorem sIx_none(n d:Nat):sIx n d none=d:=rfl
theorem sIx_nat(n d k:Nat):sIx n d (some (k:Int))=min k n:=by
 show(if(k:Int)<0 then((k:Int)+(n:Int)).toNat else min (k:Int).toNat n)=min k n
 rw [if_neg (by lia),BI]
theorem sIx_le(n d:Nat)(hd:d<=n)(o:Option Int):sIx n d o<=n:=by
 cases o with
 |none=>exact hd
 |some v=>
  show(if v<0 then(v+(n:Int)).toNat else min v.toNat n)<=n
  by_cases hv:v<0
  ·rw [if_pos hv];lia
  ·rw [if_neg hv];exact Nat.min_le_right _ _
theorem b4G(v:Int)(n d:Nat):(if v<0 then max (v+(n:Int)) 0 else min v (n:Int))=((sIx n d (some v):Nat):Int):=by
 show(if v<0 then max (v+(n:Int)) 0 else min v (n:Int))=(((if v<0 then(v+(n:Int)).toNat else min v.toNat n):Nat):Int)
 by_cases hv:v<0
 ·simp only [if_pos hv];lia
 ·simp only [if_neg hv];lia
theorem b3Q(lo hi:Option Int)(n:Nat):Builtin.Slice.sliceAdjust lo hi 1 (n:Int)=(((sIx n 0 lo:Nat):Int),((sIx n n hi:Nat):Int)):=by
 have h1:¬((1:Int)<0):=by lia
 unfold Builtin.Slice.sliceAdjust
 simp only [h1,if_false]
 refine Prod.ext ?_ ?_
 ·cases lo with
  |none=>rfl
  |some v=>exact b4G v n 0
 ·cases hi with
  |none=>rfl
  |some v=>exact b4G v n n
theorem b4q(i j:Nat):Builtin.Slice.slicePlaces (i:Int) (j:Int) 1=j - i:=by
 unfold Builtin.Slice.slicePlaces
 have h1:(1:Int)>0:=by lia
 simp only [h1,if_true,Int.ediv_one]
 split<;>lia
theorem a98{v:AA}{o:Option Int}{Q:Option Int->AC->Prop}(p:IsPart v o)(h:Q o s):AI (model prog w) A (Builtin.Slice.slicePartIndex v) Q E s:=by
 cases p with
 |none=>exact slicePart_none h
 |int i t=>exact slicePart_int h
theorem sliceApplied_gen{sl:AB}{vl vu:AA}{lo hi:Option Int}{n:Nat}{Q:Int×Int×Nat->AC->Prop}(hs:s.heap.IsSliceOf sl vl vu .none)(pl:IsPart vl lo)(pu:IsPart vu hi)
 (h:Q (((sIx n 0 lo:Nat):Int),1,sIx n n hi - sIx n 0 lo) s):AI (model prog w) A (Builtin.Slice.sliceApplied (.ref sl) (pure (n:Int))) Q E s:=by
 obtain⟨os,hos,hcs,hds⟩:=id hs
 unfold Builtin.Slice.sliceApplied Builtin.Slice.sliceFields
 refine AG (AG (wpAny_field hos hds (x:=vl) rfl (AG (wpAny_field hos hds (x:=vu) rfl (AG (wpAny_field hos hds (x:= .none) rfl (Aa ?_)))))))
 refine AG (slicePart_none ?_)
 show AI _ _ (if((1:Int)==0)=true then _ else _) _ _ s
 rw [if_neg (by decide)]
 refine AG (a98 pl (AG (a98 pu (AG (Aa ?_)))))
 show AI _ _ (match Builtin.Slice.sliceAdjust lo hi 1 (n:Int) with|(lo,hi)=>pure (lo,(1:Int),Builtin.Slice.slicePlaces lo hi 1)) _ _ s
 rw [b3Q lo hi n]
 show AI _ _ (pure (((sIx n 0 lo:Nat):Int),(1:Int),Builtin.Slice.slicePlaces ((sIx n 0 lo:Nat):Int) ((sIx n n hi:Nat):Int) 1)) _ _ s
 rw [b4q]
 exact Aa h
theorem b7L(xs:Array AA)(i k:Nat):((Ac k).filterMap fun(m:Nat)=>xs[((i:Int)+(m:Int)*1).toNat]?).toArray=((xs.toList.drop i).take k).toArray:=by
 have e:(fun(m:Nat)=>xs[((i:Int)+(m:Int)*1).toNat]?)=fun m=>xs[i+m]?:=by
  funext m
  have:((i:Int)+(m:Int)*1).toNat=i+m:=by lia
  rw [this]
 rw [e]
 have:=pick_run xs i k
 rw [List.filterMap_map] at this
 have e2:((fun x=>xs[x]?)∘fun x=>i+x)=fun m=>xs[i+m]?:=rfl
 rw [e2] at this
 rw [this]
theorem getItem_tuple_cut{t sl:AB}{items:Array AA}{vl vu:AA}{lo hi:Option Int}{Q:AA->AC->Prop}(ht:IsTup s.heap t items)(hs:s.heap.IsSliceOf sl vl vu .none)(pl:IsPart vl lo)(pu:IsPart vu hi)
 (hw:¬(sIx items.size 0 lo=0/\sIx items.size items.size hi=items.size))
 (h:Q (.ref s.heap.objs.size) {s with heap:=s.heap.push {cls:= .type "tuple",data:= .seq ((items.toList.drop (sIx items.size 0 lo)).take (sIx items.size items.size hi - sIx items.size 0 lo)).toArray}})
 (hsz:items.size<=AU):AI (model prog w) A (getItem (.ref t) (.ref sl)) Q E s:=by
 have htake:sizeOk (.seq ((items.toList.drop (sIx items.size 0 lo)).take (sIx items.size items.size hi - sIx items.size 0 lo)).toArray):=by
  show((items.toList.drop (sIx items.size 0 lo)).take (sIx items.size items.size hi - sIx items.size 0 lo)).toArray.size<=AU
  rw [Aj,List.length_take,List.length_drop,Array.length_toList]
  lia
 have hj:sIx items.size items.size hi<=items.size:=sIx_le _ _ (AZ _) hi
 obtain⟨os,hos,hcs,hds⟩:=id hs
 have hTs:s.TypeIs (.ref sl) "slice":=⟨os,hos,hcs⟩
 unfold getItem
 try with_reducible refine wpAny_holding ?_
 first|refine AG (Aa ?_)|skip
 refine AG (wpAny_sequenceKey ht.typeIs (by decide) ?_)
 refine AG (wpAny_callSpecial?_slot (name:=AY "__getitem__") ht.typeIs PyProof.Rows.slot_tuple_getitem
  (wpAny_call_entry PyProof.Rows.slot_tuple_getitem ht.typeIs entry_tuple_getitem ?_ (args_tuple_getitem _ _)))
 show AI _ _ (Builtin.Tuple.tupleItemsOf (.ref t)>>=_) _ _ s
 refine AG (tupleItemsOf_ ht ?_)
 refine AG (wpAny_typeOf hTs ?_)
 rw [if_pos (by decide)]
 refine AG (sliceApplied_gen hs pl pu ?_)
 have hno:¬((((sIx items.size 0 lo:Nat):Int)==0 &&(1:Int)==1 &&(sIx items.size items.size hi - sIx items.size 0 lo)==items.size)=true):=by
  intro q
  rw [Bool.and_eq_true,Bool.and_eq_true] at q
  have q1:((sIx items.size 0 lo:Nat):Int)=0:=eq_of_beq q.1.1
  have q2:sIx items.size items.size hi - sIx items.size 0 lo=items.size:=eq_of_beq q.2
  exact hw ⟨by lia,by lia⟩
 show AI _ _ (if(((sIx items.size 0 lo:Nat):Int)==0 &&(1:Int)==1 &&(sIx items.size items.size hi - sIx items.size 0 lo)==items.size)=true then _ else _) _ _ s
 rw [if_neg hno,b7L]
 first
  |exact AG (m:=Builtin.Tuple.tupleExact _) (wpAny_newObj_type (Aa ⟨_,rfl,Aa h⟩) htake)
  |exact AG (m:=Builtin.Tuple.tupleExact _) (wpAny_newObj_type (AG (Aa (Aa ⟨_,rfl,Aa h⟩))) htake)
  |exact AG (AG (m:=Builtin.Tuple.tupleExact _) (wpAny_newObj_type (Aa (Aa ⟨_,rfl,Aa h⟩)) htake))
  |exact AG (AG (m:=Builtin.Tuple.tupleExact _) (wpAny_newObj_type (Aa ⟨_,rfl,Aa h⟩) htake))
end
end HT
namespace L2
open PySem PySem.Spec PyProof.Rows
abbrev TO:=St->Hp->(Option Int->Hp->Prop)->Prop
def PO(X:Cx)(e:Option AF)(t:TO):Prop:=
 ∀(pins:List (AB×Obj)) (s:AC) (σ:St) (H:Hp) (Q:Option Int->Hp->Prop),l8 X pins σ H s->t σ H Q->
  AI (model X.prog X.w) X.A (evalPart e X.env) (fun u s'=>∃o H',l8 X pins σ H' s'/\IsPart u o/\Q o H') X.xe s
def b9J:TO:=fun _ H Q=>Q none H
def c2u(t:TE):TO:=fun σ H Q=>t σ H fun x H1=>∃i,x= .int i/\Q (some i) H1
section
variable {X:Cx}{e:AF}{te:TE}{lo hi:Option AF}{tl th:TO}{pos p2:Pos}
theorem b9o:PO X none b9J:=by
 intro pins s σ H Q I h
 rw [evalPart_none]
 exact Aa ⟨none,H,I,.none,h⟩
theorem b9p(h:PE X e te):PO X (some e) (c2u te):=by
 intro pins s σ H Q I hw
 rw [evalPart_some]
 refine U5 (h pins s σ H _ I hw) fun u s1 ⟨x,H1,I1,r1,q1⟩=> ?_
 obtain⟨i,rfl,q⟩:=q1
 obtain⟨t,rfl⟩:=r1
 exact⟨some i,H1,I1,.int i t,q⟩
def SlR(X:Cx)(r:V->Option Int->Option Int->Hp->VK->Prop):Prop:=
 ∀(pins:List (AB×Obj)) (s:AC) (σ:St) (H:Hp) (x:V) (v vl vu:AA) (lo hi:Option Int) (sl:AB) (Q:VK),l8 X pins σ H s->A4 x v->s.heap.IsSliceOf sl vl vu .none->IsPart vl lo->IsPart vu hi->r x lo hi H Q->
  ∃T id,typeLookup (.type T) "__getitem__"=pure (some (.builtin id))/\s.TypeIs v T/\AI (model X.prog X.w) X.A (getItem v (.ref sl)) (EP X pins σ Q) X.xe s
theorem SlR.or{r r':V->Option Int->Option Int->Hp->VK->Prop}(h:SlR X r)(h':SlR X r'):SlR X (fun x lo hi H Q=>r x lo hi H Q\/r' x lo hi H Q):=by
 intro pins s σ H x v vl vu lo hi sl Q I rx hs pl pu q
 rcases q with q|q
 ·exact h pins s σ H x v vl vu lo hi sl Q I rx hs pl pu q
 ·exact h' pins s σ H x v vl vu lo hi sl Q I rx hs pl pu q
def tSl(r:V->Option Int->Option Int->Hp->VK->Prop)(te:TE)(tl th:TO):TE:=fun σ H Q=>te σ H fun x H1=>tl σ H1 fun l H2=>th σ H2 fun u H3=>r x l u H3 Q
theorem b7J{r:V->Option Int->Option Int->Hp->VK->Prop}(hr:SlR X r)(he:PE X e te)(hl:PO X lo tl)(hu:PO X hi th):PE X (.Subscript e (.Slice lo hi none p2) pos) (tSl r te tl th):=by
 intro pins s σ H Q I h
 refine Subscript_ (U5 (he pins s σ H _ I h) fun v s1 ⟨x,H1,I1,r1,q1⟩=> ?_)
 refine wpAny_Slice (U5 (hl pins s1 σ H1 _ I1 q1) fun vl s2 ⟨l,H2,I2,pl,q2⟩=>U5 (hu pins s2 σ H2 _ I2 q2) fun vu s3 ⟨u,H3,I3,pu,q3⟩=> ?_)
 rw [evalPart_none]
 refine Aa ?_
 have I4:l8 X pins σ H3 {s3 with heap:=s3.heap.push {cls:= .type "slice",data:= .fields #[vl,vu,.none]}}:=I3.kept (t':=s3.toks) fun b ob q=>An _ q
 obtain⟨T,id,hT,ht,hg⟩:=hr pins {s3 with heap:=s3.heap.push {cls:= .type "slice",data:= .fields #[vl,vu,.none]}} σ H3 x v vl vu l u s3.heap.objs.size Q I4 r1 (Heap.IsSliceOf.new ..) pl pu q3
 show AI (model X.prog X.w) X.A (subscriptTail e (.Slice lo hi none p2) v (.ref s3.heap.objs.size)) (EP X pins σ Q) X.xe {s3 with heap:=s3.heap.push {cls:= .type "slice",data:= .fields #[vl,vu,.none]}}
 exact tail_any (ops:=[.ref s3.heap.objs.size,v]) ht hT hg (by with_unfolding_all rfl)
def b8I(xs:List V)(lo hi:Option Int):List V:=(xs.drop (HT.sIx xs.length 0 lo)).take (HT.sIx xs.length xs.length hi - HT.sIx xs.length 0 lo)
theorem b2E(xs:List V)(lo hi:Option Int):(b8I xs lo hi).length<=xs.length:=by
 unfold b8I
 rw [List.length_take,List.length_drop]
 lia
def c2X(K:AE):V->Option Int->Option Int->Hp->VK->Prop:=fun x lo hi H Q=>∃a xs,x= .ref a/\SqT K H a xs/\
 ¬(HT.sIx xs.length 0 lo=0/\HT.sIx xs.length xs.length hi=xs.length)/\∀p,H p=none->Q (.ref p) (upd H p (.tup (b8I xs lo hi)))
theorem c1t:SlR X (c2X X.K):=by
 intro pins s σ H x v vl vu lo hi sl Q I rx hs pl pu h
 obtain⟨a,xs,rfl,hx,hw,q⟩:=h
 cases rx
 obtain⟨its,r,ht,hz⟩:=I.tuple hx
 have hlen:its.toArray.size=xs.length:=by rw [Aj];exact r.length.symm
 refine⟨"tuple",_,PyProof.Rows.slot_tuple_getitem.lookup,ht.typeIs, ?_⟩
 refine HT.getItem_tuple_cut ht hs pl pu (by rw [hlen];exact hw) ?_ (by rw [hlen];exact hz)
 rw [hlen]
 refine⟨.ref s.heap.objs.size,_,I.laid (t':=s.toks) (o:= .tup (b8I xs lo hi)) (fun b ob q=>An _ q) (AZ _) ?_,rfl,q _ (I.hok.fresh (AZ _))⟩
 exact⟨Nat.le_trans (b2E xs lo hi) hz,_,(r.drop (HT.sIx xs.length 0 lo)).take (HT.sIx xs.length xs.length hi - HT.sIx xs.length 0 lo),IsTup.new _ _⟩
def c2i(K:AE):R2:=fun x y H Q=>∃a b xs ys,x= .ref a/\y= .ref b/\SqT K H a xs/\SqT K H b ys/\xs≠[]/\xs.length+ys.length<=AU/\
 (ys=[]->Q (.ref a) H)/\(ys≠[]->∀p,H p=none->Q (.ref p) (upd H p (.tup (xs++ys))))
theorem t7.nil_iff{xs:List V}{us:List AA}(r:t7 xs us):us=[]↔xs=[]:=by
 cases r with
 |nil=>simp
 |cons _ _=>simp
theorem b9f:OpR X (binaryOp .Add) (c2i X.K):=by
 intro pins s σ H x y v u Q I rx ry h
 obtain⟨a,b,xs,ys,rfl,rfl,ha,hb,hx,hz,q1,q2⟩:=h
 cases rx
 cases ry
 obtain⟨its,r1,p1,_⟩:=I.tuple ha
 obtain⟨its2,r2,p2,_⟩:=I.tuple hb
 refine HT.cat_tup p1 p2 (fun z=>hx (r1.nil_iff.mp z)) (fun z=>⟨.ref a,H,I,rfl,q1 (r2.nil_iff.mp z)⟩) (fun z=> ?_) (by rw [<-r1.length,<-r2.length];exact hz)
 refine⟨.ref s.heap.objs.size,_,I.laid (t':=s.toks) (o:= .tup (xs++ys)) (fun b ob q=>An _ q) (AZ _) ?_,rfl,q2 (fun w=>z (r2.nil_iff.mpr w)) _ (I.hok.fresh (AZ _))⟩
 exact⟨by rw [AX];exact hz,_,r1.append r2,IsTup.new _ _⟩
end
def ixN(n:Nat)(i:Int):Option Nat:=if 0<=i then(if i<n then some i.toNat else none) else if -(n:Int)<=i then some (i+n).toNat else none
def atI{α:Type}(xs:List α)(i:Int):Option α:=(ixN xs.length i).bind fun j=>xs[j]?
theorem b42{n:Nat}{i:Int}{j:Nat}(h:ixN n i=some j):seqIndex? i n=some j/\j<n/\ -(n:Int)<=i/\i<n:=by
 unfold ixN at h
 by_cases h0:0<=i
 ·rw [if_pos h0] at h
  by_cases h1:i<n
  ·rw [if_pos h1] at h
   have e:i.toNat=j:=Option.some.inj h
   exact⟨by rw [seqIndex_of h0 h1,e],by lia,by lia,h1⟩
  ·rw [if_neg h1] at h;cases h
 ·rw [if_neg h0] at h
  by_cases h1: -(n:Int)<=i
  ·rw [if_pos h1] at h
   have e:(i+n).toNat=j:=Option.some.inj h
   exact⟨by rw [seqIndex_neg (by lia) h1,e],by lia,h1,by lia⟩
  ·rw [if_neg h1] at h;cases h
theorem b1k{α:Type}{xs:List α}{i:Int}{v:α}(h:atI xs i=some v):∃j,seqIndex? i xs.length=some j/\xs[j]?=some v/\j<xs.length/\ -(xs.length:Int)<=i/\i<xs.length:=by
 unfold atI at h
 cases e:ixN xs.length i with
 |none=>rw [e] at h;cases h
 |some j=>
  rw [e] at h
  obtain⟨h1,h2,h3,h4⟩:=b42 e
  exact⟨j,h1,h,h2,h3,h4⟩
def b4E(b:AF):Prop:=∀o i,subscripted b false o i=operate [o,i] (getItem o i)
def IxR(X:Cx)(r:R2):Prop:=
 ∀(value slice:AF) (pins:List (AB×Obj)) (s:AC) (σ:St) (H:Hp) (x y:V) (v u:AA) (Q:VK),l8 X pins σ H s->A4 x v->A4 y u->r x y H Q->
  subscripted slice false v u=operate [v,u] (getItem v u)->AI (model X.prog X.w) X.A (subscriptTail value slice v u) (EP X pins σ Q) X.xe s
def MtR(X:Cx)(id:String)(r:V->List V->Hp->VK->Prop):Prop:=
 ∀(pins:List (AB×Obj)) (s:AC) (σ:St) (H:Hp) (x:V) (xs:List V) (v:AA) (us:List AA) (Q:VK),l8 X pins σ H s->A4 x v->t7 xs us->r x xs H Q->
  AI (model X.prog X.w) X.A (call (.builtin id) (v::us)) (EP X pins σ Q) X.xe s
section
variable {X:Cx}{a b:AF}{ta tb:TE}{pos:Pos}
theorem IxR.or{r r':R2}(h:IxR X r)(h':IxR X r'):IxR X (fun x y H Q=>r x y H Q\/r' x y H Q):=by
 intro value slice pins s σ H x y v u Q I rx ry q hs
 rcases q with q|q
 ·exact h value slice pins s σ H x y v u Q I rx ry q hs
 ·exact h' value slice pins s σ H x y v u Q I rx ry q hs
theorem MtR.or{id:String}{r r':V->List V->Hp->VK->Prop}(h:MtR X id r)(h':MtR X id r'):MtR X id (fun x xs H Q=>r x xs H Q\/r' x xs H Q):=by
 intro pins s σ H x xs v us Q I rx rs q
 rcases q with q|q
 ·exact h pins s σ H x xs v us Q I rx rs q
 ·exact h' pins s σ H x xs v us Q I rx rs q
theorem c2d{r:R2}(hr:IxR X r)(ha:PE X a ta)(hb:PE X b tb)(hs:b4E b):PE X (.Subscript a b pos) (tOp r ta tb):=by
 intro pins s σ H Q I h
 exact Subscript_ (c0q ha hb I h fun v u s2 x y H2 I2 rx ry q=>hr a b pins s2 σ H2 x y v u Q I2 rx ry q (hs _ _))
def c2T(K:AE):R2:=fun x y H Q=>∃p xs i v,x= .ref p/\y= .int i/\SqL K H p xs/\atI xs i=some v/\Q v H
def c2V(K:AE):R2:=fun x y H Q=>∃p xs i v,x= .ref p/\y= .int i/\SqT K H p xs/\atI xs i=some v/\Q v H
def c2U:R2:=fun x y H Q=>∃z i c,x= .str z/\y= .int i/\z.length<=AU/\atI z.cps.toList i=some c/\Q (.str ⟨#[c]⟩) H
theorem b81:IxR X (c2T X.K):=by
 intro value slice pins s σ H x y v u Q I rx ry h hs
 obtain⟨p,xs,i,z,rfl,rfl,hq,he,q⟩:=h
 cases rx
 obtain⟨t,rfl⟩:=ry
 obtain⟨its,r,pl,hz⟩:=I.list hq
 obtain⟨j,h1,h2,h3,h4,h5⟩:=b1k he
 obtain⟨w,ew,rw'⟩:=r.get h2
 have hl:=r.length
 have hn:=a6h
 have fin:EP X pins σ Q w s:=⟨z,H,I,rw',q⟩
 by_cases h0:0<=i
 ·have hj:i.toNat=j:=by
   rw [seqIndex_of h0 h5] at h1
   exact Option.some.inj h1
  exact item_listR pl.isList h0 (by lia) (by rw [hj];simpa using ew) fin hs
 ·have hj:(i+(its.toArray.size:Int)).toNat=j:=by
   rw [seqIndex_neg (by lia) h4] at h1
   rw [Aj,<-hl]
   exact Option.some.inj h1
  exact subscriptTail_builtinR (x:=w) pl.isList.typeIs slot_list_getitem.lookup
   (wpAny_getItem_list_neg (Q:=fun r s'=>r=w/\EP X pins σ Q r s') pl.isList (by lia) (by rw [Aj]<;>lia) (by lia) (by rw [hj];simpa using ew) ⟨rfl,fin⟩) hs
theorem c0L:IxR X (c2V X.K):=by
 intro value slice pins s σ H x y v u Q I rx ry h hs
 obtain⟨p,xs,i,z,rfl,rfl,hq,he,q⟩:=h
 cases rx
 obtain⟨t,rfl⟩:=ry
 obtain⟨its,r,pl,hz⟩:=I.tuple hq
 obtain⟨j,h1,h2,h3,h4,h5⟩:=b1k he
 obtain⟨w,ew,rw'⟩:=r.get h2
 have hl:=r.length
 have hn:=a6h
 have fin:EP X pins σ Q w s:=⟨z,H,I,rw',q⟩
 exact subscriptTail_builtinR (x:=w) pl.typeIs slot_tuple_getitem.lookup
  (getItem_tuple (j:=j) (Q:=fun r s'=>r=w/\EP X pins σ Q r s') pl (by lia) (by lia) (by rw [Aj,<-hl];exact h1) (by simpa using ew) ⟨rfl,fin⟩) hs
theorem c0K:IxR X c2U:=by
 intro value slice pins s σ H x y v u Q I rx ry h hs
 obtain⟨z,i,c,rfl,rfl,hz,he,q⟩:=h
 obtain⟨t,rfl⟩:=rx
 obtain⟨t',rfl⟩:=ry
 obtain⟨j,h1,h2,h3,h4,h5⟩:=b1k he
 have hl:z.cps.toList.length=z.length:=by simp [Str.length]
 rw [hl] at h1 h4 h5
 have hn:=a6h
 exact tail_any (typeIs_str s z t) slot_str_getitem.lookup (getItem_str (c:=c) (by
  have e1:decide (i< -(2 ^ 63:Int))=false:=decide_eq_false (by lia)
  have e2:decide (i>=2 ^ 63)=false:=decide_eq_false (by lia)
  rw [e1,e2,Bool.or_false]) (by rw [h1];simpa using h2) ⟨.str ⟨#[c]⟩,H,I.tok _,⟨_,rfl⟩,q⟩) hs
theorem b4d(its:List AA)(n j:Nat)(u:AA):Obj.mapSeq (·.setIfInBounds j u) {cls:= .type "list",data:= .seq its.toArray n}={cls:= .type "list",data:= .seq (its.set j u).toArray n}:=by
 simp [Obj.mapSeq]
theorem l8.lst{pins:List (AB×Obj)}{σ:St}{H:Hp}{s:AC}{p:AB}{xs:List V}(I:l8 X pins σ H s)(h:H p=some (.lst xs)):
 ∃(its:List AA) (n:Nat),t7 xs its/\s.heap.get? p=some {cls:= .type "list",data:= .seq its.toArray n}/\xs.length<=AU:=by
 obtain⟨z,its,n,r,e⟩:=I.hok p _ h
 exact⟨its,n,r,e,z⟩
theorem l8.lstUpd{pins:List (AB×Obj)}{σ:St}{H:Hp}{s:AC}{p:AB}{xs ys:List V}{its its':List AA}{n n':Nat}{f:Obj->Obj}(I:l8 X pins σ H s)(h:H p=some (.lst xs))
 (ho:s.heap.get? p=some {cls:= .type "list",data:= .seq its.toArray n}) (hf:f {cls:= .type "list",data:= .seq its.toArray n}={cls:= .type "list",data:= .seq its'.toArray n'}) (r:t7 ys its') (hz:ys.length<=AU) (t:Nat):
 l8 X pins σ (upd H p (.lst ys)) {s with heap:=s.heap.update p f,toks:=t}:=by
 have e:(s.heap.update p f).get? p=some {cls:= .type "list",data:= .seq its'.toArray n'}:=by
  rw [Heap.get?_update_self f ho (by rw [hf]<;>rfl),hf]
 refine I.write (x:=p) (e:=p) (by rw [h];trivial) (.inl rfl) (fun b u hb q=>(Heap.get?_update_other _ _ (Ne.symm hb)).trans q) ⟨_,e⟩ ?_
 exact⟨hz,its',n',r,e⟩
def b98:V->V->V->Hp->(Hp->Prop)->Prop:=fun o i v H Q=>∃p xs k j,o= .ref p/\i= .int k/\H p=some (.lst xs)/\ixN xs.length k=some j/\Q (upd H p (.lst (xs.set j v)))
theorem b78:c1H X b98:=by
 intro pins s σ H o i v ov iv u Q I ro ri rv h
 obtain⟨p,xs,k,j,rfl,rfl,hp,hj,q⟩:=h
 cases ro
 obtain⟨t,rfl⟩:=ri
 obtain⟨its,n,r,ho,hz⟩:=I.lst hp
 obtain⟨h1,h2,h3,h4⟩:=b42 hj
 have hl:=r.length
 have hn:=a6h
 have I':l8 X pins σ (upd H p (.lst (xs.set j v))) {s with heap:=s.heap.update p (Obj.mapSeq (·.setIfInBounds j u))}:=
  I.lstUpd hp ho (b4d its n j u) (r.set rv j) (by rw [List.length_set];exact hz) s.toks
 by_cases h0:0<=k
 ·have hk:k.toNat=j:=by
   rw [seqIndex_of h0 h4] at h1
   exact Option.some.inj h1
  exact PySem.W.ki_setAt ho h0 (by lia) (by rw [Aj,<-hl];exact h4) (by rw [hk];exact⟨_,I',q⟩)
 ·have hk:(k+(its.toArray.size:Int)).toNat=j:=by
   rw [seqIndex_neg (by lia) h3] at h1
   rw [Aj,<-hl]
   exact Option.some.inj h1
  exact PySem.W.ki_setBack ho (by lia) (by rw [Aj,<-hl];exact h3) (by lia) (by rw [hk];exact⟨_,I',q⟩)
theorem b2j(lo hi:Option Int)(n:Nat):(sliceBounds lo hi none n).1=((HT.sIx n 0 lo:Nat):Int)/\(sliceBounds lo hi none n).2.1=((HT.sIx n n hi:Nat):Int)/\(sliceBounds lo hi none n).2.2=1:=by
 refine⟨?_, ?_,rfl⟩
 ·cases lo with
  |none=>simp [sliceBounds,HT.sIx]
  |some i=>
   simp only [sliceBounds,HT.sIx,Option.getD_none,show(1:Int)>0 by decide,if_true]
   by_cases h:i<0
   ·simp only [h,if_true]<;>lia
   ·simp only [h,if_false]<;>lia
 ·cases hi with
  |none=>simp [sliceBounds,HT.sIx]
  |some i=>
   simp only [sliceBounds,HT.sIx,Option.getD_none,show(1:Int)>0 by decide,if_true]
   by_cases h:i<0
   ·simp only [h,if_true]<;>lia
   ·simp only [h,if_false]<;>lia
theorem a5W(its:List AA)(lo hi:Option Int):slicePick its.toArray lo hi none=((its.drop (HT.sIx its.length 0 lo)).take (HT.sIx its.length its.length hi - HT.sIx its.length 0 lo)).toArray:=by
 obtain⟨h1,h2,h3⟩:=b2j lo hi its.toArray.size
 unfold slicePick
 rw [h1,h2,h3]
 simp only [sliceRange_one,pick_run,Aj]<;>rfl
theorem b1m:O7 X (.builtin "len") (fun xs H Q=>∃p ys,xs=[.ref p]/\(SqL X.K H p ys\/SqT X.K H p ys)/\Q (.int ys.length) H):=by
 intro pins s σ H xs us Q I r h
 obtain⟨p,ys,rfl,hq,q⟩:=h
 obtain⟨u,rfl,rx⟩:=a5Y r
 cases rx
 have hn:=a6h
 rcases hq with hq|hq
 ·obtain⟨its,r',pl,hz⟩:=I.list hq
  have hlen:=r'.length
  exact Calls.call_len_list pl.isList (by simp only [Aj]<;>lia) ⟨.int ys.length,H,I.tok _,⟨s.toks+1,by rw [Aj,hlen]⟩,q⟩
 ·obtain⟨its,r',pl,hz⟩:=I.tuple hq
  have hlen:=r'.length
  exact len_tuple pl (by simp only [Aj]<;>lia) ⟨.int ys.length,H,I.tok _,⟨s.toks+1,by rw [Aj,hlen]⟩,q⟩
theorem b1n:O7 X (.builtin "len") (fun xs H Q=>∃z,xs=[.str z]/\z.length<=AU/\Q (.int z.length) H):=by
 intro pins s σ H xs us Q I r h
 obtain⟨z,rfl,hz,q⟩:=h
 obtain⟨u,rfl,t,rfl⟩:=a5Y r
 have hn:=a6h
 exact len_str (by lia) ⟨.int z.length,H,I.tok _,⟨_,rfl⟩,q⟩
theorem O7.or{f:AA}{r r':List V->Hp->VK->Prop}(h:O7 X f r)(h':O7 X f r'):O7 X f (fun xs H Q=>r xs H Q\/r' xs H Q):=by
 intro pins s σ H xs us Q I rs q
 rcases q with q|q
 ·exact h pins s σ H xs us Q I rs q
 ·exact h' pins s σ H xs us Q I rs q
theorem b1o:O7 X (.type "list") (fun xs H Q=>∃p ys,xs=[.ref p]/\(SqL X.K H p ys\/SqT X.K H p ys)/\∀l,H l=none->Q (.ref l) (upd H l (.lst ys))):=by
 intro pins s σ H xs us Q I r h
 obtain⟨p,ys,rfl,hq,q⟩:=h
 obtain⟨u,rfl,rx⟩:=a5Y r
 cases rx
 have fin:∀(its:List AA),t7 ys its->ys.length<=AU->∀(h':Heap) (c':Nat),(∀b o',s.heap.get? b=some o'->h'.get? b=some o')->
  h'.get? s.heap.objs.size=some {cls:= .type "list",dict:=none,data:= .seq its.toArray c',slots:= #[]}->EP X pins σ Q (.ref s.heap.objs.size) {s with heap:=h'}:=fun its r' hz h' c' kp e=>
  ⟨.ref s.heap.objs.size,_,I.laid (t':=s.toks) kp (AZ _) (show R3 X.prog X.w _ h' _ (.lst ys) from⟨hz,its,c',r',e⟩),rfl,q _ (I.hok.fresh (AZ _))⟩
 rcases hq with hq|hq
 ·obtain⟨its,r',pl,hz⟩:=I.list hq
  have hlen:=r'.length
  obtain⟨o,ho,hc,n,hd⟩:=pl.isList
  exact call_list_seq p (.inl rfl) ho hc hd (fun h' c' kp e=>fin its r' hz h' c' kp e) (by simp only [Aj]<;>lia)
 ·obtain⟨its,r',pl,hz⟩:=I.tuple hq
  have hlen:=r'.length
  obtain⟨o,ho,hc,n,hd⟩:=pl
  exact call_list_seq p (.inr rfl) ho hc hd (fun h' c' kp e=>fin its r' hz h' c' kp e) (by simp only [Aj]<;>lia)
theorem b0k:O7 X (.type "tuple") (fun xs H Q=>∃p ys,xs=[.ref p]/\((SqL X.K H p ys/\∀l,H l=none->Q (.ref l) (upd H l (.tup ys)))\/(SqT X.K H p ys/\Q (.ref p) H))):=by
 intro pins s σ H xs us Q I r h
 obtain⟨p,ys,rfl,h⟩:=h
 obtain⟨u,rfl,rx⟩:=a5Y r
 cases rx
 rcases h with⟨hq,q⟩|⟨hq,q⟩
 ·obtain⟨its,r',pl,hz⟩:=I.list hq
  have hlen:=r'.length
  refine call_tuple_list pl.isList (fun h' kp=> ?_) (by simp only [Aj]<;>lia)
  have I1:l8 X pins σ H {s with heap:=h'}:=I.kept (t':=s.toks) kp
  have I2:l8 X pins σ (upd H h'.objs.size (.tup ys)) {s with heap:=h'.push {cls:= .type "tuple",data:= .seq its.toArray}}:=
   I1.laid (t':=s.toks) (fun b o e=>An _ e) (AZ _) (show R3 X.prog X.w _ _ _ (.tup ys) from⟨hz,its,r',IsTup.new _ _⟩)
  exact⟨.ref h'.objs.size,_,I2,rfl,q _ (I1.hok.fresh (AZ _))⟩
 ·obtain⟨its,r',pl,hz⟩:=I.tuple hq
  exact call_tuple_same pl ⟨.ref p,H,I,rfl,q⟩
def tyV(K:AE)(T:String)(x:V)(H:Hp):Prop:=match x with
 | .str _=>T="str"
 | .int _=>T="int"
 | .ref p=>(T="list"/\∃xs,SqL K H p xs)\/(T="tuple"/\∃o,K.lookup p=some o/\o.cls= .type "tuple"/\o.dict=none)\/
  (T="dict"/\((∃kvs,H p=some (.dK kvs))\/∃kvs,H p=some (.dT kvs)))\/(T="set"/\∃S n,H p=some (.set S n))
 |_=>False
theorem c1y{pins:List (AB×Obj)}{σ:St}{H:Hp}{s:AC}{T:String}{x:V}{v:AA}(I:l8 X pins σ H s)(r:A4 x v)(ty:tyV X.K T x H):
 s.TypeIs v T/\∀a,v= .ref a->∃ob,s.heap.get? a=some ob/\ob.dict=none:=by
 cases x with
 |str z=>
  obtain⟨t,rfl⟩:=r
  cases(show T="str" from ty)
  exact⟨typeIs_str s z t,fun _ e=>nomatch e⟩
 |int i=>
  obtain⟨t,rfl⟩:=r
  cases(show T="int" from ty)
  exact⟨typeIs_int s i t,fun _ e=>nomatch e⟩
 |ref p=>
  cases r
  rcases ty with⟨rfl,xs,hq⟩|⟨rfl,o,hk,hc,hd⟩|⟨rfl,hk⟩|⟨rfl,S,n,hk⟩
  ·obtain⟨its,_,pl,_⟩:=I.list hq
   refine⟨pl.isList.typeIs,fun a e=> ?_⟩
   cases e
   obtain⟨o,n,e,c,hd,_⟩:=pl
   exact⟨o,e,hd⟩
  ·refine⟨⟨o,I.kIn p o hk,hc⟩,fun a e=> ?_⟩
   cases e
   exact⟨o,I.kIn _ o hk,hd⟩
  ·have z:∃o,s.heap.get? p=some o/\o.ExactDict:=by
    rcases hk with⟨kvs,hk⟩|⟨kvs,hk⟩
    ·obtain⟨_,_,_,_,o,_,_,e,ex,_⟩:=I.hok p _ hk
     exact⟨o,e,ex⟩
    ·obtain⟨_,_,_,_,o,_,_,e,ex,_⟩:=I.hok p _ hk
     exact⟨o,e,ex⟩
   obtain⟨o,e,ex⟩:=z
   refine⟨⟨o,e,ex.1⟩,fun a e2=> ?_⟩
   cases e2
   exact⟨o,e,ex.2.1⟩
  ·obtain⟨o,_,_,_,e,ex,_⟩:=I.hok p _ hk
   refine⟨⟨o,e,ex.1⟩,fun a e2=> ?_⟩
   cases e2
   exact⟨o,e,ex.2.1⟩
 |_=>exact False.elim ty
def tBM(K:AE)(T:String)(r:V->List V->Hp->VK->Prop)(to:TE)(t:TA):TE:=fun σ H Q=>to σ H fun x H1=>tyV K T x H1/\t σ H1 fun xs H2=>r x xs H2 Q
variable {o e:AF}{es:List AF}{to:TE}{t:TA}{name:Str}{apos cpos:Pos}{T id:String}{r:V->List V->Hp->VK->Prop}
theorem b3h(pa:PlainAttrs T)(slot:Slot T name id)(hty:typeOf (.builtin id)=pure (.type "method_descriptor"))(hm:MtR X id r)(ho:PE X o to)(ha:PA X (e::es) t)
 (hbase:attributeBase o name X.env (eval o X.env)=eval o X.env:=by rfl)
 (hfew:((backTo cpos (AM (e::es) X.env)).all (fun x=> !x.1)&&(backToKw cpos (keywordEach [] X.env)).all (fun x=>x.1.isSome)
  && decide ((e::es).length+([]:List Keyword).length+(if([]:List Keyword).isEmpty then 0 else 1)<30))=true:=by rfl)
 (hline:(apos.endLine==cpos.line)=true:=by rfl) (hs:AM (e::es) X.env=(false,eval e X.env)::AM es X.env:=by rfl) (hplain:(backTo cpos (AM es X.env)).any (·.1)=false:=by rfl):
 PE X (.Call (.Attribute o name apos) (e::es) [] cpos) (tBM X.K T r to t):=by
 intro pins s σ H Q I h
 refine wpAny_Call_method_late hbase hfew hline rfl (U5 (ho pins s σ H _ I h) fun v s1 ⟨x,H1,I1,r1,ty,q1⟩=> ?_)
 obtain⟨h1,h2⟩:=c1y I1 r1 ty
 refine⟨T,id,pa,slot,hty,h1,h2, ?_⟩
 have hA:=ha cpos pins s1 σ H1 _ I1 q1
 rw [hs] at hA ⊢
 refine Calls.callWith_builtin (by show(false||(backTo cpos (AM es X.env)).any (·.1))=false;rw [hplain]<;>rfl) (Calls.evalArgs_plain ?_)
 exact U5 hA fun us s2 ⟨vs,H2,I2,r2,q2⟩=>hm pins s2 σ H2 x vs v us Q I2 r1 r2 q2
end
def MtM(X:Cx)(id:String)(r:V->List V->Hp->VK->Prop):Prop:=
 ∀(pins:List (AB×Obj)) (s:AC) (σ:St) (H:Hp) (x:V) (xs:List V) (v:AA) (us:List AA) (Q:VK),l8 X pins σ H s->A4 x v->t7 xs us->r x xs H Q->
  AI (model X.prog X.w) X.A (call (.builtin id) (v::us)) (EP X pins σ Q) X.xe s
theorem t7.one:∀{x:V} {us:List AA},t7 [x] us->∃u,us=[u]/\A4 x u
 |_,_,.cons r .nil=>⟨_,rfl,r⟩
theorem t7.zero:∀{us:List AA},t7 [] us->us=[]
 |_,.nil=>rfl
theorem t7.dropLast{xs:List V}{us:List AA}(h:t7 xs us):t7 xs.dropLast us.dropLast:=by
 induction h with
 |nil=>exact .nil
 |cons r t ih=>
  cases t with
  |nil=>exact .nil
  |cons q t'=>exact .cons r ih
theorem t7.reverse{xs:List V}{us:List AA}(h:t7 xs us):t7 xs.reverse us.reverse:=by
 induction h with
 |nil=>exact .nil
 |cons r t ih=>rw [List.reverse_cons,List.reverse_cons];exact t7.append ih (.cons r .nil)
theorem t7.rep{xs:List V}{us:List AA}(h:t7 xs us):∀k:Nat,t7 (Ab k xs).flatten (Ab k us).flatten
 |0=> .nil
 |k+1=>by
  rw [AW,AW,List.flatten_cons,List.flatten_cons]
  exact t7.append h (t7.rep h k)
theorem a7D(its:List AA):∀(k:Nat) (acc:List AA),
 List.foldl (fun x1 x2=>x1++x2) acc.toArray (Ab k its.toArray)=(acc++(Ab k its).flatten).toArray
 |0,acc=>by simp
 |k+1,acc=>by
  have e:acc.toArray++its.toArray=(acc++its).toArray:=by simp
  have e2:(acc++its)++(Ab k its).flatten=acc++(Ab (k+1) its).flatten:=by
   rw [AW,List.flatten_cons,List.append_assoc]
  rw [<-e2,<-a7D its k (acc++its),<-e,AW,List.foldl_cons]
section
variable {X:Cx}{pins:List (AB×Obj)}{σ:St}{H:Hp}{s:AC}{l b:AB}{xs ys zs:List V}
theorem l8.lset{its its':List AA}{n:Nat}{f:Array AA->Array AA}{t':Nat}(I:l8 X pins σ H s)(hH:H l=some (.lst xs))
 (e:s.heap.get? l=some {cls:= .type "list",data:= .seq its.toArray n}) (hf:f its.toArray=its'.toArray) (hv:t7 ys its') (hz:ys.length<=AU):
 l8 X pins σ (upd H l (.lst ys)) {s with heap:=s.heap.update l (Obj.mapSeq f),toks:=t'}:=by
 have q:=PySem.IsL.update e f
 rw [hf] at q
 refine I.write (x:=l) (e:=l) (by rw [hH];exact trivial) (.inl rfl) (fun b' u hb hu=>(Heap.get?_update_other s.heap (Obj.mapSeq f) (Ne.symm hb)).trans hu) ⟨_,q⟩ ?_
 exact⟨hz,its',_,hv,q⟩
theorem l8.lnew{its:List AA}{t':Nat}(I:l8 X pins σ H s)(hv:t7 ys its)(hz:ys.length<=AU):
 l8 X pins σ (upd H s.heap.objs.size (.lst ys)) {s with heap:=s.heap.push {cls:= .type "list",data:= .seq its.toArray},toks:=t'}:=
 I.laid (fun _ _ q=>An _ q) (AZ _) ⟨hz,its,0,hv,Az _ rfl⟩
theorem l8.fresh(I:l8 X pins σ H s):H s.heap.objs.size=none:=I.hok.fresh (AZ _)
theorem l8.lstM(I:l8 X pins σ H s)(hH:H l=some (.lst xs)):xs.length<=AU/\∃(its:List AA) (n:Nat),t7 xs its/\xs.length=its.length/\s.heap.get? l=some {cls:= .type "list",data:= .seq its.toArray n}:=by
 obtain⟨z,its,n,r,e⟩:=I.hok l _ hH
 exact⟨z,its,n,r,r.length,e⟩
theorem b25{n:Nat}(h:n<=AU):Builtin.List.listTooLong n=false:=by
 unfold Builtin.List.listTooLong
 exact decide_eq_false (by lia)
end
section
variable {X:Cx}
def b9t:V->List V->Hp->VK->Prop:=fun x vs H Q=>∃l xs y,x= .ref l/\vs=[y]/\H l=some (.lst xs)/\xs.length<AU/\Q .non (upd H l (.lst (xs++[y])))
theorem b01:MtM X "list.append" b9t:=by
 intro pins s σ H x vs v us Q I rx rv h
 obtain⟨l,xs,y,rfl,rfl,hH,hz,q⟩:=h
 cases rx
 obtain⟨u,rfl,ru⟩:=rv.one
 obtain⟨z,its,n,r,hl,e⟩:=I.lstM hH
 refine call_meets F.slot_list_append ⟨_,e,rfl⟩ F.entry_list_append (F.args_list_append_2 _ _) (PySem.list_append l its.toArray n u (by rw [Aj];lia)) ⟨e, ?_⟩
 refine⟨.non,_,I.lset (its':=its++[u]) hH e (by simp) (r.append (.cons ru .nil)) ?_,rfl,q⟩
 rw [AX,List.length_singleton]
 lia
def b9u:V->List V->Hp->VK->Prop:=fun x vs H Q=>∃l b xs zs,x= .ref l/\vs=[.ref b]/\H l=some (.lst xs)/\H b=some (.lst zs)/\xs.length+zs.length<=AU/\Q .non (upd H l (.lst (xs++zs)))
theorem b58:MtM X "list.extend" b9u:=by
 intro pins s σ H x vs v us Q I rx rv h
 obtain⟨l,b,xs,zs,rfl,rfl,hH,hB,hz,q⟩:=h
 cases rx
 obtain⟨u,rfl,ru⟩:=rv.one
 cases ru
 obtain⟨z,its,n,r,hl,e⟩:=I.lstM hH
 obtain⟨z2,its2,n2,r2,hl2,e2⟩:=I.lstM hB
 have hsz:its.toArray.size+its2.toArray.size<=AU:=by rw [Aj,Aj];lia
 have hlong:¬(!its.toArray.isEmpty && Builtin.List.listTooLong (its.toArray.size+its2.toArray.size))=true:=by
  rw [b25 hsz,Bool.and_false]
  exact Ao
 refine call_meets F.slot_list_extend ⟨_,e,rfl⟩ F.entry_list_extend (F.args_list_extend_2 _ _)
  (AutoSeq1.list_extend_list_list_0 l its.toArray n b its2.toArray n2 hlong (by rw [Aj];lia) (by lia)) ⟨e,e2, ?_⟩
 refine⟨.non,_,I.lset (its':=its++its2) hH e (by simp) (r.append r2) ?_,rfl,q⟩
 rw [AX]
 lia
def c2S:R2:=fun x y H Q=>∃l b xs zs,x= .ref l/\y= .ref b/\H l=some (.lst xs)/\H b=some (.lst zs)/\xs.length+zs.length<=AU/\∀p,H p=none->Q (.ref p) (upd H p (.lst (xs++zs)))
theorem c00:OpR X (binaryOp .Add) c2S:=by
 intro pins s σ H x y v u Q I rx ry h
 obtain⟨l,b,xs,zs,rfl,rfl,hH,hB,hz,q⟩:=h
 cases rx
 cases ry
 obtain⟨z,its,n,r,hl,e⟩:=I.lstM hH
 obtain⟨z2,its2,n2,r2,hl2,e2⟩:=I.lstM hB
 refine PySem.P.add_list e e2 ?_ (by rw [Aj,Aj];lia)
 have ea:its.toArray++its2.toArray=(its++its2).toArray:=by simp
 rw [ea]
 exact⟨.ref _,_,I.lnew (t':=s.toks) (r.append r2) (by rw [AX];lia),rfl,q _ I.fresh⟩
def c2W:R2:=fun x y H Q=>∃l k xs,x= .ref l/\y= .int k/\H l=some (.lst xs)/\ -(2 ^ 63)<=k/\k<2 ^ 63/\xs.length*k.toNat<=AU/\
 ∀p,H p=none->Q (.ref p) (upd H p (.lst (Ab k.toNat xs).flatten))
theorem b1O{α:Type}(xs:List α)(k:Nat):(Ab k xs).flatten.length=k*xs.length:=by
 induction k with
 |zero=>simp
 |succ k ih=>rw [AW,List.flatten_cons,AX,ih,Nat.succ_mul,Nat.add_comm]
theorem c04:OpR X (binaryOp .Mult) c2W:=by
 intro pins s σ H x y v u Q I rx ry h
 obtain⟨l,k,xs,rfl,rfl,hH,h1,h2,hz,q⟩:=h
 cases rx
 obtain⟨t,rfl⟩:=ry
 obtain⟨z,its,n,r,hl,e⟩:=I.lstM hH
 have hlen:its.toArray.size*k.toNat<=AU:=by rw [Aj,<-hl];exact hz
 have hcap:¬its.toArray.size*k.toNat>(2 ^ 63 - 1)/ 8:=by
  have:(AU:Nat)<=(2 ^ 63 - 1)/ 8:=by decide
  lia
 have hfit:¬(!Builtin.List.listFitsIndex k)=true:=by
  rw [fitsIndex_both h1 h2]
  exact Ao
 have hlong:¬Builtin.List.listTooLong (its.toArray.size*k.toNat)=true:=by
  rw [b25 hlen]
  exact Ao
 have hnew:List.foldl (fun x1 x2=>x1++x2) #[] (Ab (if its.toArray.isEmpty=true then 0 else k.toNat) its.toArray)=(Ab k.toNat its).flatten.toArray:=by
  have f0:∀m:Nat,List.foldl (fun x1 x2=>x1++x2) #[] (Ab m its.toArray)=(Ab m its).flatten.toArray:=fun m=>by
   have:=a7D its m []
   rw [AQ] at this
   exact this
  rw [f0]
  cases its with
  |nil=>simp
  |cons a r'=>rw [if_neg (by simp)]
 refine wpAny_binaryOp_repeat_ref (T:="list") (U:="int") (by decide) ⟨_,e,rfl⟩ (fun s'=>typeIs_int s' k t) noFill_list_mul F.fills_int_mul F.slot_int_rmul repeat_list F.slot_int_index.lookup
  (call_meets F.slot_int_rmul (typeIs_int s k t) F.entry_int_rmul (F.args_int_rmul_2 _ _) (int___rmul___int_list k t l its.toArray n)
   ⟨e,rfl,⟨_,e,rfl⟩,call_meets F.slot_list_mul ⟨_,e,rfl⟩ F.entry_list_mul (F.args_list_mul_2 _ _) (AutoListH.list___mul___list_int_3 l its.toArray n k t hfit hcap hlong) ⟨e, ?_⟩⟩)
 rw [hnew]
 exact⟨.ref _,_,I.lnew (t':=s.toks) (r.rep k.toNat) (by rw [b1O,Nat.mul_comm];exact hz),rfl,q _ I.fresh⟩
end
section
variable {prog:AK}{w:AJ}{A:AL}{E:AA->AC->Prop}{s:AC}
end
section
variable {X:Cx}
end
end L2
namespace Att
open PySem PySem.W PySem.Calls PyProof.Rows
theorem a8q{P:Params}{h:Heap}:∀(ns:List Int) (vs:List AA),WellAll P h vs (ns.map WData.int)->IntsAre vs ns:=by
 intro ns
 induction ns with
 |nil=>
  intro vs w
  rw [AR] at w
  cases w
  exact .nil
 |cons n ns ih=>
  intro vs w
  rw [AH] at w
  cases w with
  |cons a b=>
   cases a
   exact .cons _ _ (ih _ b)
theorem b6j{l:OpenLaw}{n:Nat}(hn:l.most=some n){P:Params}{h:Heap}{args:List WData}{vals:List AA}
 (hpre:l.row.toRowW.claim.pre args=true) (hwl:WellAll P h vals args):
 ∃a vs ns,vals=[Value.ref a]/\args=[WData.list (ns.map WData.int)]/\h.get? a=some {cls:= .type "list",data:= .seq vs.toArray}/\IntsAre vs ns/\ns.length<=n:=by
 have hsh:WShape.hasAll [] args [.list .int]=true:=(pre_splitW hpre).1
 have hc:l.pre.holds [] {args:=args}=true:=(pre_splitW hpre).2
 obtain⟨d,r,rfl,h1,h2⟩:=hasAllW_cons hsh
 obtain rfl:=hasAllW_nil h2
 obtain⟨xs,rfl,h3⟩:=hasW_list h1
 obtain⟨ns,rfl⟩:=items_int h3
 have hlen:ns.length<=n:=by
  unfold OpenLaw.pre at hc
  have h4:(WTm.not (.lt (.lit (.int (n:Int))) (.len (.arg 0)))).holds [] {args:=[.list (ns.map .int)]}=true:=by
   have h4:=(holds_andW hc).1
   rw [hn] at h4
   exact h4
  have h5:=condW_of h4 (w_not (w_lt w_lit (w_len_list (w_arg rfl))))
  rw [Ae] at h5
  refine Nat.le_of_not_lt fun q=> ?_
  have q':(n:Int)<((ns.length:Nat):Int):=by lia
  first
   |(rw [decide_eq_true q'] at h5;exact absurd h5 (by decide))
   |(simp at h5;lia)
 cases hwl with
 |cons w1 w2=>
  cases w2
  cases w1 with
  |list ho hall=>exact⟨_,_,ns,rfl,rfl,ho,a8q ns _ hall,hlen⟩
theorem b6g(l:OpenLaw)(args:List WData):l.row.toRowW.claim.post args (.bool true) args=true:=
 postW_of (r:=l.row.toRowW) (X:=(true==true))
  (show WShape.has [] (.bool true) .bool=true by first|rfl|decide|simp [WShape.has,WShape.arms,WShape.armsAll])
  (show(WTm.eq .res (.lit (.bool true))).value [] {args:=args,res:=some (.bool true),after:=args}=some (.bool (true==true)) from w_eq_bool (w_res rfl) w_lit) rfl
theorem attach_call{l:OpenLaw}{n:Nat}{q:AK}{loose:List Str}{XP:(Str->Option AA)->Heap->Prop}{YP:AJ->Heap->Prop}{d:DefRec}
 (hn:l.most=some n) (hdf:d.params.defaults=[])
 (call:∀(w:AJ) (s₀ s₁:AC) (mg mb:Str->Option AA) (fa:AB) (o:Obj) (pm cd doc:AA) (a:AB) (vs:List AA) (ns:List Int),
  Ground q loose [] XP w s₀ mg mb s₁.heap->YP w s₁.heap->
  s₁.heap.get? fa=some o->o.data= .func (docDef d.name d.params d.body d.scope pm cd doc)->s₁.heap.CodeRec cd d.name->mg d.name=some (.ref fa)->
  s₁.heap.get? a=some {cls:= .type "list",data:= .seq vs.toArray}->IntsAre vs ns->ns.length<=n->s₁.gens= #[]->
  codeAny (model l.prog w) callerA (.call (.ref fa) ⟨[.ref a],[]⟩) (fun r s'=>r= .ok (.ret (.bool true))/\OldK s₁.heap s'.heap/\s'.os=s₁.os/\AllBare s'.gens) s₁):
 WalkO q loose XP YP l.row.toRowW d [] (fun f vs=>PySem.call f vs):=by
 intro w s₀ s₁ mg mb G Y fa o pm cd doc dV kV ho hd hcd hD hmg hg args vals as hpre hlay hrd hwl hlo
 obtain rfl:dV= .none:=Dflts.none hD hdf
 obtain rfl:kV= .none:=Dflts.noKw hD
 obtain⟨a,vs,ns,rfl,rfl,hobj,hints,hlen⟩:=b6j hn hpre hwl
 refine enter_call (codeAny_mono (call w s₀ s₁ mg mb fa o pm cd doc a vs ns G Y ho (fd_plain hd) hcd hmg hobj hints hlen hg) fun r s' hq=> ?_)
 obtain⟨rfl,h2,h3,h4⟩:=hq
 exact⟨.inl ⟨.bool true,.bool true,[],rfl,fun _=>rfl,.bool true,b6g l _,fun _=>⟨List.Pairwise.nil,fun _ hm=>(nomatch hm)⟩⟩,h2,h3,h4⟩
section
variable {prog:AK}{w:AJ}{A:AL}{E:AA->AC->Prop}{s:AC}{K:Frag}
end
end Att
namespace L2
open PySem PySem.Spec PyProof.Rows
theorem b1g:∀{vs:List AA} {ns:List Int},IntsAre vs ns->t7 (ns.map V.int) vs
 |_,_,.nil=> .nil
 |_,_,.cons n t h=> .cons ⟨t,rfl⟩ (b1g h)
def c0g(H:Hp):Prop:=∀b,H b=none\/∃o xs,H b=some (.frz o (.lst xs))
theorem b7m{P:AK}{w:AJ}{K:AE}{mg mb:Str->Option AA}{CX:CXT}{k:Nat}{fa a:AB}{fd:FuncData}{x:Str}{sp:Sp}{s₁:AC}{vs:List AA}{ns:List Int}
 (KX:K.In s₁.heap) (hns:s₁.heap.Ns mainGlobals mg) (hb:s₁.heap.Ns builtinsNs mb) (hbb:∀x:Str,x≠"__name__"->mb x=bootBuiltins x) (hlim:s₁.heap.NoLimit) (hg:s₁.gens= #[])
 (ha:s₁.heap.get? a=some {cls:= .type "list",data:= .seq vs.toArray}) (hi:IntsAre vs ns) (hl:ns.length<=AU) (hr:R9 k callerA)
 (F:∀base:Heap,K.In base->base.Ns mainGlobals mg->a05 P w K mg base CX k fa fd [x] sp) (hbind:∀(s:AC) (u:AA),BindsTo s fd ⟨[u],[]⟩ [(x,u)])
 (hsp:∀H:Hp,c0g H->SqL K H a (ns.map V.int)->sp [.ref a] H (fun v _=>v= .bl true) fun _ _ _=>False)
 (hCX:∀H e s',CX [] H s₁ (fun _ _ _=>False) e s'->False):
 codeAny (model P w) callerA (.call (.ref fa) ⟨[.ref a],[]⟩) (fun r s'=>r= .ok (.ret (.bool true))/\OldK s₁.heap s'.heap/\s'.os=s₁.os/\AllBare s'.gens) s₁:=by
 have rv:=b1g hi
 have lenV:=hi.length
 have core:∀H:Hp,c0g H->SqL K H a (ns.map V.int)->HOk P w H s₁.heap->(∀b,H b≠none->b=a)->(H a≠none->K.lookup a=none)->
  codeAny (model P w) callerA (.call (.ref fa) ⟨[.ref a],[]⟩) (fun r s'=>r= .ok (.ret (.bool true))/\OldK s₁.heap s'.heap/\s'.os=s₁.os/\AllBare s'.gens) s₁:=by
  intro H hO hS hok hA hK
  have base_of:∀{b:AB} {o:Obj},s₁.heap.get? b=some o->H b=none->(b1E s₁.heap H).get? b=some o:=fun e n=>b7c e n
  have noA:∀{b:AB} {o:Obj} {es:Array DictEntry} {ep:Nat},s₁.heap.get? b=some o->o.data= .dict es ep->H b=none:=fun {b o es ep} e d=>by
   cases q:H b with
   |none=>rfl
   |some u=>
    have e':b=a:=hA b (by rw [q];simp)
    subst e'
    rw [ha] at e;cases e
    have d':Data.seq vs.toArray _=Data.dict es ep:=d
    cases d'
  have nsK:∀{b:AB} {m:Str->Option AA},s₁.heap.Ns b m->(b1E s₁.heap H).Ns b m:=fun {b m} ⟨o,es,ep,e,d,r⟩=>⟨o,es,ep,base_of e (noA e d),d,r⟩
  have hKb:K.In (b1E s₁.heap H):=fun b o e=>base_of (KX b o e) (by
   cases q:H b with
   |none=>rfl
   |some u=>
    have e':b=a:=hA b (by rw [q];simp)
    subst e'
    rw [hK (by rw [q];simp)] at e;cases e)
  have hM:Mod K mg (b1E s₁.heap H):=⟨hKb,nsK hns,⟨mb,nsK hb,hbb⟩,let ⟨mc,h1,h2⟩:=hlim;⟨mc,nsK h1,h2⟩⟩
  have e0:b3K P w K mg (b1E s₁.heap H) callerA [] s₁ H:=⟨rfl,hM,fun b o e=>b9c e,Nat.le_of_eq (b5X _ _),trivial,fun b hb=>absurd (show b∈([]:List AB) from hb) (by simp),hok,.of_eq hg⟩
  refine codeAny_mono ((F _ hKb (nsK hns)).run callerA [] s₁ H ⟨[.ref a],[]⟩ [.ref a] [.ref a] _ _ hr e0 (hbind s₁ (.ref a)) (.cons rfl .nil) (hsp H hO hS)) fun r s' h=> ?_
  cases r with
  |error e=>exact(hCX H e s' h).elim
  |ok fl=>
   cases fl with
   |next=>exact False.elim h
   |brk=>exact False.elim h
   |cont=>exact False.elim h
   |ret u=>
    obtain⟨v,H',os,bare,un,hok',r',q⟩:=h
    have q':v= .bl true:=q
    subst q'
    obtain rfl:u=Value.bool true:=r'
    refine⟨rfl,OldK.of_keep fun b o e=> ?_,os,bare⟩
    cases q:H b with
    |none=>exact un.keep b o e q (by intro z;exact absurd (show b∈([]:List AB) from z) (by simp)) (by simp)
    |some u=>
     rcases hO b with z|⟨ob,xs,z⟩
     ·rw [q] at z;cases z
     ·have z2:=un.frzs b ob _ z
      obtain⟨e1,_⟩:=hok b _ z
      obtain⟨e2,_⟩:=hok' b _ z2
      rw [e] at e1;cases e1
      exact e2
 cases hk:K.lookup a with
 |some o=>
  have e:=KX a o hk
  rw [ha] at e
  cases e
  refine core (fun _=>none) (fun _=> .inl rfl) (.inr ⟨_,vs.toArray,_,hk,rfl,rfl,rfl,by rw [Aj,lenV];exact hl,by simpa using rv⟩) (fun b u z=>by have z':(none:Option HO)=some u:=z;cases z') (fun b z=>absurd rfl z) fun z=>absurd rfl z
 |none=>
  refine core (fun b=>if b=a then some (.frz {cls:= .type "list",data:= .seq vs.toArray} (.lst (ns.map V.int))) else none) (fun b=> ?_) (.inl (.inr ⟨{cls:= .type "list",data:= .seq vs.toArray},if_pos rfl⟩)) (fun b u z=> ?_) (fun b z=> ?_) fun _=>hk
  ·by_cases hb:b=a
   ·exact .inr ⟨_,_,if_pos hb⟩
   ·exact .inl (if_neg hb)
  ·by_cases hb:b=a
   ·have z':=(if_pos hb).symm.trans z
    cases z'
    subst hb
    exact⟨ha,by rw [Ae];exact hl,vs,_,rv,ha⟩
   ·have z':=(if_neg hb).symm.trans z
    cases z'
  ·by_cases hb:b=a
   ·exact hb
   ·exact absurd (if_neg hb) z
theorem b9P{l:PySem.W.OpenLaw}{n k:Nat}{q:AK}{loose:List Str}{XP:(Str->Option AA)->Heap->Prop}{YP:AJ->Heap->Prop}{d:DefRec}{K:Params->AE}{CX:AJ->CXT}{sp:AJ->Sp}{x:Str}
 (hn:l.most=some n) (hn2:n<=AU) (hdf:d.params.defaults=[]) (hr:R9 k callerA)
 (hY:∀(w:AJ) (h:Heap),YP w h->(K w.params).In h)
 (F:∀(w:AJ) (mg:Str->Option AA) (fa:AB) (h:Heap),(K w.params).In h->h.Ns mainGlobals mg->mg d.name=some (.ref fa)->
  ∃fd:FuncData,(∀(s:AC) (u:AA),BindsTo s fd ⟨[u],[]⟩ [(x,u)])/\
   ∀base:Heap,(K w.params).In base->base.Ns mainGlobals mg->a05 l.prog w (K w.params) mg base (CX w) k fa fd [x] (sp w))
 (hsp:∀(w:AJ) (H:Hp) (a:AB) (ns:List Int),ns.length<=n->c0g H->SqL (K w.params) H a (ns.map V.int)->sp w [.ref a] H (fun v _=>v= .bl true) fun _ _ _=>False)
 (hCX:∀(w:AJ) (H:Hp) (s:AC) (e:AA) (s':AC),CX w [] H s (fun _ _ _=>False) e s'->False):
 PySem.W.WalkO q loose XP YP l.row.toRowW d [] (fun f vs=>PySem.call f vs):=by
 refine Att.attach_call hn hdf fun w s₀ s₁ mg mb fa o pm cd doc a vs ns G Y ho hd hcd hmg hobj hints hlen hg=> ?_
 have KX:=hY w _ Y
 obtain⟨fd,hb,hF⟩:=F w mg fa _ KX G.T.g hmg
 exact b7m KX G.T.g G.T.b G.T.builtins G.T.nolimit hg hobj hints (Nat.le_trans hlen hn2) hr hF hb (fun H hO hS=>hsp w H a ns hlen hO hS) fun H e s'=>hCX w H s₁ e s'
def U0(s:Stmt):Arguments:=match s with
 | .FunctionDef _ a _ _ _ _ _ _ _ _=>a
 |_=>{posonlyargs:=[],args:=[],vararg:=none,kwonlyargs:=[],kw_defaults:=[],kwarg:=none,defaults:=[]}
def E5(s:Stmt):List Stmt:=match s with
 | .FunctionDef _ _ b _ _ _ _ _ _ _=>b
 |_=>[]
def g8(s:Stmt):Scope:=match s with
 | .FunctionDef _ _ _ _ _ _ sc _ _ _=>sc
 |_=>{kind:= .function,names:=[],isGenerator:=false,isCoroutine:=false}
abbrev CX0:CXT:=fun _ _ _ _ _ _=>False
abbrev E0:XK:=fun _ _ _=>False
theorem b95{X:Cx}:a8Y CX0 X E0:=fun _ _ _ _ _ _ _ h=>h.elim
structure Fun(K:AE)(x qual:Str)(st:Stmt)(f:AB)(fd:FuncData):Prop where
 ex:∃(oc:AA) (od:Option AB) (kV doc pm:AA) (an:Option AB) (cdv ct:AA) (osl:Array (Option AA)),
  fd=PySem.W.fnOf x qual (U0 st) (E5 st) (g8 st) .none kV doc pm an cdv ct/\K.lookup f=some ⟨oc,od,.func fd,osl⟩/\PySem.W.codeIn K cdv qual=true
 kp:PySem.W.keepIn K (.ref f)=true
section
variable {P:AK}{w:AJ}{K:AE}{mg:Str->Option AA}{base:Heap}
theorem Fun.ok{x qual:Str}{st:Stmt}{f:AB}{fd:FuncData}{N ps:List Str}{k:Nat}{sp:Sp}(F:Fun K x qual st f fd)(S:j8 N ps (g8 st))(len:∀vs H Q E,sp vs H Q E->vs.length=ps.length)
 (hbody:∀(cdv:AA) (A:AL) (outer:List Env) (s:AC) (H:Hp) (vs:List V) (Q:VK) (E:XK),R9 k (A.deeper (envOfC qual (g8 st) s.heap.objs.size f cdv))->sp vs H Q E->
  ∃t,PSs (a5H CX0 P w K mg base N qual (g8 st) f cdv A outer s H E).nox (E5 st) t/\t {nx:=fun _ H'=>Q .non H',rt:=Q} (a5X N vs) H):a05 P w K mg base CX0 (k+1) f fd ps sp:=by
 obtain⟨oc,od,kV,doc,pm,an,cdv,ct,osl,rfl,lk,hcd⟩:=F.ex
 refine b9Z lk hcd S len fun A outer s H vs Q E hr hsp=> ?_
 obtain⟨t,h,q⟩:=hbody cdv A outer s H vs Q E hr hsp
 exact⟨t,h.nox,q⟩
theorem Fun.binds{x qual:Str}{st:Stmt}{f:AB}{fd:FuncData}{ps:List Str}(F:Fun K x qual st f fd)
 (h:∀(kV doc pm:AA) (an:Option AB) (cdv ct:AA) (us:List AA),us.length=ps.length->bindArgs (PySem.W.fnOf x qual (U0 st) (E5 st) (g8 st) .none kV doc pm an cdv ct) ⟨us,[]⟩=pure (ps.zip us)):a39 K fd ps []:=by
 obtain⟨oc,od,kV,doc,pm,an,cdv,ct,osl,rfl,lk,hcd⟩:=F.ex
 exact .all (h kV doc pm an cdv ct)
theorem b3W{x qual:Str}{st:Stmt}{f:AB}{oc:AA}{od an:Option AB}{osl:Array (Option AA)}{kV doc pm cdv ct:AA}(l:K.lookup f=some ⟨oc,od,.func (PySem.W.fnOf x qual (U0 st) (E5 st) (g8 st) .none kV doc pm an cdv ct),osl⟩)
 (c:PySem.W.codeIn K cdv qual=true) (k:PySem.W.keepIn K (.ref f)=true):Fun K x qual st f (PySem.W.fnOf x qual (U0 st) (E5 st) (g8 st) .none kV doc pm an cdv ct):=⟨⟨oc,od,kV,doc,pm,an,cdv,ct,osl,rfl,l,c⟩,k⟩
end
theorem b6k{n:Nat}(h:n<=1000):n<AU:=Nat.lt_of_le_of_lt h (by decide)
section
variable {X:Cx}
theorem pv(i:Nat){x:Str}{pos:Pos}(hN:X.N[i]?=some x:=by rfl)(hv:Vis X.env.scope x:=by first|exact Or.inl rfl|exact Or.inr (Or.inl rfl)|exact Or.inr (Or.inr rfl))(hd:(x==("__debug__":Str))=false:=by decide)
 (hcd:(x==("__classdict__":Str))=false:=by decide):PE X (.Name x pos) (b3D i):=c1h hN hv hd hcd
end
theorem b1J{A B:Prop}(h:B):if false=true then A else B:=by
 rw [if_neg Ao]
 exact h
theorem b1K{A B:Prop}(h:A):if true=true then A else B:=by
 rw [if_pos rfl]
 exact h
def p5(H H':Hp):Prop:=∀b o,H b=some o->H' b=some o
theorem p5.refl(H:Hp):p5 H H:=fun _ _ h=>h
theorem p5.trans{H H1 H2:Hp}(a:p5 H H1)(b:p5 H1 H2):p5 H H2:=fun c o h=>b c o (a c o h)
theorem p5.free{H H':Hp}(e:p5 H H'){l:AB}(h:H' l=Option.none):H l=Option.none:=by
 cases q:H l with
 |none=>rfl
 |some o=>
  rw [e l o q] at h
  cases h
theorem p5.seq{K:AE}{H H':Hp}{a:AB}{xs:List V}(e:p5 H H')(h:SqL K H a xs):SqL K H' a xs:=by
 rcases h with(h|⟨o,h⟩)|h
 ·exact .inl (.inl (e _ _ h))
 ·exact .inl (.inr ⟨o,e _ _ h⟩)
 ·exact .inr h
section
variable (P:AK)(w:AJ)
end
section
variable {P:AK}{w:AJ}{H H':Hp}{h h':Heap}{a:AB}{o:HO}
end
section
variable {P:AK}{w:AJ}{H:Hp}{h h':Heap}{x e:AB}{o':HO}
end
section
variable {fs fs' ex ex':List AB}{H H1 H2:Hp}{h h1 h2 h':Heap}{a x e:AB}{o:HO}
end
section
variable {X:Cx}{pins:List (AB×Obj)}{σ:List (Option V)}{H H':Hp}{s:AC}{h':Heap}
end
section
variable {X:Cx}
variable {a b:AF}{ta tb:TE}{pos:Pos}
variable {tA tB':TT}{C7:List AF}
end
section
variable {X:Cx}{pins:List (AB×Obj)}{σ:St}{H:Hp}{s:AC}{a:AB}{xs ys:List V}
end
section
variable {X:Cx}{pins:List (AB×Obj)}{σ:St}{H:Hp}{s:AC}{E:AA->AC->Prop}
end
section
variable {X:Cx}{st:Stmt}{C7:List Stmt}{t u:TS}{e:AF}{te:TE}{pos:Pos}
end
section
variable {X:Cx}{pos:Pos}
end
section
variable {X:Cx}{pos:Pos}
end
section
variable {X:Cx}{tg:AF}
end
section
variable {X:Cx}{a b c:AF}{ta tb tc:TE}{pos:Pos}
end
section
variable {X:Cx}{a b c:AF}{ta tb tc:TE}{pos:Pos}
end
section
variable {prog:AK}{w:AJ}{A:AL}{E:AA->AC->Prop}{s:AC}{K:AE}{x dx C f:AB}{mA:Str->Option AA}{name:Str}{v:AA}
end
section
variable {P:AK}{w:AJ}{H H':Hp}{h h':Heap}{a C dx:AB}{fs fs':List (Str×V)}
end
section
variable {X:Cx}{pins:List (AB×Obj)}{σ:St}{H:Hp}{s:AC}{a C dx:AB}{fs:List (Str×V)}{f:Str}{v:V}{A:AL}{E:AA->AC->Prop}
end
section
variable {X:Cx}{o e value:AF}{f:Str}{pos pos' tpos:Pos}{ta tv:TE}
end
section
variable {X:Cx}{pins:List (AB×Obj)}{σ:St}{H:Hp}{s:AC}{A:AL}{E:AA->AC->Prop}{Q:AA->AC->Prop}{c:AA}{b:Bool}
end
section
variable {X:Cx}{e:AF}{es:List AF}{te:TE}{t:TA}{pos:Pos}
end
section
variable {X:Cx}{pins:List (AB×Obj)}{σ:St}{H:Hp}{s s':AC}
end
section
variable {X:Cx}{CX:CXT}{k:Nat}{f C:AB}{fd:FuncData}{ps:List Str}{sp:Sp}{dvs:List V}{ds:List AA}{E:XK}{x m:Str}{p pos apos:Pos}{e o:AF}{es:List AF}{ta:TE}{t:TA}
end
section
variable {X:Cx}{CX:CXT}{k:Nat}{f C:AB}{fd:FuncData}{ps ks:List Str}{sp:Sp}{E:XK}{x m:Str}{p pos apos kpos:Pos}{e o:AF}{es:List AF}{kws:List Keyword}{te ta:TE}{t tk:TA}{nm:Option Str}
variable {g:List AA->List AA->List AA}{gV:List V->List V->List V}
end
section
variable {X:Cx}{x:Str}{p pos:Pos}{e:AF}{es:List AF}{t:TA}{id T:String}{r:List V->Hp->VK->Prop}
end
section
variable {κ:Type}[DecidableEq κ]
def a4o(kvs:List (κ×V))(k:κ):Option V:=(kvs.find? fun kv=>decide (kv.1=k)).map (·.2)
def b0w(kvs:List (κ×V))(k:κ)(v:V):List (κ×V):=
 if(kvs.any fun kv=>decide (kv.1=k))=true then kvs.map (fun kv=>if kv.1=k then(kv.1,v) else kv) else kvs++[(k,v)]
def b9W(kvs:List (κ×V))(k:κ):List (κ×V):=kvs.filter fun kv=>decide (kv.1≠k)
theorem a7l{p:κ×V}{r:List (κ×V)}{k:κ}(e:p.1=k):a4o (p::r) k=some p.2:=by simp [a4o,List.find?_cons,e]
theorem a7k{p:κ×V}{r:List (κ×V)}{k:κ}(e:¬p.1=k):a4o (p::r) k=a4o r k:=by simp [a4o,List.find?_cons,e]
theorem b3G(k:κ):∀kvs:List (κ×V),(kvs.any fun kv=>decide (kv.1=k))=(a4o kvs k).isSome
 |[]=>rfl
 |p::r=>by
  rw [List.any_cons]
  by_cases e:p.1=k
  ·simp only [a7l e,decide_eq_true e,Bool.true_or,Option.isSome_some]
  ·rw [a7k e,decide_eq_false e,Bool.false_or];exact b3G k r
theorem a8Z.isSome_eq{o:Option V}{u:Option AA}(r:a8Z o u):o.isSome=u.isSome:=by
 cases o with
 |none=>cases u with
  |none=>rfl
  |some _=>exact(show False from r).elim
 |some _=>cases u with
  |none=>exact(show False from r).elim
  |some _=>rfl
theorem a8Z.getD{o:Option V}{u:Option AA}{d:V}{d':AA}(r:a8Z o u)(rd:A4 d d'):A4 (o.getD d) (u.getD d'):=by
 cases o with
 |none=>cases u with
  |none=>exact rd
  |some _=>exact(show False from r).elim
 |some _=>cases u with
  |none=>exact(show False from r).elim
  |some _=>exact r
theorem KV.val{kvs:List (κ×V)}{vs:List (κ×AA)}(r:KV kvs vs)(k:κ):a8Z (a4o kvs k) (valueAt vs k):=by
 unfold KV at r
 induction r with
 |nil=>exact True.intro
 | @cons p q ps qs h t ih=>
   obtain⟨h1,h2⟩:=h
   by_cases e:p.1=k
   ·have e':q.1=k:=h1.symm.trans e
    have b:valueAt (q::qs) k=some q.2:=by simp [valueAt,List.find?_cons,e']
    rw [a7l e,b];exact h2
   ·have e':¬q.1=k:=fun z=>e (h1.trans z)
    have b:valueAt (q::qs) k=valueAt qs k:=by simp [valueAt,List.find?_cons,e']
    rw [a7k e,b];exact ih
theorem KV.any{kvs:List (κ×V)}{vs:List (κ×AA)}(r:KV kvs vs)(k:κ):(kvs.any fun kv=>decide (kv.1=k))=vs.any fun kv=>decide (kv.1=k):=by
 unfold KV at r
 induction r with
 |nil=>rfl
 |cons h t ih=>rw [List.any_cons,List.any_cons,ih,h.1]
theorem KV.repl{kvs:List (κ×V)}{vs:List (κ×AA)}(r:KV kvs vs)(k:κ){y:V}{u:AA}(ry:A4 y u):
 KV (kvs.map fun kv=>if kv.1=k then(kv.1,y) else kv) (vs.map fun kv=>if kv.1=k then(kv.1,u) else kv):=by
 unfold KV at r ⊢
 induction r with
 |nil=>exact .nil
 | @cons p q ps qs h t ih=>
   rw [AH,AH]
   refine .cons ?_ ih
   obtain⟨h1,h2⟩:=h
   by_cases e:p.1=k
   ·rw [if_pos e,if_pos (h1.symm.trans e)];exact⟨h1,ry⟩
   ·rw [if_neg e,if_neg (fun z=>e (h1.trans z))];exact⟨h1,h2⟩
theorem KV.put{kvs:List (κ×V)}{vs:List (κ×AA)}(r:KV kvs vs)(k:κ){y:V}{u:AA}(ry:A4 y u):KV (b0w kvs k y) (stored vs k u):=by
 unfold b0w stored
 rw [r.any k]
 by_cases e:(vs.any fun kv=>decide (kv.1=k))=true
 ·rw [if_pos e,if_pos e];exact r.repl k ry
 ·rw [if_neg e,if_neg e];exact Paired.snoc r ⟨rfl,ry⟩
theorem KV.drop{kvs:List (κ×V)}{vs:List (κ×AA)}(r:KV kvs vs)(k:κ):KV (b9W kvs k) (without vs k):=by
 unfold KV at r ⊢
 unfold b9W without
 induction r with
 |nil=>exact .nil
 | @cons p q ps qs h t ih=>
   obtain⟨h1,h2⟩:=h
   rw [List.filter_cons,List.filter_cons]
   by_cases e:p.1=k
   ·have a:¬decide (p.1≠k)=true:=by simp [e]
    have b:¬decide (q.1≠k)=true:=by simp [h1.symm.trans e]
    rw [if_neg a,if_neg b];exact ih
   ·have e':¬q.1=k:=fun z=>e (h1.trans z)
    have a:decide (p.1≠k)=true:=by simp [e]
    have b:decide (q.1≠k)=true:=by simp [e']
    rw [if_pos a,if_pos b];exact .cons ⟨h1,h2⟩ ih
theorem KV.length{kvs:List (κ×V)}{vs:List (κ×AA)}(r:KV kvs vs):kvs.length=vs.length:=Paired.length r
end
theorem b37{a b:B0}(e:kV a=kV b):a=b:=by
 cases a with
 |inl i=>cases b with
  |inl j=>have e':V.int i=V.int j:=e;injection e' with e';rw [e']
  |inr y=>exact nomatch (show V.int i=V.str y from e)
 |inr x=>cases b with
  |inl j=>exact nomatch (show V.str x=V.int j from e)
  |inr y=>have e':V.str x=V.str y:=e;injection e' with e';rw [e']
theorem a8P:∀{a b:List B0},a.map kV=b.map kV->a=b
 |[],[],_=>rfl
 |[],_::_,e=>by simp at e
 |_::_,[],e=>by simp at e
 |x::xs,y::ys,e=>by
  rw [AH,AH] at e
  injection e with e1 e2
  rw [b37 e1,a8P e2]
abbrev KT(H:Hp):List (List B0×V)->List (List B0×AB×AA)->Prop:=Paired fun p q=>p.1=q.1/\H q.2.1=some (.tup (p.1.map kV))/\A4 p.2 q.2.2
theorem KT.val{H:Hp}{kvs:List (List B0×V)}{xs:List (List B0×AB×AA)}(r:KT H kvs xs)(k:List B0):a8Z (a4o kvs k) ((atKey xs k).map (·.2)):=by
 induction r with
 |nil=>exact True.intro
 | @cons p q ps qs h t ih=>
   obtain⟨h1,_,h2⟩:=h
   by_cases e:p.1=k
   ·have e':q.1=k:=h1.symm.trans e
    have b:atKey (q::qs) k=some q.2:=by simp [atKey,List.find?_cons,e']
    rw [a7l e,b];exact h2
   ·have e':¬q.1=k:=fun z=>e (h1.trans z)
    have b:atKey (q::qs) k=atKey qs k:=by simp [atKey,List.find?_cons,e']
    rw [a7k e,b];exact ih
theorem KT.repl{H:Hp}{kvs:List (List B0×V)}{xs:List (List B0×AB×AA)}(r:KT H kvs xs)(k:List B0){y:V}{u:AA}(ry:A4 y u):
 KT H (kvs.map fun kv=>if kv.1=k then(kv.1,y) else kv) (xs.map (putAt k u)):=by
 induction r with
 |nil=>exact .nil
 | @cons p q ps qs h t ih=>
   rw [AH,AH]
   refine .cons ?_ ih
   obtain⟨h1,h2,h3⟩:=h
   unfold putAt
   by_cases e:p.1=k
   ·rw [if_pos e,if_pos (h1.symm.trans e)];exact⟨h1,h2,ry⟩
   ·rw [if_neg e,if_neg (fun z=>e (h1.trans z))];exact⟨h1,h2,h3⟩
theorem KT.put{H:Hp}{kvs:List (List B0×V)}{xs:List (List B0×AB×AA)}(r:KT H kvs xs)(k:List B0){b:AB}{y:V}{u:AA}(hb:H b=some (.tup (k.map kV)))(ry:A4 y u):
 KT H (b0w kvs k y) (storedH xs k b u):=by
 have e:(kvs.any fun kv=>decide (kv.1=k))=(atKey xs k).isSome:=by
  rw [b3G,(r.val k).isSome_eq,Option.isSome_map]
 unfold b0w storedH
 rw [e]
 by_cases q:(atKey xs k).isSome=true
 ·rw [if_pos q,if_pos q];exact r.repl k ry
 ·rw [if_neg q,if_neg q];exact Paired.snoc r ⟨rfl,hb,ry⟩
theorem KT.keeps{H H':Hp}{kvs:List (List B0×V)}{xs:List (List B0×AB×AA)}(r:KT H kvs xs)(ht:∀b ys,H b=some (.tup ys)->H' b=some (.tup ys)):KT H' kvs xs:=
 Paired.mapP r fun _ _ z=>⟨z.1,ht _ _ z.2.1,z.2.2⟩
section
variable {P:AK}{w:AJ}{H:Hp}{h:Heap}{a:AB}
end
def b8x(H:Hp)(a:AB)(y:V)(r:Option V):Prop:=
 (∃kvs k,Rd H a (.dK kvs)/\y=kV k/\r=a4o kvs k)\/∃kvs k b,Rd H a (.dT kvs)/\y= .ref b/\H b=some (.tup (k.map kV))/\r=a4o kvs k
def b8y(H:Hp)(a:AB)(y v:V)(H':Hp):Prop:=
 (∃kvs k,H a=some (.dK kvs)/\y=kV k/\kvs.length<AU/\H'=upd H a (.dK (b0w kvs k v)))\/
 ∃kvs k b,H a=some (.dT kvs)/\y= .ref b/\H b=some (.tup (k.map kV))/\kvs.length<AU/\H'=upd H a (.dT (b0w kvs k v))
theorem b8x.k{H:Hp}{a:AB}{kvs:List (B0×V)}{k:B0}(e:H a=some (.dK kvs)):b8x H a (kV k) (a4o kvs k):= .inl ⟨kvs,k,.inl e,rfl,rfl⟩
theorem b8x.t{H:Hp}{a b:AB}{kvs:List (List B0×V)}{k:List B0}(e:H a=some (.dT kvs))(eb:H b=some (.tup (k.map kV))):b8x H a (.ref b) (a4o kvs k):= .inr ⟨kvs,k,b,.inl e,rfl,eb,rfl⟩
theorem b8y.k{H:Hp}{a:AB}{kvs:List (B0×V)}{k:B0}{v:V}(e:H a=some (.dK kvs))(hl:kvs.length<AU):b8y H a (kV k) v (upd H a (.dK (b0w kvs k v))):= .inl ⟨kvs,k,e,rfl,hl,rfl⟩
theorem b8y.t{H:Hp}{a b:AB}{kvs:List (List B0×V)}{k:List B0}{v:V}(e:H a=some (.dT kvs))(eb:H b=some (.tup (k.map kV)))(hl:kvs.length<AU):
 b8y H a (.ref b) v (upd H a (.dT (b0w kvs k v))):= .inr ⟨kvs,k,b,e,rfl,eb,hl,rfl⟩
section
variable {X:Cx}{pins:List (AB×Obj)}{σ:St}{H:Hp}{s:AC}{a:AB}{y v:V}{u r:AA}{o:Option V}{A:AL}{E:AA->AC->Prop}
end
section
variable {X:Cx}{pins:List (AB×Obj)}{σ:St}{H:Hp}{s:AC}{a:AB}{kvs:List (B0×V)}{k:B0}{u:AA}{A:AL}{E:AA->AC->Prop}
end
section
variable {X:Cx}{o i e value:AF}{pos pos' tpos:Pos}{td ty tv:TE}
end
section
variable {X:Cx}{pos:Pos}
end
def c1v:List (TE×TE)->St->Hp->(List (V×V)->Hp->Prop)->Prop
 |[],_,H,Q=>Q [] H
 |(tk,tv)::r,σ,H,Q=>tk σ H fun x H1=>tv σ H1 fun y H2=>c1v r σ H2 fun ps H3=>Q ((x,y)::ps) H3
section
variable {X:Cx}{pins:List (AB×Obj)}{σ:St}{H:Hp}{s:AC}{a:AB}{y d:V}{u r:AA}{o:Option V}{A:AL}{E:AA->AC->Prop}
end
section
variable {X:Cx}{o e f:AF}{apos cpos:Pos}{td ty tx:TE}
end
section
variable {X:Cx}{pins:List (AB×Obj)}{σ:St}{H:Hp}{s:AC}{a:AB}{kvs:List (B0×V)}{A:AL}{E:AA->AC->Prop}
end
section
variable {X:Cx}{pins:List (AB×Obj)}{σ:St}{H:Hp}{s:AC}{a:AB}{y:V}{u:AA}{A:AL}{E:AA->AC->Prop}
end
end L2
namespace Att
open PySem PySem.W PySem.Calls PyProof.Rows
section
variable {prog:AK}{w:AJ}{A:AL}{E:AA->AC->Prop}{s:AC}{K:Frag}
end
end Att
namespace L2
open PySem PySem.Spec PyProof.Rows
section
variable {P:AK}{w:AJ}{K:AE}{mg:Str->Option AA}{base:Heap}
end
section
variable {X:Cx}
end
section
variable {κ:Type}[DecidableEq κ]
end
end L2
set_option maxHeartbeats 4000000
namespace PU
open PySem PySem.Spec PyProof.Rows L2
abbrev PV:=PyData
def TqT(K:AE)(H:Hp)(a:AB)(xs:List V):Prop:=
 H a=some (.tup xs)\/∃(o:Obj) (its:Array AA) (n:Nat),K.lookup a=some o/\o.cls= .type "tuple"/\o.data= .seq its n/\its.size<=AU/\t7 xs its.toList
theorem TqT.of{K:AE}{H:Hp}{a:AB}{xs:List V}(h:H a=some (.tup xs)):TqT K H a xs:= .inl h
theorem TqT.sq{K:AE}{H:Hp}{a:AB}{xs:List V}(h:TqT K H a xs):SqT K H a xs:=h.elim (fun h=> .inl (.inl h)) .inr
instance {K:AE} {H:Hp} {a:AB} {xs:List V}:Coe (TqT K H a xs) (SqT K H a xs):=⟨TqT.sq⟩
theorem b9z{K:AE}{H H':Hp}{a:AB}{xs:List V}(s:p5 H H')(h:TqT K H a xs):TqT K H' a xs:=h.elim (fun h=> .inl (s _ _ h)) .inr
def b0y(K:AE)(x:Str)(v:V):Prop:=∃(a:AB) (oc:AA) (od:Option AB) (fd:FuncData) (osl:Array (Option AA)),v= .ref a/\K.lookup a=some ⟨oc,od,.func fd,osl⟩/\fd.name=x
def a0v(K:AE)(x:Str)(C:AB):Prop:=PySem.W.nsIn K mainGlobals x=some (some (.ref C))/\∃(oc:AA) (od:Option AB) (cd:ClassData) (osl:Array (Option AA)),K.lookup C=some ⟨oc,od,.cls cd,osl⟩/\cd.name=x
theorem a0v.inj{K:AE}{x y:Str}{C:AB}(h:a0v K x C)(h':a0v K y C):x=y:=by
 obtain⟨_,_,_,_,_,k,n⟩:=h
 obtain⟨_,_,_,_,_,k',n'⟩:=h'
 rw [k] at k';cases k'
 rw [<-n,n']
theorem a0v.uniq{K:AE}{x:Str}{C D:AB}(h:a0v K x C)(h':a0v K x D):C=D:=by
 have:=h.1.symm.trans h'.1
 cases this;rfl
def b8B(K:AE)(H:Hp)(x:Str)(v:V):Prop:=∃(a C:AB) (φ:Heap->Prop),v= .ref a/\H a=some (.ext φ)/\
 (∀h:Heap,φ h->∃oe vs,h.get? a=some oe/\oe.cls= .ref C/\oe.data= .fields vs/\oe.dict=none)/\a0v K x C
def a7q(K:AE)(H:Hp)(x:Str)(t:PV)(v:V):Prop:=(t= .none/\b0y K x v)\/(t= .bool true/\b8B K H x v)
theorem a7q.ref{K:AE}{H:Hp}{x:Str}{t:PV}{v:V}(h:a7q K H x t v):∃a,v= .ref a:=by
 rcases h with⟨_,a,_,_,_,_,e,_⟩|⟨_,a,_,_,e,_⟩<;>exact⟨a,e⟩
theorem a7q.mono{K:AE}{H H':Hp}{x:Str}{t:PV}{v:V}(s:p5 H H')(h:a7q K H x t v):a7q K H' x t v:=by
 rcases h with h|⟨z,a,C,φ,e,q,r⟩
 ·exact .inl h
 ·exact .inr ⟨z,a,C,φ,e,s _ _ q,r⟩
def a5F(K:AE)(H:Hp)(x:Str)(m:V)(fs:List (Str×V))(v:V):Prop:=
 (m= .bl false/\∃a C dx,v= .ref a/\H a=some (.ins C dx fs)/\a0v K x C)\/
 (m= .int 0/\∃(a C dx:AB) (φ:Heap->Prop),v= .ref a/\H a=some (.ext φ)/\(∀h:Heap,φ h->∃oe vs,h.get? a=some oe/\oe.cls= .ref C/\oe.data= .fields vs/\oe.dict=some dx)/\H dx=some (.xd fs)/\a0v K x C)
theorem a5F.ref{K:AE}{H:Hp}{x:Str}{m:V}{fs:List (Str×V)}{v:V}(h:a5F K H x m fs v):∃a,v= .ref a:=by
 rcases h with⟨_,a,_,_,e,_⟩|⟨_,a,_,_,_,e,_⟩<;>exact⟨a,e⟩
theorem a5F.mono{K:AE}{H H':Hp}{x:Str}{m:V}{fs:List (Str×V)}{v:V}(s:p5 H H')(h:a5F K H x m fs v):a5F K H' x m fs v:=by
 rcases h with⟨z,a,C,dx,e,q,n⟩|⟨z,a,C,dx,φ,e,q,r,d,n⟩
 ·exact .inl ⟨z,a,C,dx,e,s _ _ q,n⟩
 ·exact .inr ⟨z,a,C,dx,φ,e,s _ _ q,r,s _ _ d,n⟩
def kP:B0->PV
 | .inl i=> .int i
 | .inr x=> .str x
def s1{α:Type}(kv:B0×α):List B0×α:=([kv.1],kv.2)
mutual
def U6(K:AE)(H:Hp):PV->V->Prop
 | .none,v=>v= .non
 | .bool b,v=>v= .bl b
 | .int i,v=>v= .int i
 | .str x,v=>v= .str x
 | .tuple ps,v=>∃a xs,v= .ref a/\TqT K H a xs/\p4 K H ps xs
 | .list ps,v=>∃a xs,v= .ref a/\SqL K H a xs/\p4 K H ps xs
 | .dict kvs,v=>(∃a ys,v= .ref a/\H a=some (.dK ys)/\a27 K H kvs (ys.map s1))\/(∃a xs,v= .ref a/\H a=some (.dT xs)/\a27 K H kvs (([],.non)::xs))\/(∃x t,kvs=[(.str x,t)]/\a7q K H x t v)\/(∃x m fs,a5F K H x m fs v/\a4r K H kvs ((x,m)::fs))
def p4(K:AE)(H:Hp):List PV->List V->Prop
 |[],vs=>vs=[]
 |p::ps,vs=>∃v r,vs=v::r/\U6 K H p v/\p4 K H ps r
def a27(K:AE)(H:Hp):List (PV×PV)->List (List B0×V)->Prop
 |[],ys=>ys=[]
 |(k,p)::r,ys=>∃kk v t,ys=(kk,v)::t/\k= .tuple (kk.map kP)/\U6 K H p v/\a27 K H r t
def a4r(K:AE)(H:Hp):List (PV×PV)->List (Str×V)->Prop
 |[],ys=>ys=[]
 |(k,p)::r,ys=>∃f v t,ys=(f,v)::t/\k= .str f/\U6 K H p v/\a4r K H r t
end
theorem C4{K:AE}{H H':Hp}{a:AB}{xs:List V}(s:p5 H H')(h:SqT K H a xs):SqT K H' a xs:=by
 rcases h with(h|⟨o,h⟩)|h
 ·exact .inl (.inl (s _ _ h))
 ·exact .inl (.inr ⟨o,s _ _ h⟩)
 ·exact .inr h
theorem a0o{K:AE}{H H':Hp}{a:AB}{xs:List V}(s:p5 H H')(h:SqL K H a xs):SqL K H' a xs:=by
 rcases h with(h|⟨o,h⟩)|h
 ·exact .inl (.inl (s _ _ h))
 ·exact .inl (.inr ⟨o,s _ _ h⟩)
 ·exact .inr h
mutual
theorem U6.mono{K:AE}{H H':Hp}(s:p5 H H'):∀(p:PV) {v:V},U6 K H p v->U6 K H' p v
 | .none,_,h=>h
 | .bool _,_,h=>h
 | .int _,_,h=>h
 | .str _,_,h=>h
 | .dict kvs,_,.inl ⟨a,ys,q,h,r⟩=> .inl ⟨a,ys,q,s _ _ h,a27.mono s kvs r⟩
 | .dict kvs,_,.inr (.inl ⟨a,xs,q,h,r⟩)=> .inr (.inl ⟨a,xs,q,s _ _ h,a27.mono s kvs r⟩)
 | .dict _,_,.inr (.inr (.inl ⟨x,t,e,h⟩))=> .inr (.inr (.inl ⟨x,t,e,h.mono s⟩))
 | .dict kvs,_,.inr (.inr (.inr ⟨x,m,fs,h,r⟩))=> .inr (.inr (.inr ⟨x,m,fs,h.mono s,a4r.mono s kvs r⟩))
 | .tuple ps,_,⟨a,xs,e,q,r⟩=>⟨a,xs,e,b9z s q,p4.mono s ps r⟩
 | .list ps,_,⟨a,xs,e,q,r⟩=>⟨a,xs,e,a0o s q,p4.mono s ps r⟩
theorem p4.mono{K:AE}{H H':Hp}(s:p5 H H'):∀(ps:List PV) {vs:List V},p4 K H ps vs->p4 K H' ps vs
 |[],_,h=>h
 |p::ps,_,⟨v,r,e,q,t⟩=>⟨v,r,e,U6.mono s p q,p4.mono s ps t⟩
theorem a27.mono{K:AE}{H H':Hp}(s:p5 H H'):∀(es:List (PV×PV)) {ys:List (List B0×V)},a27 K H es ys->a27 K H' es ys
 |[],_,h=>h
 |(k,p)::es,_,⟨kk,v,r,e,z,q,t⟩=>⟨kk,v,r,e,z,U6.mono s p q,a27.mono s es t⟩
theorem a4r.mono{K:AE}{H H':Hp}(s:p5 H H'):∀(es:List (PV×PV)) {ys:List (Str×V)},a4r K H es ys->a4r K H' es ys
 |[],_,h=>h
 |(k,p)::es,_,⟨kk,v,r,e,z,q,t⟩=>⟨kk,v,r,e,z,U6.mono s p q,a4r.mono s es t⟩
end
theorem p4.length{K:AE}{H:Hp}:∀{ps:List PV} {vs:List V},p4 K H ps vs->vs.length=ps.length
 |[],_,h=>by cases h;rfl
 |_::ps,_,⟨v,r,e,_,t⟩=>by subst e;rw [AV,AV,p4.length t]
theorem p4.get{K:AE}{H:Hp}:∀{ps:List PV} {vs:List V} {i:Nat} {p:PV},p4 K H ps vs->ps[i]?=some p->∃v,vs[i]?=some v/\U6 K H p v
 |[],_,_,_,_,h=>by simp at h
 |q::ps,_,0,p,⟨v,r,e,a,t⟩,h=>by subst e;simp at h;subst h;exact⟨v,rfl,a⟩
 |q::ps,_,i+1,p,⟨v,r,e,a,t⟩,h=>by subst e;exact p4.get (i:=i) t (by simpa using h)
theorem p4.getV{K:AE}{H:Hp}:∀{ps:List PV} {vs:List V} {i:Nat} {v:V},p4 K H ps vs->vs[i]?=some v->∃p,ps[i]?=some p/\U6 K H p v
 |[],_,_,_,h,e=>by cases h;simp at e
 |q::ps,_,0,v,⟨w,r,e,a,t⟩,h=>by subst e;simp at h;subst h;exact⟨q,rfl,a⟩
 |q::ps,_,i+1,v,⟨w,r,e,a,t⟩,h=>by subst e;exact p4.getV (i:=i) t (by simpa using h)
theorem p4.append{K:AE}{H:Hp}:∀{ps qs:List PV} {vs ws:List V},p4 K H ps vs->p4 K H qs ws->p4 K H (ps++qs) (vs++ws)
 |[],_,_,_,h,t=>by cases h;exact t
 |_::ps,_,_,_,⟨v,r,e,a,t⟩,s=>by subst e;exact⟨v,_,rfl,a,p4.append t s⟩
theorem p4.drop{K:AE}{H:Hp}:∀{ps:List PV} {vs:List V} (n:Nat),p4 K H ps vs->p4 K H (ps.drop n) (vs.drop n)
 |_,_,0,h=>h
 |[],_,n+1,h=>by cases h;rfl
 |_::ps,_,n+1,⟨v,r,e,a,t⟩=>by subst e;exact p4.drop n t
theorem p4.take{K:AE}{H:Hp}:∀{ps:List PV} {vs:List V} (n:Nat),p4 K H ps vs->p4 K H (ps.take n) (vs.take n)
 |_,_,0,h=>rfl
 |[],_,n+1,h=>by cases h;rfl
 |_::ps,_,n+1,⟨v,r,e,a,t⟩=>by subst e;exact⟨v,_,rfl,a,p4.take n t⟩
def S1(K:AE)(H:Hp):List (List B0×PV)->List (List B0×V)->Prop
 |[],ys=>ys=[]
 |(k,p)::r,ys=>∃v t,ys=(k,v)::t/\U6 K H p v/\S1 K H r t
theorem S1.mono{K:AE}{H H':Hp}(s:p5 H H'):∀(kvs:List (List B0×PV)) {ys:List (List B0×V)},S1 K H kvs ys->S1 K H' kvs ys
 |[],_,h=>h
 |(k,p)::r,_,⟨v,t,e,q,h⟩=>⟨v,t,e,U6.mono s p q,S1.mono s r h⟩
inductive a3r where
 |lst (ps:List PV)|dct (kvs:List (List B0×PV))|txt (kvs:List (List B0×PV))
inductive f6 where
 |val (p:PV)|ow (c:a3r)|bo (c:a3r)
abbrev f6.own(ps:List PV):f6:= .ow (.lst ps)
abbrev f6.bor(ps:List PV):f6:= .bo (.lst ps)
abbrev f6.dct(kvs:List (List B0×PV)):f6:= .ow (.dct kvs)
def a4q(K:AE)(F H:Hp)(v:V):a3r->Prop
 | .lst ps=>∃a xs,v= .ref a/\F a=none/\H a=some (.lst xs)/\p4 K F ps xs
 | .dct kvs=>∃a xs,v= .ref a/\F a=none/\H a=some (.dT xs)/\S1 K F kvs xs
 | .txt kvs=>∃a xs,v= .ref a/\F a=none/\H a=some (.dK xs)/\S1 K F kvs (xs.map s1)
def Z1(K:AE)(F H:Hp)(v:V):f6->Prop
 | .val p=>U6 K F p v
 | .ow c=>a4q K F H v c
 | .bo c=>a4q K F H v c
theorem a4q.at_{K:AE}{F H:Hp}{v:V}:∀{c:a3r},a4q K F H v c->∃a o,v= .ref a/\F a=none/\H a=some o
 | .lst _,⟨a,_,e,n,q,_⟩=>⟨a,_,e,n,q⟩
 | .dct _,⟨a,_,e,n,q,_⟩=>⟨a,_,e,n,q⟩
 | .txt _,⟨a,_,e,n,q,_⟩=>⟨a,_,e,n,q⟩
def NT(o:HO):Prop:=∀xs,o≠.tup xs
structure Ext(F H F' H':Hp):Prop where
 f:p5 F F'
 h:p5 H H'
 fh:p5 F' H'
 nw:∀b o,F b=none->H b=some o->NT o->F' b=none
 nf:∀b o u,F' b=some (.frz o u)->F b=some (.frz o u)
theorem p5.refl(H:Hp):p5 H H:=fun _ _ e=>e
theorem Ext.refl{F H:Hp}(s:p5 F H):Ext F H F H:=⟨p5.refl F,p5.refl H,s,fun _ _ e _ _=>e,fun _ _ _ e=>e⟩
theorem Ext.trans{F H F1 H1 F2 H2:Hp}(a:Ext F H F1 H1)(b:Ext F1 H1 F2 H2):Ext F H F2 H2:=
 ⟨a.f.trans b.f,a.h.trans b.h,b.fh,fun c o e q t=>b.nw c o (a.nw c o e q t) (a.h c o q) t,fun c o u e=>a.nf c o u (b.nf c o u e)⟩
theorem b7w{F0 F:Hp}{a:AB}{xs:List V}(h:∀b o u,F b=some (.frz o u)->F0 b=some (.frz o u)):∀b o u,upd F a (.lst xs) b=some (.frz o u)->F0 b=some (.frz o u):=fun b o u z=>by
 by_cases hb:b=a
 ·subst hb;rw [w4] at z;cases z
 ·rw [l7 hb] at z;exact h _ _ _ z
theorem a4q.ext{K:AE}{F H F' H':Hp}{v:V}(x:Ext F H F' H'):∀{c:a3r},a4q K F H v c->a4q K F' H' v c
 | .lst _,⟨a,xs,e,n,q,r⟩=>⟨a,xs,e,x.nw _ _ n q (fun _ h=>nomatch h),x.h _ _ q,p4.mono x.f _ r⟩
 | .dct _,⟨a,xs,e,n,q,r⟩=>⟨a,xs,e,x.nw _ _ n q (fun _ h=>nomatch h),x.h _ _ q,S1.mono x.f _ r⟩
 | .txt _,⟨a,xs,e,n,q,r⟩=>⟨a,xs,e,x.nw _ _ n q (fun _ h=>nomatch h),x.h _ _ q,S1.mono x.f _ r⟩
theorem Z1.ext{K:AE}{F H F' H':Hp}{v:V}(x:Ext F H F' H'):∀{r:f6},Z1 K F H v r->Z1 K F' H' v r
 | .val p,h=>U6.mono x.f p h
 | .ow _,h=>a4q.ext x h
 | .bo _,h=>a4q.ext x h
def a3r.rd:a3r->PV
 | .lst ps=> .list ps
 | .dct kvs=> .dict ((.tuple [],.none)::kvs.map fun kv=>(.tuple (kv.1.map kP),kv.2))
 | .txt kvs=> .dict (kvs.map fun kv=>(.tuple (kv.1.map kP),kv.2))
def f6.rd:f6->PV
 | .val p=>p
 | .ow c=>c.rd
 | .bo c=>c.rd
def f6.toVal:f6->Option PV
 | .val p=>some p
 | .ow (.lst ps)=>some (.list ps)
 | .ow (.dct _)=>none
 | .ow (.txt _)=>none
 | .bo _=>none
theorem a27.of{K:AE}{F H:Hp}(s:p5 F H):∀{kvs:List (List B0×PV)} {xs:List (List B0×V)},S1 K F kvs xs->a27 K H (kvs.map fun kv=>(PyData.tuple (kv.1.map kP),kv.2)) xs
 |[],_,h=>h
 |(k,p)::r,_,⟨v,t,e,q,h⟩=>⟨k,v,t,e,rfl,U6.mono s p q,a27.of s h⟩
theorem a4q.rd{K:AE}{F H:Hp}{v:V}(s:p5 F H):∀{c:a3r},a4q K F H v c->U6 K H c.rd v
 | .lst ps,⟨a,xs,e,n,q,r⟩=>⟨a,xs,e,SqL.of q,p4.mono s _ r⟩
 | .dct kvs,⟨a,xs,e,n,q,r⟩=> .inr (.inl ⟨a,xs,e,q,[],.non,xs,rfl,rfl,rfl,a27.of s r⟩)
 | .txt kvs,⟨a,xs,e,n,q,r⟩=> .inl ⟨a,xs,e,q,a27.of s r⟩
theorem Z1.rd{K:AE}{F H:Hp}{v:V}(s:p5 F H):∀{r:f6},Z1 K F H v r->U6 K H r.rd v
 | .val p,h=>U6.mono s p h
 | .ow _,h=>a4q.rd s h
 | .bo _,h=>a4q.rd s h
structure C3(K:AE)(F H F' H':Hp)(v:V)(r:f6):Prop where
 x:Ext F H F' H'
 rep:Z1 K F' H' v r
 fr:∀c a,r= .ow c->v= .ref a->H a=none
theorem C3.val{K:AE}{F H F' H':Hp}{v:V}{p:PV}(x:Ext F H F' H')(r:U6 K F' p v):C3 K F H F' H' v (.val p):=⟨x,r,fun _ _ e=>nomatch e⟩
theorem C3.here{K:AE}{F H:Hp}{v:V}{p:PV}(s:p5 F H)(r:U6 K F p v):C3 K F H F H v (.val p):=C3.val (Ext.refl s) r
theorem C3.trans{K:AE}{F H F1 H1 F2 H2:Hp}{v:V}{r:f6}(a:Ext F H F1 H1)(b:C3 K F1 H1 F2 H2 v r):C3 K F H F2 H2 v r:=
 ⟨a.trans b.x,b.rep,fun ps c e q=>a.h.free (b.fr ps c e q)⟩
theorem C3.toVal{K:AE}{F H F' H':Hp}{v:V}{p:PV}:∀{r:f6},C3 K F H F' H' v r->r.toVal=some p->∃F2,C3 K F H F2 H' v (.val p)
 | .val q,o,e=>by cases e;exact⟨F',o⟩
 | .bo _,_,e=>nomatch e
 | .ow (.dct _),_,e=>nomatch e
 | .ow (.txt _),_,e=>nomatch e
 | .ow (.lst ps),o,e=>by
   cases e
   obtain⟨a,xs,rfl,n,q,r⟩:=o.rep
   have fr:=o.fr _ a rfl rfl
   have up:p5 F' (upd F' a (.lst xs)):=fun b u z=>by rw [l7 (m4 z n)];exact z
   refine⟨upd F' a (.lst xs),C3.val ⟨o.x.f.trans up,o.x.h,fun b u z=> ?_,fun b u z y t=> ?_,b7w o.x.nf⟩ ⟨a,xs,rfl,SqL.of w4,p4.mono up _ r⟩⟩
   ·by_cases hb:b=a
    ·subst hb;rw [w4] at z;cases z;exact q
    ·rw [l7 hb] at z;exact o.x.fh _ _ z
   ·rw [l7 (m4 y fr)];exact o.x.nw b u z y t
theorem a2h{H:Hp}{a:AB}{o:HO}(n:H a=none):p5 H (upd H a o):=fun b u z=>by rw [l7 (m4 z n)];exact z
theorem Ext.lay{F H:Hp}{a:AB}{o:HO}(s:p5 F H)(n:H a=none)(hf:∀x u,o≠.frz x u:=by intro _ _ h;cases h):Ext F H (upd F a o) (upd H a o):=
 ⟨a2h (s.free n),a2h n,fun b u z=>by
  by_cases hb:b=a
  ·subst hb;rw [w4] at z ⊢;exact z
  ·rw [l7 hb] at z ⊢;exact s _ _ z,fun b u z y _=>by rw [l7 (m4 y n)];exact z,fun b w u z=>by
  by_cases hb:b=a
  ·subst hb;rw [w4] at z;exact absurd (Option.some.inj z) (hf w u)
  ·rw [l7 hb] at z;exact z⟩
theorem Ext.layH{F H:Hp}{a:AB}{o:HO}(s:p5 F H)(n:H a=none):Ext F H F (upd H a o):=
 ⟨p5.refl F,a2h n,fun b u z=>by rw [l7 (m4 (s _ _ z) n)];exact s _ _ z,fun b u z y _=>z,fun _ _ _ z=>z⟩
theorem C3.tup{K:AE}{F H:Hp}{a:AB}{xs:List V}{ps:List PV}(s:p5 F H)(n:H a=none)(r:p4 K F ps xs):C3 K F H (upd F a (.tup xs)) (upd H a (.tup xs)) (.ref a) (.val (.tuple ps)):=
 C3.val (Ext.lay s n) ⟨a,xs,rfl,TqT.of w4,p4.mono (a2h (s.free n)) _ r⟩
theorem C3.lst{K:AE}{F H:Hp}{a:AB}{xs:List V}{ps:List PV}(s:p5 F H)(n:H a=none)(r:p4 K F ps xs):C3 K F H F (upd H a (.lst xs)) (.ref a) (.own ps):=
 ⟨Ext.layH s n,⟨a,xs,rfl,s.free n,w4,r⟩,fun _ _ _ e=>by cases e;exact n⟩
abbrev g0:=List (Option f6)
structure S0(K:AE)(F H:Hp)(σ:L2.St)(ρ:g0):Prop where
 fh:p5 F H
 len:σ.length=ρ.length
 at_:∀(i:Nat) (r:f6),ρ[i]?=some (some r)->∃v,σ[i]?=some (some v)/\Z1 K F H v r
 nb:∀(i:Nat) (c:a3r),ρ[i]?≠some (some (.bo c))
 ap:∀(i j:Nat) (c d:a3r) (a:AB),i≠j->ρ[i]?=some (some (.ow c))->ρ[j]?=some (some (.ow d))->σ[i]?=some (some (.ref a))->σ[j]?≠some (some (.ref a))
theorem S0.ext{K:AE}{F H F' H':Hp}{σ:L2.St}{ρ:g0}(e:S0 K F H σ ρ)(x:Ext F H F' H'):S0 K F' H' σ ρ:=
 ⟨x.fh,e.len,fun i r q=>let ⟨v,a,b⟩:=e.at_ i r q;⟨v,a,b.ext x⟩,e.nb,e.ap⟩
abbrev M:=g0->Option f6
def tM(K:AE)(m:M):TE:=fun σ H Q=>∃F ρ r,S0 K F H σ ρ/\m ρ=some r/\∀v F' H',C3 K F H F' H' v r->Q v H'
abbrev EE(X:Cx)(e:AF)(m:M):Prop:=PE X e (tM X.K m)
theorem J4{X:Cx}{e:AF}{t t':TE}(h:PE X e t)(i:∀σ H Q,t' σ H Q->t σ H Q):PE X e t':=fun pins s σ H Q I q=>h pins s σ H Q I (i σ H Q q)
theorem b2a{X:Cx}{e:AF}{t t':TT}(h:PT X e t)(i:∀σ H Q,t' σ H Q->t σ H Q):PT X e t':=fun pins s σ H Q I q=>h pins s σ H Q I (i σ H Q q)
theorem b7V{X:Cx}{e:AF}{t t':TT}(h:PW X e t)(i:∀σ H Q,t' σ H Q->t σ H Q):PW X e t':=fun wh pins s σ H Q I q=>h wh pins s σ H Q I (i σ H Q q)
theorem b7E{X:Cx}{e:List AF}{t t':TA}(h:PA X e t)(i:∀σ H Q,t' σ H Q->t σ H Q):PA X e t':=fun pos pins s σ H Q I q=>h pos pins s σ H Q I (i σ H Q q)
theorem L5{X:Cx}{e:Stmt}{t t':TS}(h:PS X e t)(i:∀D σ H,t' D σ H->t D σ H):PS X e t':=fun pins s σ H D I q=>h pins s σ H D I (i D σ H q)
theorem a8U{X:Cx}{e:List Stmt}{t t':TS}(h:PSs X e t)(i:∀D σ H,t' D σ H->t D σ H):PSs X e t':=fun pins s σ H D I q=>h pins s σ H D I (i D σ H q)
def mC(p:PV):M:=fun _=>some (.val p)
def b7(i:Nat):M:=fun ρ=>match ρ[i]? with
 |some (some (.ow c))=>some (.bo c)
 |some (some r)=>some r
 |_=>none
section
variable {X:Cx}{a b c:AF}{ma mb mc:M}{pos:Pos}
theorem a3d{e:AF}{v:V}{p:PV}(h:PE X e (tC v))(r:∀H,U6 X.K H p v):EE X e (mC p):=
 J4 h fun σ H Q ⟨F,ρ,q,he,hm,k⟩=>by
  cases hm
  exact k v F H (C3.here he.fh (r F))
theorem b8{i j pos}:EE X (.Constant (.int i) j pos) (mC (.int i)):=a3d c1a fun _=>rfl
theorem U9{b j pos}:EE X (.Constant (.bool b) j pos) (mC (.bool b)):=a3d c2c fun _=>rfl
theorem y9{j pos}:EE X (.Constant .none j pos) (mC .none):=a3d c1c fun _=>rfl
theorem j2{x j pos}:EE X (.Constant (.str x) j pos) (mC (.str x)):=a3d c1f fun _=>rfl
theorem a8(i:Nat){x:Str}{pos:Pos}(h:PE X (.Name x pos) (b3D i)):EE X (.Name x pos) (b7 i):=
 J4 h fun σ H Q ⟨F,ρ,r,he,hm,k⟩=>by
  unfold b7 at hm
  split at hm
  ·rename_i ps e
   cases hm
   obtain⟨v,e1,rr⟩:=he.at_ i _ e
   exact⟨v,e1,k v F H ⟨Ext.refl he.fh,rr,fun _ _ z=>nomatch z⟩⟩
  ·rename_i r' nn e
   cases hm
   obtain⟨v,e1,rr⟩:=he.at_ i _ e
   exact⟨v,e1,k v F H ⟨Ext.refl he.fh,rr,fun ps _ z=>absurd z (nn ps)⟩⟩
  ·cases hm
def rM2(K:AE)(g:f6->f6->Option f6):R2:=fun x y H Q=>∃F rx ry rz,p5 F H/\Z1 K F H x rx/\Z1 K F H y ry/\g rx ry=some rz/\∀v F' H',C3 K F H F' H' v rz->Q v H'
abbrev OpM(X:Cx)(f:AA->AA->Sem AA)(g:f6->f6->Option f6):Prop:=OpR X f (rM2 X.K g)
def m2(g:f6->f6->Option f6)(ma mb:M):M:=fun ρ=>(ma ρ).bind fun x=>(mb ρ).bind fun y=>g x y
theorem bind_some{α β:Type}{o:Option α}{f:α->Option β}{b:β}(h:o.bind f=some b):∃a,o=some a/\f a=some b:=by
 cases o with
 |none=>cases h
 |some a=>exact⟨a,rfl,h⟩
theorem b2l{K:AE}{g:f6->f6->Option f6}{σ:L2.St}{H:Hp}{Q:VK}(h:tM K (m2 g ma mb) σ H Q):tOp (rM2 K g) (tM K ma) (tM K mb) σ H Q:=by
 obtain⟨F,ρ,r,he,hm,k⟩:=h
 obtain⟨rx,e1,hm⟩:=bind_some hm
 obtain⟨ry,e2,hm⟩:=bind_some hm
 exact⟨F,ρ,rx,he,e1,fun v F1 H1 o1=>⟨F1,ρ,ry,he.ext o1.x,e2,fun u F2 H2 o2=>⟨F2,rx,ry,r,o2.x.fh,o1.rep.ext o2.x,o2.rep,hm,fun z F3 H3 o3=>k z F3 H3 (C3.trans (o1.x.trans o2.x) o3)⟩⟩⟩
theorem f9{op:Operator}{g:f6->f6->Option f6}(ho:OpM X (binaryOp op) g)(ha:EE X a ma)(hb:EE X b mb):EE X (.BinOp a op b pos) (m2 g ma mb):=
 J4 (c2e ho ha hb) fun _ _ _ h=>b2l h
theorem b1r{op:CmpOp}{g:f6->f6->Option f6}(ho:OpM X (compareOp op) g)(ha:EE X a ma)(hb:EE X b mb)(hm:behindInMarks op b=false):EE X (.Compare a [op] [b] pos) (m2 g ma mb):=
 J4 (b9l ho ha hb hm) fun _ _ _ h=>b2l h
theorem a7P{f:AA->AA->Sem AA}{r:R2}{g:f6->f6->Option f6}(h:OpR X f r)
 (i:∀F H x y rx ry rz,p5 F H->Z1 X.K F H x rx->Z1 X.K F H y ry->g rx ry=some rz->∀Q:VK,(∀v F' H',C3 X.K F H F' H' v rz->Q v H')->r x y H Q):OpM X f g:=
 fun pins s σ H x y v u Q I rx ry ⟨F,ra,rb,rz,s0,h1,h2,h3,k⟩=>h pins s σ H x y v u Q I rx ry (i F H x y ra rb rz s0 h1 h2 h3 Q k)
end
def gI(f:Int->Int->PV):f6->f6->Option f6
 | .val (.int i),.val (.int j)=>some (.val (f i j))
 |_,_=>none
theorem b7x:∃f:(Int->Int->Prop)->Int->Int->Bool,∀C i j,f C i j=true↔C i j:=⟨fun C i j=> @decide (C i j) (Classical.propDecidable _),fun C i j=> @decide_eq_true_iff (C i j) (Classical.propDecidable _)⟩
def okC:(Int->Int->Prop)->Int->Int->Bool:=b7x.choose
theorem a3O{C:Int->Int->Prop}{i j:Int}:okC C i j=true↔C i j:=b7x.choose_spec C i j
def gIc(C:Int->Int->Prop)[∀i j,Decidable (C i j)](f:Int->Int->PV):f6->f6->Option f6
 | .val (.int i),.val (.int j)=>if okC C i j=true then some (.val (f i j)) else none
 |_,_=>none
theorem b4V{f:Int->Int->PV}{rx ry rz:f6}(h:gI f rx ry=some rz):∃i j,rx= .val (.int i)/\ry= .val (.int j)/\rz= .val (f i j):=by
 unfold gI at h
 split at h
 ·cases h;exact⟨_,_,rfl,rfl,rfl⟩
 ·cases h
theorem b64{C:Int->Int->Prop}[∀i j,Decidable (C i j)]{f:Int->Int->PV}{rx ry rz:f6}(h:gIc C f rx ry=some rz):∃i j,rx= .val (.int i)/\ry= .val (.int j)/\C i j/\rz= .val (f i j):=by
 unfold gIc at h
 split at h
 ·split at h
  ·rename_i c;cases h;exact⟨_,_,rfl,rfl,a3O.mp c,rfl⟩
  ·cases h
 ·cases h
section
variable {X:Cx}
theorem b5h{f:AA->AA->Sem AA}{g:Int->Int->V}{g':Int->Int->PV}(h:OpR X f (rI0 g))(e:∀i j H,U6 X.K H (g' i j) (g i j)):OpM X f (gI g'):=
 a7P h fun F H x y rx ry rz s h1 h2 h3 Q k=>by
  obtain⟨i,j,rfl,rfl,rfl⟩:=b4V h3
  exact⟨i,j,h1,h2,k _ F H (C3.here s (e i j F))⟩
theorem b4p{f:AA->AA->Sem AA}{C:Int->Int->Prop}[∀i j,Decidable (C i j)]{g:Int->Int->V}{g':Int->Int->PV}(h:OpR X f (rI C g))(e:∀i j H,U6 X.K H (g' i j) (g i j)):OpM X f (gIc C g'):=
 a7P h fun F H x y rx ry rz s h1 h2 h3 Q k=>by
  obtain⟨i,j,rfl,rfl,c,rfl⟩:=b64 h3
  exact⟨i,j,h1,h2,c,k _ F H (C3.here s (e i j F))⟩
end
section
variable {X:Cx}{pins:List (AB×Obj)}{σ:L2.St}{H:Hp}{s:AC}
theorem a8e(I:l8 X pins σ H s){a:AB}{xs ys:List V}(h:SqL X.K H a xs)(h':SqT X.K H a ys):False:=by
 obtain⟨its,r,p,_⟩:=I.list h
 obtain⟨its',r',p',_⟩:=I.tuple h'
 exact SeqAt.ne_of_list_tuple p.isList (show s.heap.IsTuple a its'.toArray from p') rfl
theorem a8c(I:l8 X pins σ H s){a:AB}{xs:List V}{ys:List (B0×V)}(h:H a=some (.dK ys))(h':SqL X.K H a xs):False:=by
 obtain⟨its,r,⟨o,n,e,c,_⟩,_⟩:=I.list h'
 obtain⟨_,_,_,_,o',_,_,e',ex,_⟩:=I.hok a _ h
 rw [e] at e';cases e'
 have:=ex.1
 rw [c] at this;exact absurd this (by simp)
theorem a8d(I:l8 X pins σ H s){a:AB}{xs:List V}{ys:List (B0×V)}(h:H a=some (.dK ys))(h':SqT X.K H a xs):False:=by
 obtain⟨its,r,⟨o,e,c,_⟩,_⟩:=I.tuple h'
 obtain⟨_,_,_,_,o',_,_,e',ex,_⟩:=I.hok a _ h
 rw [e] at e';cases e'
 have:=ex.1
 rw [c] at this;exact absurd this (by simp)
theorem a9C(I:l8 X pins σ H s){a:AB}{ys:List (List B0×V)}{xs:List V}(h:H a=some (.dT ys))(h':SqL X.K H a xs):False:=by
 obtain⟨its,r,⟨o,n,e,c,_⟩,_⟩:=I.list h'
 obtain⟨_,_,_,_,o',_,_,e',ex,_⟩:=I.hok a _ h
 rw [e] at e';cases e'
 have:=ex.1
 rw [c] at this;exact absurd this (by simp)
theorem a9D(I:l8 X pins σ H s){a:AB}{ys:List (List B0×V)}{xs:List V}(h:H a=some (.dT ys))(h':SqT X.K H a xs):False:=by
 obtain⟨its,r,⟨o,e,c,_⟩,_⟩:=I.tuple h'
 obtain⟨_,_,_,_,o',_,_,e',ex,_⟩:=I.hok a _ h
 rw [e] at e';cases e'
 have:=ex.1
 rw [c] at this;exact absurd this (by simp)
theorem b4R(I:l8 X pins σ H s){x:Str}{v:V}(h:b0y X.K x v):∃(a:AB) (o:Obj) (fd:FuncData),v= .ref a/\s.heap.get? a=some o/\o.data= .func fd/\fd.name=x:=by
 obtain⟨a,oc,od,fd,osl,e,k,n⟩:=h
 exact⟨a,_,fd,e,I.kIn a _ k,rfl,n⟩
theorem a5E(I:l8 X pins σ H s){x:Str}{v:V}(h:b8B X.K H x v):∃(a C:AB) (o:Obj) (vs:Array AA),v= .ref a/\s.heap.get? a=some o/\o.cls= .ref C/\o.data= .fields vs/\a0v X.K x C/\o.dict=none:=by
 obtain⟨a,C,φ,e,q,k,n⟩:=h
 obtain⟨oe,vs,h1,h2,h3,h4⟩:=k _ (I.hok a _ q).1
 exact⟨a,C,oe,vs,e,h1,h2,h3,n,h4⟩
theorem a9G(I:l8 X pins σ H s){x:Str}{a:AB}{xs:List V}{t:PV}(h:a7q X.K H x t (.ref a))(h':SqT X.K H a xs):False:=by
 obtain⟨its,r,⟨o',e',c',n',d'⟩,_⟩:=I.tuple h'
 rcases h with⟨_,h⟩|⟨_,h⟩
 ·obtain⟨b,o,fd,e,g,d,_⟩:=b4R I h
  cases e
  rw [g] at e';cases e'
  rw [d] at d';cases d'
 ·obtain⟨b,C,o,vs,e,g,c,d,_⟩:=a5E I h
  cases e
  rw [g] at e';cases e'
  rw [d] at d';cases d'
theorem a9F(I:l8 X pins σ H s){x:Str}{a:AB}{xs:List V}{t:PV}(h:a7q X.K H x t (.ref a))(h':SqL X.K H a xs):False:=by
 obtain⟨its,r,pl,_⟩:=I.list h'
 obtain⟨o',e',c',n',d'⟩:=pl.isList
 rcases h with⟨_,h⟩|⟨_,h⟩
 ·obtain⟨b,o,fd,e,g,d,_⟩:=b4R I h
  cases e
  rw [g] at e';cases e'
  rw [d] at d';cases d'
 ·obtain⟨b,C,o,vs,e,g,c,d,_⟩:=a5E I h
  cases e
  rw [g] at e';cases e'
  rw [d] at d';cases d'
theorem a9E(I:l8 X pins σ H s){x:Str}{a:AB}{ys:List (B0×V)}{t:PV}(h:a7q X.K H x t (.ref a))(h':H a=some (.dK ys)):False:=by
 rcases h with⟨_,b,oc,od,fd,osl,e,k,_⟩|⟨_,b,C,φ,e,q,_⟩
 ·cases e
  have:=(I.bs a _ (I.ok.mod.kin a _ k)).2
  rw [this] at h';cases h'
 ·cases e
  rw [q] at h';cases h'
theorem b04(I:l8 X pins σ H s){x:Str}{a:AB}{ys:List (List B0×V)}{t:PV}(h:a7q X.K H x t (.ref a))(h':H a=some (.dT ys)):False:=by
 rcases h with⟨_,b,oc,od,fd,osl,e,k,_⟩|⟨_,b,C,φ,e,q,_⟩
 ·cases e
  have:=(I.bs a _ (I.ok.mod.kin a _ k)).2
  rw [this] at h';cases h'
 ·cases e
  rw [q] at h';cases h'
theorem b05(I:l8 X pins σ H s){x y:Str}{v:V}(h:b0y X.K x v)(h':b8B X.K H y v):False:=by
 obtain⟨b,oc,od,fd,osl,e,k,_⟩:=h
 obtain⟨b',C,φ,e',q,_⟩:=h'
 rw [e] at e';cases e'
 have:=(I.bs b _ (I.ok.mod.kin b _ k)).2
 rw [this] at q;cases q
theorem c1V(I:l8 X pins σ H s){x y:Str}{t u:PV}{v:V}(h:a7q X.K H x t v)(h':a7q X.K H y u v):x=y/\t=u:=by
 rcases h with⟨rfl,h⟩|⟨rfl,h⟩<;>rcases h' with⟨rfl,h'⟩|⟨rfl,h'⟩
 all_goals first|refine⟨?_,rfl⟩|skip
 ·obtain⟨b,oc,od,fd,osl,e,k,n⟩:=h
  obtain⟨b',oc',od',fd',osl',e',k',n'⟩:=h'
  rw [e] at e';cases e'
  rw [k] at k';cases k'
  rw [<-n,n']
 ·exact(b05 I h h').elim
 ·exact(b05 I h' h).elim
 ·obtain⟨b,C,o,vs,e,g,c,d,n,_⟩:=a5E I h
  obtain⟨b',C',o',vs',e',g',c',d',n',_⟩:=a5E I h'
  rw [e] at e';cases e'
  rw [g] at g';cases g'
  rw [c] at c';cases c'
  exact n.inj n'
theorem b5f(I:l8 X pins σ H s){x:Str}{m v:V}{fs:List (Str×V)}(h:a5F X.K H x m fs v):∃(a C:AB) (o:Obj),v= .ref a/\s.heap.get? a=some o/\o.cls= .ref C/\a0v X.K x C:=by
 rcases h with⟨_,a,C,dx,e,q,n⟩|⟨_,a,C,dx,φ,e,q,r,d,n⟩
 ·obtain⟨_,_,_,g,_⟩:=I.hok a _ q
  exact⟨a,C,_,e,g,rfl,n⟩
 ·obtain⟨oe,vs,h1,h2,_⟩:=r _ (I.hok a _ q).1
  exact⟨a,C,oe,e,h1,h2,n⟩
theorem a9J(I:l8 X pins σ H s){x:Str}{m:V}{fs:List (Str×V)}{a:AB}{xs:List V}(h:a5F X.K H x m fs (.ref a))(h':SqT X.K H a xs):False:=by
 obtain⟨its,r,⟨o',e',c',n',d'⟩,_⟩:=I.tuple h'
 obtain⟨b,C,o,e,g,c,_⟩:=b5f I h
 cases e
 rw [g] at e';cases e'
 rw [c] at c';cases c'
theorem a9I(I:l8 X pins σ H s){x:Str}{m:V}{fs:List (Str×V)}{a:AB}{xs:List V}(h:a5F X.K H x m fs (.ref a))(h':SqL X.K H a xs):False:=by
 obtain⟨its,r,pl,_⟩:=I.list h'
 obtain⟨o',e',c',n',d'⟩:=pl.isList
 obtain⟨b,C,o,e,g,c,_⟩:=b5f I h
 cases e
 rw [g] at e';cases e'
 rw [c] at c';cases c'
theorem a9H{x:Str}{m:V}{fs:List (Str×V)}{a:AB}{ys:List (B0×V)}(h:a5F X.K H x m fs (.ref a))(h':H a=some (.dK ys)):False:=by
 rcases h with⟨_,b,C,dx,e,q,n⟩|⟨_,b,C,dx,φ,e,q,r,d,n⟩
 ·cases e;rw [q] at h';cases h'
 ·cases e;rw [q] at h';cases h'
theorem b06{x:Str}{m:V}{fs:List (Str×V)}{a:AB}{ys:List (List B0×V)}(h:a5F X.K H x m fs (.ref a))(h':H a=some (.dT ys)):False:=by
 rcases h with⟨_,b,C,dx,e,q,n⟩|⟨_,b,C,dx,φ,e,q,r,d,n⟩
 ·cases e;rw [q] at h';cases h'
 ·cases e;rw [q] at h';cases h'
theorem b07(I:l8 X pins σ H s){x y:Str}{m v:V}{fs:List (Str×V)}{t:PV}(h:a5F X.K H x m fs v)(h':a7q X.K H y t v):False:=by
 rcases h' with⟨_,h'⟩|⟨_,h'⟩
 ·obtain⟨b,oc,od,fd,osl,e,k,_⟩:=h'
  have nn:=(I.bs b _ (I.ok.mod.kin b _ k)).2
  rcases h with⟨_,b',C,dx,e',q,n⟩|⟨_,b',C,dx,φ,e',q,r,d,n⟩
  ·rw [e] at e';cases e';rw [nn] at q;cases q
  ·rw [e] at e';cases e';rw [nn] at q;cases q
 ·obtain⟨b,C,o,vs,e,g,c,d,n,dn⟩:=a5E I h'
  rcases h with⟨_,b',C',dx,e',q,n'⟩|⟨_,b',C',dx,φ,e',q,r,d',n'⟩
  ·rw [e] at e';cases e'
   obtain⟨_,_,_,g',_⟩:=I.hok _ _ q
   rw [g] at g';cases g'
   cases dn
  ·rw [e] at e';cases e'
   obtain⟨oe,vs',h1,h2,h3,h4⟩:=r _ (I.hok _ _ q).1
   rw [g] at h1;cases h1
   rw [dn] at h4;cases h4
theorem c17(I:l8 X pins σ H s){x y:Str}{m m' v:V}{fs fs':List (Str×V)}(h:a5F X.K H x m fs v)(h':a5F X.K H y m' fs' v):(x,m)::fs=(y,m')::fs':=by
 rcases h with⟨rfl,b,C,dx,e,q,n⟩|⟨rfl,b,C,dx,φ,e,q,r,d,n⟩<;>rcases h' with⟨rfl,b',C',dx',e',q',n'⟩|⟨rfl,b',C',dx',φ',e',q',r',d',n'⟩
 ·rw [e] at e';cases e';rw [q] at q';cases q';rw [n.inj n']
 ·rw [e] at e';cases e';rw [q] at q';cases q'
 ·rw [e] at e';cases e';rw [q] at q';cases q'
 ·rw [e] at e';cases e';rw [q] at q';cases q'
  obtain⟨o1,v1,a1,a2,a3,a4⟩:=r _ (I.hok _ _ q).1
  obtain⟨o2,v2,b1,b2,b3,b4⟩:=r' _ (I.hok _ _ q).1
  rw [a1] at b1;cases b1
  rw [a2] at b2;cases b2
  rw [a4] at b4;cases b4
  rw [d] at d';cases d'
  rw [n.inj n']
theorem b5g{K:AE}{F:Hp}{k p:PV}{r:List (PV×PV)}{y:Str}{m v:V}{fs:List (Str×V)}(h:a5F K F y m fs v)(hr:a4r K F ((k,p)::r) ((y,m)::fs)):k= .str y/\(p= .bool false\/p= .int 0)/\a4r K F r fs:=by
 obtain⟨f,w,t,e,z,q,hr⟩:=hr
 cases e
 refine⟨z, ?_,hr⟩
 rcases h with⟨rfl,_⟩|⟨rfl,_⟩
 ·cases p with
  |bool b=>cases q;exact .inl rfl
  |tuple _=>obtain⟨_,_,e,_⟩:=q;cases e
  |list _=>obtain⟨_,_,e,_⟩:=q;cases e
  |dict _=>
   rcases q with⟨_,_,e,_⟩|⟨_,_,e,_⟩|⟨_,_,_,q⟩|⟨_,_,_,q,_⟩
   ·cases e
   ·cases e
   ·obtain⟨_,e⟩:=q.ref;cases e
   ·obtain⟨_,e⟩:=q.ref;cases e
  |_=>cases q
 ·cases p with
  |int b=>cases q;exact .inr rfl
  |tuple _=>obtain⟨_,_,e,_⟩:=q;cases e
  |list _=>obtain⟨_,_,e,_⟩:=q;cases e
  |dict _=>
   rcases q with⟨_,_,e,_⟩|⟨_,_,e,_⟩|⟨_,_,_,q⟩|⟨_,_,_,q,_⟩
   ·cases e
   ·cases e
   ·obtain⟨_,e⟩:=q.ref;cases e
   ·obtain⟨_,e⟩:=q.ref;cases e
  |_=>cases q
mutual
theorem U6.inj(I:l8 X pins σ H s):∀(p q:PV) {v:V},U6 X.K H p v->U6 X.K H q v->p=q
 | .tuple ps,q,v,⟨a,xs,e,h,r⟩,h'=>by
   subst e
   cases q with
   |tuple qs=>
    obtain⟨a',xs',e',h',r'⟩:=h'
    cases e'
    cases I.tuple_inj h.sq h'.sq
    rw [p4.inj I ps qs r r']
   |list qs=>obtain⟨a',xs',e',h',r'⟩:=h';cases e';exact(a8e I h' h.sq).elim
   |dict qs=>
    rcases h' with⟨a',_,e',h',_⟩|⟨a',_,e',h',_⟩|⟨x,t,_,h'⟩|⟨x,m,fs,h',_⟩
    ·cases e';exact(a8d I h' h.sq).elim
    ·cases e';exact(a9D I h' h.sq).elim
    ·exact(a9G I h' h.sq).elim
    ·exact(a9J I h' h.sq).elim
   |_=>cases h'
 | .list ps,q,v,⟨a,xs,e,h,r⟩,h'=>by
   subst e
   cases q with
   |list qs=>
    obtain⟨a',xs',e',h',r'⟩:=h'
    cases e'
    cases I.list_inj h h'
    rw [p4.inj I ps qs r r']
   |tuple qs=>obtain⟨a',xs',e',h',r'⟩:=h';cases e';exact(a8e I h h'.sq).elim
   |dict qs=>
    rcases h' with⟨a',_,e',h',_⟩|⟨a',_,e',h',_⟩|⟨x,t,_,h'⟩|⟨x,m,fs,h',_⟩
    ·cases e';exact(a8c I h' h).elim
    ·cases e';exact(a9C I h' h).elim
    ·exact(a9F I h' h).elim
    ·exact(a9I I h' h).elim
   |_=>cases h'
 | .dict ps,q,v,.inl ⟨a,ys,e,h,hr⟩,h'=>by
   subst e
   cases q with
   |tuple qs=>obtain⟨a',xs',e',h',r'⟩:=h';cases e';exact(a8d I h h'.sq).elim
   |list qs=>obtain⟨a',xs',e',h',r'⟩:=h';cases e';exact(a8c I h h').elim
   |dict qs=>
    rcases h' with⟨a',_,e',h',r'⟩|⟨a',_,e',h',_⟩|⟨x,t,_,h'⟩|⟨x,m,fs,h',_⟩
    ·cases e';rw [h] at h';cases h';rw [a27.inj I ps qs hr r']
    ·cases e';rw [h] at h';cases h'
    ·exact(a9E I h' h).elim
    ·exact(a9H h' h).elim
   |_=>cases h'
 | .dict ps,q,v,.inr (.inl ⟨a,ys,e,h,hr⟩),h'=>by
   subst e
   cases q with
   |tuple qs=>obtain⟨a',xs',e',h',r'⟩:=h';cases e';exact(a9D I h h'.sq).elim
   |list qs=>obtain⟨a',xs',e',h',r'⟩:=h';cases e';exact(a9C I h h').elim
   |dict qs=>
    rcases h' with⟨a',_,e',h',_⟩|⟨a',_,e',h',r'⟩|⟨x,t,_,h'⟩|⟨x,m,fs,h',_⟩
    ·cases e';rw [h] at h';cases h'
    ·cases e';rw [h] at h';cases h';rw [a27.inj I ps qs hr r']
    ·exact(b04 I h' h).elim
    ·exact(b06 h' h).elim
   |_=>cases h'
 | .dict ps,q,v,.inr (.inr (.inr ⟨x,m,fs,h,hr⟩)),h'=>by
   cases q with
   |tuple qs=>obtain⟨a',xs',e',h',r'⟩:=h';subst e';exact(a9J I h h'.sq).elim
   |list qs=>obtain⟨a',xs',e',h',r'⟩:=h';subst e';exact(a9I I h h').elim
   |dict qs=>
    rcases h' with⟨a',_,e',h',_⟩|⟨a',_,e',h',_⟩|⟨y,u,e1,h'⟩|⟨y,m',fs',h',hr'⟩
    ·subst e';exact(a9H h h').elim
    ·subst e';exact(b06 h h').elim
    ·exact(b07 I h h').elim
    ·have z:=c17 I h h'
     rw [z] at hr
     rw [a4r.inj I ps qs hr hr']
   |none=>obtain⟨_,e⟩:=h.ref;rw [e] at h';cases h'
   |bool _=>obtain⟨_,e⟩:=h.ref;rw [e] at h';cases h'
   |int _=>obtain⟨_,e⟩:=h.ref;rw [e] at h';cases h'
   |str _=>obtain⟨_,e⟩:=h.ref;rw [e] at h';cases h'
 | .dict ps,q,v,.inr (.inr (.inl ⟨x,t,e0,h⟩)),h'=>by
   subst e0
   cases q with
   |tuple qs=>obtain⟨a',xs',e',h',r'⟩:=h';subst e';exact(a9G I h h'.sq).elim
   |list qs=>obtain⟨a',xs',e',h',r'⟩:=h';subst e';exact(a9F I h h').elim
   |dict qs=>
    rcases h' with⟨a',_,e',h',_⟩|⟨a',_,e',h',_⟩|⟨y,u,e1,h'⟩|⟨y,m,fs,h',_⟩
    ·subst e';exact(a9E I h h').elim
    ·subst e';exact(b04 I h h').elim
    ·obtain⟨z1,z2⟩:=c1V I h h';rw [e1,z1,z2]
    ·exact(b07 I h' h).elim
   |none=>obtain⟨_,e⟩:=h.ref;rw [e] at h';cases h'
   |bool _=>obtain⟨_,e⟩:=h.ref;rw [e] at h';cases h'
   |int _=>obtain⟨_,e⟩:=h.ref;rw [e] at h';cases h'
   |str _=>obtain⟨_,e⟩:=h.ref;rw [e] at h';cases h'
 | .none,q,v,h,h'=>by
   cases h
   cases q with
   |none=>rfl
   |tuple _=>obtain⟨_,_,e,_⟩:=h';cases e
   |list _=>obtain⟨_,_,e,_⟩:=h';cases e
   |dict _=>
    rcases h' with⟨_,_,e,_,_⟩|⟨_,_,e,_⟩|⟨_,_,_,h'⟩|⟨_,_,_,h',_⟩
    ·cases e
    ·cases e
    ·obtain⟨_,e⟩:=h'.ref;cases e
    ·obtain⟨_,e⟩:=h'.ref;cases e
   |_=>cases h'
 | .bool _,q,v,h,h'=>by
   cases h
   cases q with
   |bool _=>cases h';rfl
   |tuple _=>obtain⟨_,_,e,_⟩:=h';cases e
   |list _=>obtain⟨_,_,e,_⟩:=h';cases e
   |dict _=>
    rcases h' with⟨_,_,e,_,_⟩|⟨_,_,e,_⟩|⟨_,_,_,h'⟩|⟨_,_,_,h',_⟩
    ·cases e
    ·cases e
    ·obtain⟨_,e⟩:=h'.ref;cases e
    ·obtain⟨_,e⟩:=h'.ref;cases e
   |_=>cases h'
 | .int _,q,v,h,h'=>by
   cases h
   cases q with
   |int _=>cases h';rfl
   |tuple _=>obtain⟨_,_,e,_⟩:=h';cases e
   |list _=>obtain⟨_,_,e,_⟩:=h';cases e
   |dict _=>
    rcases h' with⟨_,_,e,_,_⟩|⟨_,_,e,_⟩|⟨_,_,_,h'⟩|⟨_,_,_,h',_⟩
    ·cases e
    ·cases e
    ·obtain⟨_,e⟩:=h'.ref;cases e
    ·obtain⟨_,e⟩:=h'.ref;cases e
   |_=>cases h'
 | .str _,q,v,h,h'=>by
   cases h
   cases q with
   |str _=>cases h';rfl
   |tuple _=>obtain⟨_,_,e,_⟩:=h';cases e
   |list _=>obtain⟨_,_,e,_⟩:=h';cases e
   |dict _=>
    rcases h' with⟨_,_,e,_,_⟩|⟨_,_,e,_⟩|⟨_,_,_,h'⟩|⟨_,_,_,h',_⟩
    ·cases e
    ·cases e
    ·obtain⟨_,e⟩:=h'.ref;cases e
    ·obtain⟨_,e⟩:=h'.ref;cases e
   |_=>cases h'
theorem p4.inj(I:l8 X pins σ H s):∀(ps qs:List PV) {vs:List V},p4 X.K H ps vs->p4 X.K H qs vs->ps=qs
 |[],qs,vs,h,h'=>by
  cases h
  cases qs with
  |nil=>rfl
  |cons q qs=>obtain⟨_,_,e,_⟩:=h';cases e
 |p::ps,qs,vs,⟨v,r,e,h,t⟩,h'=>by
  subst e
  cases qs with
  |nil=>cases h'
  |cons q qs=>
   obtain⟨v',r',e',h',t'⟩:=h'
   cases e'
   rw [U6.inj I p q h h',p4.inj I ps qs t t']
theorem a27.inj(I:l8 X pins σ H s):∀(es fs:List (PV×PV)) {ys:List (List B0×V)},a27 X.K H es ys->a27 X.K H fs ys->es=fs
 |[],fs,ys,h,h'=>by
  cases h
  cases fs with
  |nil=>rfl
  |cons f fs=>obtain⟨k,p⟩:=f;obtain⟨_,_,_,e,_⟩:=h';cases e
 |(k,p)::es,fs,ys,⟨kk,v,r,e,z,q,t⟩,h'=>by
  subst e
  cases fs with
  |nil=>cases h'
  |cons f fs=>
   obtain⟨k',p'⟩:=f
   obtain⟨kk',v',r',e',z',q',t'⟩:=h'
   cases e'
   rw [z,z',U6.inj I p p' q q',a27.inj I es fs t t']
theorem a4r.inj(I:l8 X pins σ H s):∀(es fs:List (PV×PV)) {ys:List (Str×V)},a4r X.K H es ys->a4r X.K H fs ys->es=fs
 |[],fs,ys,h,h'=>by
  cases h
  cases fs with
  |nil=>rfl
  |cons f fs=>obtain⟨k,p⟩:=f;obtain⟨_,_,_,e,_⟩:=h';cases e
 |(k,p)::es,fs,ys,⟨kk,v,r,e,z,q,t⟩,h'=>by
  subst e;subst z
  cases fs with
  |nil=>cases h'
  |cons f fs=>
   obtain⟨k',p'⟩:=f
   obtain⟨kk',v',r',e',z',q',t'⟩:=h'
   cases e';subst z'
   rw [U6.inj I p p' q q',a4r.inj I es fs t t']
end
end
mutual
def C2:PV->Nat->Bool
 | .list xs,n+1=>N6 xs n
 | .tuple xs,n+1=>N6 xs n
 | .list _,0=>false
 | .tuple _,0=>false
 | .dict _,_=>false
 | .none,_=>true
 | .bool _,_=>true
 | .int _,_=>true
 | .str _,_=>true
def N6:List PV->Nat->Bool
 |[],_=>true
 |x::xs,n=>C2 x n && N6 xs n
end
mutual
theorem b2J:∀(p:PV) (n:Nat),C2 p n=true->PyData.eqv p p=true
 | .none,_,_=>by simp [PyData.eqv]
 | .bool _,_,_=>by simp [PyData.eqv]
 | .int _,_,_=>by simp [PyData.eqv]
 | .str _,_,_=>by simp [PyData.eqv]
 | .list xs,n+1,h=>by simp only [PyData.eqv];exact a3g xs n (by simpa [C2] using h)
 | .tuple xs,n+1,h=>by simp only [PyData.eqv];exact a3g xs n (by simpa [C2] using h)
 | .list xs,0,h=>by simp [C2] at h
 | .tuple xs,0,h=>by simp [C2] at h
 | .dict _,_,h=>by simp [C2] at h
theorem a3g:∀(ps:List PV) (n:Nat),N6 ps n=true->PyData.eqvAll ps ps=true
 |[],_,_=>by simp [PyData.eqvAll]
 |x::xs,n,h=>by
  have h':C2 x n=true/\N6 xs n=true:=by simpa [N6] using h
  simp only [PyData.eqvAll,b2J x n h'.1,a3g xs n h'.2,Bool.and_self]
end
def eAt(ps qs:List PV)(j:Nat):Bool:=match ps[j]?,qs[j]? with
 |some p,some q=>PyData.eqv p q
 |_,_=>false
theorem a1H:∀(ps qs:List PV),PyData.eqvAll ps qs=((Ac (min ps.length qs.length)).all (eAt ps qs)&& ps.length==qs.length)
 |[],[]=>by simp [PyData.eqvAll]
 |[],_::_=>by simp [PyData.eqvAll]
 |_::_,[]=>by simp [PyData.eqvAll]
 |p::ps,q::qs=>by
  have e:min (p::ps).length (q::qs).length=min ps.length qs.length+1:=by simp only [AV];lia
  rw [e,List.range_succ_eq_map,List.all_cons,List.all_map]
  have h0:eAt (p::ps) (q::qs) 0=PyData.eqv p q:=rfl
  have h1:(eAt (p::ps) (q::qs)∘Nat.succ)=eAt ps qs:=by funext j;simp [eAt,Function.comp]
  rw [h0,h1]
  simp only [PyData.eqvAll,a1H ps qs,AV,Bool.and_assoc]
  have e2:(ps.length+1==qs.length+1)=(ps.length==qs.length):=by
   rw [Bool.eq_iff_iff];simp
  rw [e2]
section
variable {X:Cx}{pins:List (AB×Obj)}{σ:L2.St}{H:Hp}{s:AC}
structure b6p(A:AL)(s:AC)(u w:AA)(b:Bool):Prop where
 rc:SeqAt.RcAt A s u w b
 ne:SeqAt.RcNeAt A s u w (!b)
 eq:SeqAt.EqAt A s u w b
theorem b5Y(A:AL):A.in1.units=A.units+1:=rfl
theorem b5v{xs:List V}{its:List AA}{j:Nat}(r:t7 xs its)(h:j<its.length):∃x,xs[j]?=some x/\A4 x its[j]:=by
 have hx:j<xs.length:=by rw [r.length];exact h
 obtain⟨u,h1,h2⟩:=r.get (i:=j) (x:=xs[j]) (by simp [hx])
 rw [Ax h] at h1
 cases h1
 exact⟨xs[j],by simp [hx],h2⟩
theorem b3F{A:AL}{ps qs:List PV}{xs ys:List V}{its its2:List AA}(r:p4 X.K H ps xs)(r':p4 X.K H qs ys)(rv:t7 xs its)(rv':t7 ys its2)
 (ih:∀p q x y u w,p∈ps->q∈qs->U6 X.K H p x->U6 X.K H q y->A4 x u->A4 y w->b6p A s u w (PyData.eqv p q)):
 ∀j (h1:j<its.toArray.size) (h2:j<its2.toArray.size),SeqAt.EqAt A s its.toArray[j] its2.toArray[j] (eAt ps qs j):=by
 intro j h1 h2
 have h1':j<its.length:=by simpa using h1
 have h2':j<its2.length:=by simpa using h2
 obtain⟨x,ex,rx⟩:=b5v rv h1'
 obtain⟨y,ey,ry⟩:=b5v rv' h2'
 obtain⟨p,ep,hp⟩:=r.getV ex
 obtain⟨q,eq,hq⟩:=r'.getV ey
 have:eAt ps qs j=PyData.eqv p q:=by simp [eAt,ep,eq]
 rw [this]
 have z:=(ih p q x y _ _ (BD ep) (BD eq) hp hq rx ry).eq
 simpa using z
theorem a3e:∀{ps:List PV} {n:Nat} {p:PV},N6 ps n=true->p∈ps->C2 p n=true
 |[],_,_,_,h=>by cases h
 |x::xs,n,p,h,hp=>by
  have h':C2 x n=true/\N6 xs n=true:=by simpa [N6] using h
  rcases Am.mp hp with rfl|hp
  ·exact h'.1
  ·exact a3e h'.2 hp
theorem b6R(I:l8 X pins σ H s):∀(n:Nat) (A:AL) (p q:PV) (x y:V) (u w:AA),A.units+n<cLine->C2 p n=true->C2 q n=true->U6 X.K H p x->U6 X.K H q y->A4 x u->A4 y w->b6p A s u w (PyData.eqv p q):=by
 intro n
 induction n with
 |zero=>
  intro A p q x y u w hu hp hq rp rq rx ry
  cases p with
  |none=>
   cases rp;cases rx
   cases q with
   |none=>cases rq;cases ry;simp only [PyData.eqv];exact⟨.none_none,.none_none,.same _⟩
   |bool j=>cases rq;cases ry;simp only [PyData.eqv];exact⟨.none_bool _,.none_bool _,.none_bool _⟩
   |int j=>cases rq;obtain⟨ty,rfl⟩:=ry;simp only [PyData.eqv];exact⟨.none_int _ _,.none_int _ _,.none_int _ _⟩
   |str j=>cases rq;obtain⟨ty,rfl⟩:=ry;simp only [PyData.eqv];exact⟨.none_str _ _,.none_str _ _,.none_str _ _⟩
   |dict _=>simp [C2] at hq
   |list _=>simp [C2] at hq
   |tuple _=>simp [C2] at hq
  |bool i=>
   cases rp;cases rx
   cases q with
   |none=>cases rq;cases ry;simp only [PyData.eqv];exact⟨.bool_none _,.bool_none _,.bool_none _⟩
   |bool j=>cases rq;cases ry;simp only [PyData.eqv];exact⟨.bool_bool _ _,.bool_bool _ _,.bool_bool _ _⟩
   |int j=>cases rq;obtain⟨ty,rfl⟩:=ry;simp only [PyData.eqv];exact⟨.bool_int _ _ _,.bool_int _ _ _,.bool_int _ _ _⟩
   |str j=>cases rq;obtain⟨ty,rfl⟩:=ry;simp only [PyData.eqv];exact⟨.bool_str _ _ _,.bool_str _ _ _,.bool_str _ _ _⟩
   |dict _=>simp [C2] at hq
   |list _=>simp [C2] at hq
   |tuple _=>simp [C2] at hq
  |int i=>
   cases rp;obtain⟨tx,rfl⟩:=rx
   cases q with
   |none=>cases rq;cases ry;simp only [PyData.eqv];exact⟨.int_none _ _,.int_none _ _,.int_none _ _⟩
   |bool j=>cases rq;cases ry;simp only [PyData.eqv];exact⟨.int_bool _ _ _,.int_bool _ _ _,.int_bool _ _ _⟩
   |int j=>cases rq;obtain⟨ty,rfl⟩:=ry;simp only [PyData.eqv];exact⟨.int_int _ _ _ _,.int_int _ _ _ _,.int_int _ _ _ _⟩
   |str j=>cases rq;obtain⟨ty,rfl⟩:=ry;simp only [PyData.eqv];exact⟨.int_str _ _ _ _,.int_str _ _ _ _,.int_str _ _ _ _⟩
   |dict _=>simp [C2] at hq
   |list _=>simp [C2] at hq
   |tuple _=>simp [C2] at hq
  |str i=>
   cases rp;obtain⟨tx,rfl⟩:=rx
   cases q with
   |none=>cases rq;cases ry;simp only [PyData.eqv];exact⟨.str_none _ _,.str_none _ _,.str_none _ _⟩
   |bool j=>cases rq;cases ry;simp only [PyData.eqv];exact⟨.str_bool _ _ _,.str_bool _ _ _,.str_bool _ _ _⟩
   |int j=>cases rq;obtain⟨ty,rfl⟩:=ry;simp only [PyData.eqv];exact⟨.str_int _ _ _ _,.str_int _ _ _ _,.str_int _ _ _ _⟩
   |str j=>cases rq;obtain⟨ty,rfl⟩:=ry;simp only [PyData.eqv];exact⟨.str_str _ _ _ _,.str_str _ _ _ _,.str_str _ _ _ _⟩
   |dict _=>simp [C2] at hq
   |list _=>simp [C2] at hq
   |tuple _=>simp [C2] at hq
  |dict _=>simp [C2] at hp
  |list _=>simp [C2] at hp
  |tuple _=>simp [C2] at hp
 |succ n ih=>
  intro A p q x y u w hu hp hq rp rq rx ry
  have hu0:A.units<cLine:=by lia
  have hu1:A.in1.units+n<cLine:=by rw [b5Y];lia
  cases p with
  |dict _=>simp [C2] at hp
  |list ps=>
   obtain⟨a,xs,rfl,hs,r⟩:=rp
   cases rx
   obtain⟨its,rv,pl,hz⟩:=I.list hs
   have okp:N6 ps n=true:=by simpa [C2] using hp
   cases q with
   |dict _=>simp [C2] at hq
   |list qs=>
    obtain⟨b,ys,rfl,hs',r'⟩:=rq
    cases ry
    obtain⟨its2,rv',pl',hz'⟩:=I.list hs'
    have okq:N6 qs n=true:=by simpa [C2] using hq
    have hle:its.toArray.size=ps.length:=by rw [<-r.length,rv.length];simp
    have hle':its2.toArray.size=qs.length:=by rw [<-r'.length,rv'.length];simp
    have he:=b3F (A:=A.in1) (s:=s) r r' rv rv' fun p q x y u w hp' hq' rp' rq' rx' ry'=>ih A.in1 p q x y u w hu1 (a3e okp hp') (a3e okq hq') rp' rq' rx' ry'
    simp only [PyData.eqv]
    have main:SeqAt.RcAt A s (.ref a) (.ref b) (PyData.eqvAll ps qs)/\SeqAt.RcNeAt A s (.ref a) (.ref b) (!PyData.eqvAll ps qs):=by
     by_cases e:its.toArray.size=its2.toArray.size
     ·have el:ps.length=qs.length:=by rw [<-hle,<-hle',e]
      have e3:PyData.eqvAll ps qs=(Ac its.toArray.size).all (eAt ps qs):=by
       rw [a1H,el,Nat.min_self,hle,el];simp
      rw [e3]
      exact⟨.lists pl.isList pl'.isList e hu0 he,.lists pl.isList pl'.isList e hu0 he⟩
     ·have e3:PyData.eqvAll ps qs=false:=by
       rw [a1H]
       have:(ps.length==qs.length)=false:=by
        rw [beq_eq_false_iff_ne];intro z;exact e (by rw [hle,hle',z])
       rw [this,Bool.and_false]
      have e4:(its.toArray.size !=its2.toArray.size)=true:=by simpa using e
      rw [e3]
      exact⟨.lists_lengths pl.isList pl'.isList e4 hu0,.lists_lengths pl.isList pl'.isList e4 hu0⟩
    refine⟨main.1,main.2, ?_⟩
    by_cases hab:a=b
    ·subst hab
     cases I.list_inj hs hs'
     cases p4.inj I ps qs r r'
     rw [a3g ps n okp]
     exact .same _
    ·exact .of_refs hab main.1
   |tuple qs=>
    obtain⟨b,ys,rfl,hs',r'⟩:=rq
    cases ry
    obtain⟨its2,rv',pl',hz'⟩:=I.tuple hs'.sq
    simp only [PyData.eqv]
    exact⟨.list_tuple pl.isList pl' hu0,.list_tuple pl.isList pl' hu0,.list_tuple pl.isList pl' hu0⟩
   |none=>cases rq;cases ry;simp only [PyData.eqv];exact⟨.list_none pl.isList hu0,.list_none pl.isList hu0,.list_none pl.isList hu0⟩
   |bool k=>cases rq;cases ry;simp only [PyData.eqv];exact⟨.list_bool _ pl.isList hu0,.list_bool _ pl.isList hu0,.list_bool _ pl.isList hu0⟩
   |int k=>cases rq;obtain⟨t,rfl⟩:=ry;simp only [PyData.eqv];exact⟨.list_int _ _ pl.isList hu0,.list_int _ _ pl.isList hu0,.list_int _ _ pl.isList hu0⟩
   |str k=>cases rq;obtain⟨t,rfl⟩:=ry;simp only [PyData.eqv];exact⟨.list_str _ _ pl.isList hu0,.list_str _ _ pl.isList hu0,.list_str _ _ pl.isList hu0⟩
  |tuple ps=>
   obtain⟨a,xs,rfl,hs,r⟩:=rp
   cases rx
   obtain⟨its,rv,pl,hz⟩:=I.tuple hs.sq
   have okp:N6 ps n=true:=by simpa [C2] using hp
   cases q with
   |dict _=>simp [C2] at hq
   |tuple qs=>
    obtain⟨b,ys,rfl,hs',r'⟩:=rq
    cases ry
    obtain⟨its2,rv',pl',hz'⟩:=I.tuple hs'.sq
    have okq:N6 qs n=true:=by simpa [C2] using hq
    have hle:its.toArray.size=ps.length:=by rw [<-r.length,rv.length];simp
    have hle':its2.toArray.size=qs.length:=by rw [<-r'.length,rv'.length];simp
    have he:=b3F (A:=A.in1) (s:=s) r r' rv rv' fun p q x y u w hp' hq' rp' rq' rx' ry'=>ih A.in1 p q x y u w hu1 (a3e okp hp') (a3e okq hq') rp' rq' rx' ry'
    simp only [PyData.eqv]
    have e3:PyData.eqvAll ps qs=((Ac (min its.toArray.size its2.toArray.size)).all (eAt ps qs)&& its.toArray.size==its2.toArray.size):=by
     rw [a1H,hle,hle']
    have main:SeqAt.RcAt A s (.ref a) (.ref b) (PyData.eqvAll ps qs)/\SeqAt.RcNeAt A s (.ref a) (.ref b) (!PyData.eqvAll ps qs):=by
     rw [e3]
     exact⟨.tuples pl pl' hu0 he,.tuples pl pl' hu0 he⟩
    refine⟨main.1,main.2, ?_⟩
    by_cases hab:a=b
    ·subst hab
     cases I.tuple_inj hs.sq hs'.sq
     cases p4.inj I ps qs r r'
     rw [a3g ps n okp]
     exact .same _
    ·exact .of_refs hab main.1
   |list qs=>
    obtain⟨b,ys,rfl,hs',r'⟩:=rq
    cases ry
    obtain⟨its2,rv',pl',hz'⟩:=I.list hs'
    simp only [PyData.eqv]
    exact⟨.tuple_list pl pl'.isList hu0,.tuple_list pl pl'.isList hu0,.tuple_list pl pl'.isList hu0⟩
   |none=>cases rq;cases ry;simp only [PyData.eqv];exact⟨.tuple_none pl hu0,.tuple_none pl hu0,.tuple_none pl hu0⟩
   |bool k=>cases rq;cases ry;simp only [PyData.eqv];exact⟨.tuple_bool _ pl hu0,.tuple_bool _ pl hu0,.tuple_bool _ pl hu0⟩
   |int k=>cases rq;obtain⟨t,rfl⟩:=ry;simp only [PyData.eqv];exact⟨.tuple_int _ _ pl hu0,.tuple_int _ _ pl hu0,.tuple_int _ _ pl hu0⟩
   |str k=>cases rq;obtain⟨t,rfl⟩:=ry;simp only [PyData.eqv];exact⟨.tuple_str _ _ pl hu0,.tuple_str _ _ pl hu0,.tuple_str _ _ pl hu0⟩
  |none=>
   cases q with
   |list qs=>
    obtain⟨b,ys,rfl,hs',r'⟩:=rq;cases ry;obtain⟨its2,rv',pl',hz'⟩:=I.list hs';cases rp;cases rx;simp only [PyData.eqv]
    exact⟨.none_list pl'.isList hu0,.none_list pl'.isList hu0,.none_list pl'.isList hu0⟩
   |tuple qs=>
    obtain⟨b,ys,rfl,hs',r'⟩:=rq;cases ry;obtain⟨its2,rv',pl',hz'⟩:=I.tuple hs'.sq;cases rp;cases rx;simp only [PyData.eqv]
    exact⟨.none_tuple pl' hu0,.none_tuple pl' hu0,.none_tuple pl' hu0⟩
   |dict _=>simp [C2] at hq
   |_=>exact ih A _ _ x y u w (by lia) (by simp [C2]) (by simp [C2]) rp rq rx ry
  |bool k=>
   cases q with
   |list qs=>
    obtain⟨b,ys,rfl,hs',r'⟩:=rq;cases ry;obtain⟨its2,rv',pl',hz'⟩:=I.list hs';cases rp;cases rx;simp only [PyData.eqv]
    exact⟨.bool_list _ pl'.isList hu0,.bool_list _ pl'.isList hu0,.bool_list _ pl'.isList hu0⟩
   |tuple qs=>
    obtain⟨b,ys,rfl,hs',r'⟩:=rq;cases ry;obtain⟨its2,rv',pl',hz'⟩:=I.tuple hs'.sq;cases rp;cases rx;simp only [PyData.eqv]
    exact⟨.bool_tuple _ pl' hu0,.bool_tuple _ pl' hu0,.bool_tuple _ pl' hu0⟩
   |dict _=>simp [C2] at hq
   |_=>exact ih A _ _ x y u w (by lia) (by simp [C2]) (by simp [C2]) rp rq rx ry
  |int k=>
   cases q with
   |list qs=>
    obtain⟨b,ys,rfl,hs',r'⟩:=rq;cases ry;obtain⟨its2,rv',pl',hz'⟩:=I.list hs';cases rp;obtain⟨t,rfl⟩:=rx;simp only [PyData.eqv]
    exact⟨.int_list _ _ pl'.isList hu0,.int_list _ _ pl'.isList hu0,.int_list _ _ pl'.isList hu0⟩
   |tuple qs=>
    obtain⟨b,ys,rfl,hs',r'⟩:=rq;cases ry;obtain⟨its2,rv',pl',hz'⟩:=I.tuple hs'.sq;cases rp;obtain⟨t,rfl⟩:=rx;simp only [PyData.eqv]
    exact⟨.int_tuple _ _ pl' hu0,.int_tuple _ _ pl' hu0,.int_tuple _ _ pl' hu0⟩
   |dict _=>simp [C2] at hq
   |_=>exact ih A _ _ x y u w (by lia) (by simp [C2]) (by simp [C2]) rp rq rx ry
  |str k=>
   cases q with
   |list qs=>
    obtain⟨b,ys,rfl,hs',r'⟩:=rq;cases ry;obtain⟨its2,rv',pl',hz'⟩:=I.list hs';cases rp;obtain⟨t,rfl⟩:=rx;simp only [PyData.eqv]
    exact⟨.str_list _ _ pl'.isList hu0,.str_list _ _ pl'.isList hu0,.str_list _ _ pl'.isList hu0⟩
   |tuple qs=>
    obtain⟨b,ys,rfl,hs',r'⟩:=rq;cases ry;obtain⟨its2,rv',pl',hz'⟩:=I.tuple hs'.sq;cases rp;obtain⟨t,rfl⟩:=rx;simp only [PyData.eqv]
    exact⟨.str_tuple _ _ pl' hu0,.str_tuple _ _ pl' hu0,.str_tuple _ _ pl' hu0⟩
   |dict _=>simp [C2] at hq
   |_=>exact ih A _ _ x y u w (by lia) (by simp [C2]) (by simp [C2]) rp rq rx ry
end
end PU
set_option maxHeartbeats 1000000
namespace PU
open PySem PySem.Spec PyProof.Rows L2
instance:DecidableRel (fun(i j:Int)=>b1h i j):=fun i j=>by unfold b1h;infer_instance
instance (i j:Int):Decidable (b1h i j):=by unfold b1h;infer_instance
instance (i j:Int):Decidable (a1A i j):=by unfold a1A;infer_instance
instance (i j:Int):Decidable (c1E i j):=by unfold c1E;infer_instance
def f6.mine:f6->Option (List PV)
 | .ow (.lst ps)=>some ps
 | .bo (.lst ps)=>some ps
 |_=>none
theorem b22{K:AE}{F H:Hp}{v:V}{r:f6}{ps:List PV}(h:Z1 K F H v r)(e:r.mine=some ps):∃a xs,v= .ref a/\F a=none/\H a=some (.lst xs)/\p4 K F ps xs:=by
 cases r with
 |val _=>cases e
 |ow c=>cases c<;>cases e;exact h
 |bo c=>cases c<;>cases e;exact h
def u7(x y:f6):Option f6:=match x,y with
 | .val (.int i),.val (.int j)=>some (.val (.int (i+j)))
 | .val (.str i),.val (.str j)=>if i.length+j.length<=AU then some (.val (.str (i++j))) else none
 | .val (.tuple ps),.val (.tuple qs)=>if(ps.length≠0/\qs.length≠0)/\ps.length+qs.length<=AU then some (.val (.tuple (ps++qs))) else none
 |x,y=>match x.mine,y.mine with
  |some ps,some qs=>if ps.length+qs.length<=AU then some (.own (ps++qs)) else none
  |_,_=>none
section
variable {X:Cx}
theorem i9:OpM X (binaryOp .Add) u7:=by
 intro pins s σ H x y v u Q I rx ry h
 obtain⟨F,ra,rb,rz,s0,h1,h2,h3,k⟩:=h
 unfold u7 at h3
 split at h3
 ·cases h3
  cases h1;cases h2
  exact c0Z pins s σ H _ _ v u Q I rx ry ⟨_,_,rfl,rfl,k _ F H (C3.here s0 rfl)⟩
 ·rename_i i j
  split at h3
  ·rename_i c
   cases h3
   cases h1;cases h2
   exact b4o pins s σ H _ _ v u Q I rx ry ⟨i,j,rfl,rfl,c,k _ F H (C3.here s0 rfl)⟩
  ·cases h3
 ·rename_i ps qs
  split at h3
  ·rename_i c
   cases h3
   obtain⟨a,xs,rfl,hq,r⟩:=h1
   obtain⟨b,ys,rfl,hq',r'⟩:=h2
   refine b9f pins s σ H _ _ v u Q I rx ry ⟨a,b,xs,ys,rfl,rfl,C4 s0 hq.sq,C4 s0 hq'.sq, ?_,by rw [r.length,r'.length];exact c.2, ?_⟩
   ·intro z
    subst z
    exact c.1.1 r.length.symm
   ·refine⟨fun z=> ?_,fun _ p hp=>k _ _ _ (C3.tup s0 hp (r.append r'))⟩
    subst z
    exact absurd r'.length.symm c.1.2
  ·cases h3
 ·split at h3
  ·rename_i ps qs e1 e2
   split at h3
   ·rename_i c
    cases h3
    obtain⟨a,xs,rfl,_,hq,r⟩:=b22 h1 e1
    obtain⟨b,ys,rfl,_,hq',r'⟩:=b22 h2 e2
    refine c00 pins s σ H _ _ v u Q I rx ry ⟨a,b,xs,ys,rfl,rfl,hq,hq',by rw [r.length,r'.length];exact c,fun p hp=> ?_⟩
    exact k _ _ _ (C3.lst s0 hp (r.append r'))
   ·cases h3
  ·cases h3
theorem a00:OpM X (binaryOp .Sub) (gI fun i j=> .int (i - j)):=b5h c05 fun _ _ _=>rfl
theorem b9j:OpM X (binaryOp .Mult) (gIc b1h fun i j=> .int (i*j)):=b4p c03 fun _ _ _=>rfl
theorem x8:OpM X (binaryOp .Mod) (gIc (fun _ j=>0<j) fun i j=> .int (i % j)):=b4p c02 fun _ _ _=>rfl
theorem D6:OpM X (binaryOp .FloorDiv) (gIc a1A fun i j=> .int (i / j)):=b4p b9g fun _ _ _=>rfl
theorem a2Z:OpM X (compareOp .Gt) (gI fun i j=> .bool (decide (j<i))):=b5h c19 fun _ _ _=>rfl
theorem c06:OpM X (compareOp .GtE) (gI fun i j=> .bool (decide (j<=i))):=b5h c18 fun _ _ _=>rfl
def gEq(x y:f6):Option f6:=if C2 x.rd 50=true/\C2 y.rd 50=true then some (.val (.bool (PyData.eqv x.rd y.rd))) else none
def gNe(x y:f6):Option f6:=if C2 x.rd 50=true/\C2 y.rd 50=true then some (.val (.bool (!PyData.eqv x.rd y.rd))) else none
theorem w8(hu:X.A.units+64<cLine):OpM X (compareOp .Eq) gEq:=by
 intro pins s σ H x y v u Q I rx ry h
 obtain⟨F,ra,rb,rz,s0,h1,h2,h3,k⟩:=h
 unfold gEq at h3
 split at h3
 ·rename_i c
  cases h3
  have z:=b6R I 50 X.A _ _ x y v u (by lia) c.1 c.2 (h1.rd s0) (h2.rd s0) rx ry
  exact z.rc _ _ _ _ ⟨.bl _,H,I,rfl,k _ F H (C3.here s0 rfl)⟩
 ·cases h3
theorem X2(hu:X.A.units+64<cLine):OpM X (compareOp .NotEq) gNe:=by
 intro pins s σ H x y v u Q I rx ry h
 obtain⟨F,ra,rb,rz,s0,h1,h2,h3,k⟩:=h
 unfold gNe at h3
 split at h3
 ·rename_i c
  cases h3
  have z:=b6R I 50 X.A _ _ x y v u (by lia) c.1 c.2 (h1.rd s0) (h2.rd s0) rx ry
  exact z.ne _ _ _ _ ⟨.bl _,H,I,rfl,k _ F H (C3.here s0 rfl)⟩
 ·cases h3
def PyData.items?:PV->Option (List PV)
 | .list ps=>some ps
 | .tuple ps=>some ps
 |_=>none
theorem a1U{F H:Hp}{v:V}{r:f6}{ps:List PV}(s0:p5 F H)(h:Z1 X.K F H v r)(e:PyData.items? r.rd=some ps):∃a xs,v= .ref a/\(SqL X.K H a xs\/SqT X.K H a xs)/\p4 X.K F ps xs:=by
 cases r with
 |val p=>
  cases p with
  |list qs=>cases e;obtain⟨a,xs,rfl,hq,r⟩:=h;exact⟨a,xs,rfl,.inl (a0o s0 hq),r⟩
  |tuple qs=>cases e;obtain⟨a,xs,rfl,hq,r⟩:=h;exact⟨a,xs,rfl,.inr (C4 s0 hq.sq),r⟩
  |_=>cases e
 |ow c=>cases c<;>cases e;obtain⟨a,xs,rfl,_,hq,r⟩:=h;exact⟨a,xs,rfl,.inl (SqL.of hq),r⟩
 |bo c=>cases c<;>cases e;obtain⟨a,xs,rfl,_,hq,r⟩:=h;exact⟨a,xs,rfl,.inl (SqL.of hq),r⟩
def c0E(neg:Bool)(x y:f6):Option f6:=match y with
 | .val .none=>(match x.rd with
   | .none=>some (.val (.bool (!neg)))
   |_=>some (.val (.bool neg)))
 |_=>none
def PyData.isNone:PV->Bool
 | .none=>true
 |_=>false
theorem b9w{K:AE}{H:Hp}{p:PV}{v:V}(h:U6 K H p v):decide (v=V.non)=PyData.isNone p:=by
 cases p with
 |none=>cases h;rfl
 |bool _=>cases h;rfl
 |int _=>cases h;rfl
 |str _=>cases h;rfl
 |list _=>obtain⟨_,_,rfl,_⟩:=h;rfl
 |tuple _=>obtain⟨_,_,rfl,_⟩:=h;rfl
 |dict _=>
  rcases h with⟨_,_,rfl,_⟩|⟨_,_,rfl,_⟩|⟨_,_,_,h⟩|⟨_,_,_,h,_⟩
  ·rfl
  ·rfl
  ·obtain⟨_,rfl⟩:=h.ref;rfl
  ·obtain⟨_,rfl⟩:=h.ref;rfl
theorem b9i:OpM X (compareOp .Is) (c0E false):=
 a7P c01 fun F H x y rx ry rz s0 h1 h2 h3 Q k=>by
  unfold c0E at h3
  split at h3
  ·cases h2
   have e:=b9w (h1.rd s0)
   refine⟨rfl, ?_⟩
   rw [e]
   cases hp:rx.rd<;>rw [hp] at h3<;>cases h3<;>exact k _ F H (C3.here s0 rfl)
  ·cases h3
def b7q(m:M):M:=fun ρ=>(m ρ).bind fun r=>match r with
 | .val (.int i)=>some (.val (.int (-i)))
 |_=>none
theorem b3U{a:AF}{ma:M}{pos:Pos}(ha:EE X a ma):EE X (.UnaryOp .USub a pos) (b7q ma):=
 J4 (c2f c1A ha) fun σ H Q ⟨F,ρ,r,he,hm,k⟩=>by
  obtain⟨rx,e1,hm⟩:=bind_some hm
  refine⟨F,ρ,rx,he,e1,fun v F1 H1 o1=> ?_⟩
  split at hm
  ·cases hm
   exact⟨_,o1.rep,k _ F1 H1 (C3.trans o1.x (C3.here o1.x.fh rfl))⟩
  ·cases hm
def m9(x y:f6):Option f6:=match y with
 | .val (.int i)=>(match x.rd with
   | .str z=>if z.length<=AU then(atI z.cps.toList i).map fun c=> .val (.str ⟨#[c]⟩) else none
   |p=>match PyData.items? p with
    |some ps=>(atI ps i).map .val
    |none=>none)
 |_=>none
theorem p4.atI{K:AE}{H:Hp}{ps:List PV}{xs:List V}{i:Int}{p:PV}(r:p4 K H ps xs)(e:L2.atI ps i=some p):∃v,L2.atI xs i=some v/\U6 K H p v:=by
 unfold L2.atI at e ⊢
 rw [r.length]
 obtain⟨j,e1,e2⟩:=bind_some e
 rw [e1]
 exact r.get e2
theorem ixm:IxR X (rM2 X.K m9):=by
 intro value slice pins s σ H x y v u Q I rx ry h hs
 obtain⟨F,ra,rb,rz,s0,h1,h2,h3,k⟩:=h
 unfold m9 at h3
 split at h3
 ·rename_i i
  cases h2
  split at h3
  ·rename_i z ez
   split at h3
   ·rename_i c
    have rr:=h1.rd s0
    rw [ez] at rr
    cases rr
    cases ea:L2.atI z.cps.toList i with
    |none=>rw [ea] at h3;cases h3
    |some ch=>
     rw [ea] at h3;cases h3
     exact c0K value slice pins s σ H _ _ v u Q I rx ry ⟨z,i,ch,rfl,rfl,c,ea,k _ F H (C3.here s0 rfl)⟩ hs
   ·cases h3
  ·split at h3
   ·rename_i ps e
    cases ea:L2.atI ps i with
    |none=>rw [ea] at h3;cases h3
    |some p=>
     rw [ea] at h3;cases h3
     obtain⟨a,xs,rfl,hq,r⟩:=a1U s0 h1 e
     obtain⟨z,ez,rp⟩:=r.atI ea
     rcases hq with hq|hq
     ·exact b81 value slice pins s σ H _ _ v u Q I rx ry ⟨a,xs,i,z,rfl,rfl,hq,ez,k _ F H (C3.here s0 rp)⟩ hs
     ·exact c0L value slice pins s σ H _ _ v u Q I rx ry ⟨a,xs,i,z,rfl,rfl,hq,ez,k _ F H (C3.here s0 rp)⟩ hs
   ·cases h3
 ·cases h3
theorem i6{a b:AF}{ma mb:M}{pos:Pos}(ha:EE X a ma)(hb:EE X b mb)(hs:b4E b:=by intro _ _;rfl):EE X (.Subscript a b pos) (m2 m9 ma mb):=
 J4 (c2d ixm ha hb hs) fun _ _ _ h=>b2l h
abbrev MA:=g0->Option (List PV)
def tMA(K:AE)(m:MA):TA:=fun σ H Q=>∃F ρ ps,S0 K F H σ ρ/\m ρ=some ps/\∀vs F' H',Ext F H F' H'->p4 K F' ps vs->Q vs H'
abbrev EA(X:Cx)(es:List AF)(m:MA):Prop:=PA X es (tMA X.K m)
def f8:MA:=fun _=>some []
def b0(m:M)(r:MA):MA:=fun ρ=>((m ρ).bind f6.toVal).bind fun p=>(r ρ).bind fun ps=>some (p::ps)
theorem d9:EA X [] f8:=b7E a0K fun σ H Q ⟨F,ρ,ps,he,hm,k⟩=>by
 cases hm
 exact k [] F H (Ext.refl he.fh) rfl
theorem a9{e:AF}{es:List AF}{m:M}{r:MA}(ha:EE X e m)(hr:EA X es r)(hs:AM (e::es) X.env=(false,eval e X.env)::AM es X.env:=by rfl):EA X (e::es) (b0 m r):=
 b7E (J7 ha hr hs) fun σ H Q ⟨F,ρ,ps,he,hm,k⟩=>by
  obtain⟨p,e1,hm⟩:=bind_some hm
  obtain⟨r1,e1,e2⟩:=bind_some e1
  obtain⟨qs,e3,hm⟩:=bind_some hm
  cases hm
  refine⟨F,ρ,r1,he,e1,fun v F1 H1 o1=> ?_⟩
  obtain⟨F2,o2⟩:=o1.toVal e2
  exact⟨F2,ρ,qs,he.ext o2.x,e3,fun vs F3 H3 x3 rl=>k _ F3 H3 (o2.x.trans x3) ⟨v,vs,rfl,U6.mono x3.f _ o2.rep,rl⟩⟩
def U2(m:MA):M:=fun ρ=>(m ρ).bind fun ps=>if ps.length<=AU then some (.val (.tuple ps)) else none
def a1s(m:MA):M:=fun ρ=>(m ρ).bind fun ps=>if ps.length<=AU then some (.own ps) else none
theorem C9{es:List AF}{m:MA}{x1:Nat}{pos:Pos}(h:EA X es m):EE X (.Tuple es x1 pos) (U2 m):=
 J4 (c1g h) fun σ H Q ⟨F,ρ,r,he,hm,k⟩=>by
  obtain⟨ps,e1,hm⟩:=bind_some hm
  split at hm
  ·rename_i c
   cases hm
   exact⟨F,ρ,ps,he,e1,fun vs F1 H1 x rl=>⟨by rw [rl.length];exact c,fun p hp=>k _ _ _ (C3.trans x (C3.tup x.fh hp rl))⟩⟩
  ·cases hm
theorem G7{es:List AF}{m:MA}{pos:Pos}(h:EA X es m):EE X (.List es pos) (a1s m):=
 J4 (c1b h) fun σ H Q ⟨F,ρ,r,he,hm,k⟩=>by
  obtain⟨ps,e1,hm⟩:=bind_some hm
  split at hm
  ·rename_i c
   cases hm
   exact⟨F,ρ,ps,he,e1,fun vs F1 H1 x rl=>⟨by rw [rl.length];exact c,fun p hp=>k _ _ _ (C3.trans x (C3.lst x.fh hp rl))⟩⟩
  ·cases hm
def spP(K:AE)(n:Nat)(g:List PV->Option f6):Sp:=fun vs H Q _=>∃F ps r,p5 F H/\p4 K F ps vs/\ps.length=n/\g ps=some r/\∀v F' H',C3 K F H F' H' v r->Q v H'
def k4(g:List PV->Option f6)(m:MA):M:=fun ρ=>(m ρ).bind g
theorem b8L{k n:Nat}{f:AB}{fd:FuncData}{ps:List Str}{g:List PV->Option f6}{x:Str}{p pos:Pos}{e:AF}{es:List AF}{m:MA}
 (G:a05 X.prog X.w X.K X.mg X.base CX0 k f fd ps (spP X.K n g)) (hr:R9 k X.A) (hg:Gl X x) (hm:X.mg x=some (.ref f)) (hk:PySem.W.keepIn X.K (.ref f)=true) (hb:a39 X.K fd ps []) (hn:∀ρ ps,m ρ=some ps->ps.length=n) (ha:EA X (e::es) m)
 (hdb:(x==("__debug__":Str))=false:=by decide) (he:AM (e::es) X.env=(false,eval e X.env)::AM es X.env:=by rfl) (hpl:(backTo pos (AM es X.env)).any (·.1)=false:=by rfl):
 EE X (.Call (.Name x p) (e::es) [] pos) (k4 g m):=
 J4 (b5i G hr hg hm hk hb .nil b95 ha hdb he hpl) fun σ H Q ⟨F,ρ,r,he,hm,k⟩=>by
  obtain⟨qs,e1,hm⟩:=bind_some hm
  refine⟨F,ρ,qs,he,e1,fun vs F1 H1 x rl=> ?_⟩
  show spP X.K n g (vs++[]) H1 Q E0
  rw [Ad]
  exact⟨F1,qs,r,x.fh,rl,hn _ _ e1,hm,fun v F2 H2 o=>k v F2 H2 (C3.trans x o)⟩
theorem g9:∀ρ ps,f8 ρ=some ps->ps.length=0:=fun _ _ h=>by cases h;rfl
theorem b9{m:M}{r:MA}{n:Nat}(h:∀ρ ps,r ρ=some ps->ps.length=n):∀ρ ps,b0 m r ρ=some ps->ps.length=n+1:=fun ρ ps e=>by
 obtain⟨p,e1,e⟩:=bind_some e
 obtain⟨qs,e3,e⟩:=bind_some e
 cases e
 rw [AV,h ρ qs e3]
end
mutual
def a2K(K:AE):Nat->AA->Option PV
 |0,_=>none
 |_+1,.none=>some .none
 |_+1,.bool b=>some (.bool b)
 |_+1,.int i _=>some (.int i)
 |_+1,.str x _=>some (.str x)
 |n+1,.ref a=>match K.lookup a with
  |some ⟨.type "tuple",_,.seq its _,_⟩=>if its.size<=1000 then(a6w K n its.toList).map .tuple else none
  |some ⟨.type "list",none,.seq its _,_⟩=>if its.size<=1000 then(a6w K n its.toList).map .list else none
  |_=>none
 |_+1,_=>none
def a6w(K:AE):Nat->List AA->Option (List PV)
 |0,_=>none
 |_+1,[]=>some []
 |n+1,u::us=>(a2K K n u).bind fun p=>(a6w K n us).bind fun ps=>some (p::ps)
end
theorem a99{n:Nat}(h:n<=1000):n<=AU:=BF (b6k h)
theorem b6z(K:AE):∀(n:Nat),(∀(u:AA) (p:PV),a2K K n u=some p->∃v,A4 v u/\∀H,U6 K H p v)/\(∀(us:List AA) (ps:List PV),a6w K n us=some ps->∃vs,t7 vs us/\∀H,p4 K H ps vs):=by
 intro n
 induction n with
 |zero=>exact⟨fun u p h=>by simp [a2K] at h,fun u p h=>by simp [a6w] at h⟩
 |succ n ih=>
  constructor
  ·intro u p h
   cases u with
   |none=>simp only [a2K] at h;cases h;exact⟨.non,rfl,fun _=>rfl⟩
   |bool b=>simp only [a2K] at h;cases h;exact⟨.bl b,rfl,fun _=>rfl⟩
   |int i t=>simp only [a2K] at h;cases h;exact⟨.int i,⟨t,rfl⟩,fun _=>rfl⟩
   |str x t=>simp only [a2K] at h;cases h;exact⟨.str x,⟨t,rfl⟩,fun _=>rfl⟩
   |ref a=>
    simp only [a2K] at h
    split at h
    ·rename_i d its m sl e
     split at h
     ·rename_i c
      cases q:a6w K n its.toList with
      |none=>rw [q] at h;cases h
      |some ps=>
       rw [q] at h;cases h
       obtain⟨vs,h1,h2⟩:=ih.2 _ _ q
       exact⟨.ref a,rfl,fun H=>⟨a,vs,rfl,.inr ⟨_,its,m,e,rfl,rfl,a99 c,h1⟩,h2 H⟩⟩
     ·cases h
    ·rename_i its m sl e
     split at h
     ·rename_i c
      cases q:a6w K n its.toList with
      |none=>rw [q] at h;cases h
      |some ps=>
       rw [q] at h;cases h
       obtain⟨vs,h1,h2⟩:=ih.2 _ _ q
       exact⟨.ref a,rfl,fun H=>⟨a,vs,rfl,.inr ⟨_,its,m,e,rfl,rfl,rfl,a99 c,h1⟩,h2 H⟩⟩
     ·cases h
    ·cases h
   |_=>simp [a2K] at h
  ·intro us ps h
   cases us with
   |nil=>simp only [a6w] at h;cases h;exact⟨[],.nil,fun _=>rfl⟩
   |cons u us=>
    simp only [a6w] at h
    obtain⟨p,e1,h⟩:=bind_some h
    obtain⟨qs,e2,h⟩:=bind_some h
    cases h
    obtain⟨v,r1,r2⟩:=ih.1 _ _ e1
    obtain⟨vs,r3,r4⟩:=ih.2 _ _ e2
    exact⟨v::vs,.cons r1 r3,fun H=>⟨v,vs,rfl,r2 H,r4 H⟩⟩
section
variable {X:Cx}
theorem a5t{x:Str}{u:AA}{p:PV}{pos:Pos}{n:Nat}(hg:Gl X x)(hm:X.mg x=some u)(ha:a2K X.K n u=some p)(hd:(x==("__debug__":Str))=false:=by decide):EE X (.Name x pos) (mC p):=by
 obtain⟨v,r,h⟩:=(b6z X.K n).1 u p ha
 exact a3d (b18 hg hm r hd) h
def c10:PV->Option B0
 | .int i=>some (.inl i)
 | .str x=>some (.inr x)
 |_=>none
def b9X:List DictEntry->Option (List (B0×AA))
 |[]=>some []
 |e::es=>match e.key with
  | .int i _=>(b9X es).map fun r=>(.inl i,e.val)::r
  | .str x _=>(b9X es).map fun r=>(.inr x,e.val)::r
  |_=>none
def b8C{κ:Type}(K:AE)(n:Nat):List (κ×AA)->Option (List (κ×PV))
 |[]=>some []
 |(k,u)::r=>(a2K K n u).bind fun p=>(b8C K n r).bind fun t=>some ((k,p)::t)
def c13{κ:Type}[DecidableEq κ](tbl:List (κ×PV))(k:κ):Option PV:=match tbl with
 |[]=>none
 |(k',p)::r=>if k'=k then some p else c13 r k
def c0R:List PV->Option (List B0)
 |[]=>some []
 |p::ps=>(c10 p).bind fun k=>(c0R ps).bind fun ks=>some (k::ks)
def a7I:List AA->Option (List B0)
 |[]=>some []
 | .int i _::r=>(a7I r).map fun t=> .inl i::t
 | .str x _::r=>(a7I r).map fun t=> .inr x::t
 |_::_=>none
end
def c1T(K:AE):List DictEntry->Option (List (List B0×AB×AA))
 |[]=>some []
 |e::es=>match e.key with
  | .ref b=>(match K.lookup b with
    |some ⟨.type "tuple",_,.seq its _,_⟩=>(a7I its.toList).bind fun ks=>(c1T K es).bind fun r=>some ((ks,b,e.val)::r)
    |_=>none)
  |_=>none
def b6A(K:AE)(n:Nat):List (List B0×AB×AA)->Option (List (List B0×PV))
 |[]=>some []
 |(k,_,u)::r=>(a2K K n u).bind fun p=>(b6A K n r).bind fun t=>some ((k,p)::t)
section
variable {X:Cx}
abbrev MT:=g0->Option Bool
def tMT(K:AE)(c:MT):TT:=fun σ H Q=>∃F ρ b,S0 K F H σ ρ/\c ρ=some b/\∀F' H',Ext F H F' H'->Q b H'
abbrev ET(X:Cx)(e:AF)(c:MT):Prop:=PT X e (tMT X.K c)
abbrev EW(X:Cx)(e:AF)(c:MT):Prop:=PW X e (tMT X.K c)
def a9Z:f6->Option Bool
 | .val (.bool b)=>some b
 |_=>none
def tru(r:f6):Option Bool:=match r.rd with
 | .none=>some false
 | .bool b=>some b
 | .int i=>some (i !=0)
 | .str z=>if z.length<=AU then some ((z.length:Int) !=0) else none
 | .list ps=>some (!ps.isEmpty)
 | .tuple ps=>some (!ps.isEmpty)
 | .dict _=>none
def mtV(m:M):MT:=fun ρ=>(m ρ).bind tru
def K5(m:M):MT:=fun ρ=>(m ρ).bind a9Z
theorem p4.empty{K:AE}{H:Hp}{ps:List PV}{vs:List V}(r:p4 K H ps vs):vs.isEmpty=ps.isEmpty:=by
 cases ps with
 |nil=>cases r;rfl
 |cons p ps=>obtain⟨_,_,e,_⟩:=r;subst e;rfl
theorem b9K{H:Hp}{r:f6}{v:V}{b:Bool}(h:U6 X.K H r.rd v)(e:tru r=some b):c0k X.K v H b:=by
 unfold tru at e
 cases hp:r.rd with
 |none=>rw [hp] at h e;cases h;cases e;exact rfl
 |bool k=>rw [hp] at h e;cases h;cases e;exact rfl
 |int i=>rw [hp] at h e;cases h;cases e;exact rfl
 |str z=>
  rw [hp] at h e;cases h
  dsimp only at e
  split at e
  ·rename_i c;cases e;exact⟨c,rfl⟩
  ·cases e
 |list ps=>rw [hp] at h e;obtain⟨a,xs,rfl,hq,rl⟩:=h;cases e;exact .inl ⟨xs,hq,by rw [rl.empty]⟩
 |tuple ps=>rw [hp] at h e;obtain⟨a,xs,rfl,hq,rl⟩:=h;cases e;exact .inr (.inl ⟨xs,hq.sq,by rw [rl.empty]⟩)
 |dict _=>rw [hp] at e;cases e
theorem D0{e:AF}{m:M}(h:EE X e m)(he:∀whole,isTrue e X.env whole=(do let v<-whole;standAt e.pos;holding [v] (truthy v)):=by intro _;rfl):ET X e (mtV m):=
 b2a (b7U h he) fun σ H Q ⟨F,ρ,b,h1,h2,k⟩=>by
  obtain⟨r,e1,e2⟩:=bind_some h2
  exact⟨F,ρ,r,h1,e1,fun v F1 H1 o=>⟨b,b9K (o.rep.rd o.x.fh) e2,k F1 H1 o.x⟩⟩
theorem a41{K:AE}{F H:Hp}{r:f6}{v:V}{b:Bool}(h:Z1 K F H v r)(e:a9Z r=some b):v= .bl b:=by
 unfold a9Z at e
 split at e
 ·cases e;exact h
 ·cases e
theorem j9{a b:AF}{ma mb:M}{pos:Pos}{op:CmpOp}{g:f6->f6->Option f6}(ho:OpM X (compareOp op) g)(ha:EE X a ma)(hb:EE X b mb)(hm:behindInMarks op b=false):ET X (.Compare a [op] [b] pos) (K5 (m2 g ma mb)):=
 b2a (b9r ho ha hb hm) fun σ H Q ⟨F,ρ,k,h1,h2,q⟩=>by
  obtain⟨r,e1,e2⟩:=bind_some h2
  exact b2l ⟨F,ρ,r,h1,e1,fun v F1 H1 o=>⟨k,a41 o.rep e2,q F1 H1 o.x⟩⟩
def N4(c:MT):MT:=fun ρ=>(c ρ).map not
theorem E6{a:AF}{c:MT}{pos:Pos}(ha:ET X a c):ET X (.UnaryOp .Not a pos) (N4 c):=
 b2a (c1m ha) fun σ H Q ⟨F,ρ,k,h1,h2,q⟩=>by
  unfold N4 at h2
  cases e:c ρ with
  |none=>rw [e] at h2;cases h2
  |some b=>rw [e] at h2;cases h2;exact⟨F,ρ,b,h1,e,q⟩
def a4g(c d:MT):MT:=fun ρ=>(c ρ).bind fun b=>if b=true then d ρ else some false
def a1g(c d:MT):MT:=fun ρ=>(c ρ).bind fun b=>if b=true then some true else d ρ
theorem a6E{a:AF}{c:MT}{pos:Pos}(ha:ET X a c):EW X (.BoolOp .And [a] pos) c:=b9s ha
theorem M3{a:AF}{c:MT}{pos:Pos}(ha:ET X a c):EW X (.BoolOp .Or [a] pos) c:=c1o ha
theorem a59{a b:AF}{C7:List AF}{c d:MT}{pos:Pos}(ha:ET X a c)(hb:EW X (.BoolOp .And (b::C7) pos) d):EW X (.BoolOp .And (a::b::C7) pos) (a4g c d):=
 b7V (c1n ha hb) fun σ H Q ⟨F,ρ,k,h1,h2,q⟩=>by
  obtain⟨b,e1,e2⟩:=bind_some h2
  refine⟨F,ρ,b,h1,e1,fun F1 H1 x=> ?_⟩
  cases b with
  |true=>exact b1K ⟨F1,ρ,k,h1.ext x,e2,fun F2 H2 y=>q F2 H2 (x.trans y)⟩
  |false=>cases e2;exact b1J (q F1 H1 x)
theorem R5{a b:AF}{C7:List AF}{c d:MT}{pos:Pos}(ha:ET X a c)(hb:EW X (.BoolOp .Or (b::C7) pos) d):EW X (.BoolOp .Or (a::b::C7) pos) (a1g c d):=
 b7V (c2h ha hb) fun σ H Q ⟨F,ρ,k,h1,h2,q⟩=>by
  obtain⟨b,e1,e2⟩:=bind_some h2
  refine⟨F,ρ,b,h1,e1,fun F1 H1 x=> ?_⟩
  cases b with
  |false=>exact b1J ⟨F1,ρ,k,h1.ext x,e2,fun F2 H2 y=>q F2 H2 (x.trans y)⟩
  |true=>cases e2;exact b1K (q F1 H1 x)
def b0n(m n:M):M:=fun ρ=>(m ρ).bind fun r=>(a9Z r).bind fun b=>if b=true then n ρ else some (.val (.bool false))
def c0U(m:M):M:=fun ρ=>(m ρ).bind fun r=>(a9Z r).bind fun b=>some (.val (.bool (!b)))
theorem b3V{op:BoolOp}{a:AF}{m:M}{pos:Pos}(h:EE X a m):EE X (.BoolOp op [a] pos) m:=c1e h
theorem a88{a b:AF}{C7:List AF}{m n:M}{pos:Pos}(ha:EE X a m)(hb:EE X (.BoolOp .And (b::C7) pos) n):EE X (.BoolOp .And (a::b::C7) pos) (b0n m n):=
 J4 (c09 ha hb) fun σ H Q ⟨F,ρ,r,h1,h2,q⟩=>by
  obtain⟨r1,e1,h2⟩:=bind_some h2
  obtain⟨b,e2,h2⟩:=bind_some h2
  refine⟨F,ρ,r1,h1,e1,fun v F1 H1 o=>⟨b,a41 o.rep e2, ?_⟩⟩
  cases b with
  |true=>exact b1K ⟨F1,ρ,r,h1.ext o.x,h2,fun w F2 H2 y=>q w F2 H2 (C3.trans o.x y)⟩
  |false=>cases h2;exact b1J (q _ F1 H1 (C3.val o.x rfl))
theorem c0u{a:AF}{m:M}{pos:Pos}(ha:EE X a m):EE X (.UnaryOp .Not a pos) (c0U m):=
 J4 (c1d ha) fun σ H Q ⟨F,ρ,r,h1,h2,q⟩=>by
  obtain⟨r1,e1,h2⟩:=bind_some h2
  obtain⟨b,e2,h2⟩:=bind_some h2
  cases h2
  exact⟨F,ρ,r1,h1,e1,fun v F1 H1 o=>⟨b,a41 o.rep e2,q _ F1 H1 (C3.val o.x rfl)⟩⟩
def mIf(c:MT)(m n:M):M:=fun ρ=>(c ρ).bind fun b=>if b=true then m ρ else n ρ
theorem c1S{c a b:AF}{mc:MT}{m n:M}{pos:Pos}(hc:ET X c mc)(ha:EE X a m)(hb:EE X b n):EE X (.IfExp c a b pos) (mIf mc m n):=
 J4 (b7I hc ha hb) fun σ H Q ⟨F,ρ,r,h1,h2,q⟩=>by
  obtain⟨b,e1,h2⟩:=bind_some h2
  refine⟨F,ρ,b,h1,e1,fun F1 H1 x=> ?_⟩
  cases b with
  |true=>exact b1K ⟨F1,ρ,r,h1.ext x,h2,fun w F2 H2 y=>q w F2 H2 (C3.trans x y)⟩
  |false=>exact b1J ⟨F1,ρ,r,h1.ext x,h2,fun w F2 H2 y=>q w F2 H2 (C3.trans x y)⟩
def a2Y(g g':f6->f6->Option f6)(ma mb mc:M):M:=fun ρ=>(ma ρ).bind fun x=>(mb ρ).bind fun y=>(g x y).bind fun z=>(a9Z z).bind fun b=>if b=true then(mc ρ).bind fun w=>g' y w else some (.val (.bool false))
theorem b6H{ma mb mc:M}{g g':f6->f6->Option f6}{σ:L2.St}{H:Hp}{Q:VK}(h:tM X.K (a2Y g g' ma mb mc) σ H Q):b8g (rM2 X.K g) (rM2 X.K g') (tM X.K ma) (tM X.K mb) (tM X.K mc) σ H Q:=by
 obtain⟨F,ρ,r,he,hm,k⟩:=h
 obtain⟨rx,e1,hm⟩:=bind_some hm
 obtain⟨ry,e2,hm⟩:=bind_some hm
 obtain⟨rz,e3,hm⟩:=bind_some hm
 obtain⟨b,e4,hm⟩:=bind_some hm
 refine⟨F,ρ,rx,he,e1,fun v F1 H1 o1=>⟨F1,ρ,ry,he.ext o1.x,e2,fun u F2 H2 o2=>⟨F2,rx,ry,rz,o2.x.fh,o1.rep.ext o2.x,o2.rep,e3,fun z F3 H3 o3=>⟨b,a41 o3.rep e4, ?_⟩⟩⟩⟩
 have x3:=(o1.x.trans o2.x).trans o3.x
 cases b with
 |true=>
  rw [if_pos rfl] at hm
  obtain⟨rw',e5,hm⟩:=bind_some hm
  exact b1K ⟨F3,ρ,rw',he.ext x3,e5,fun w F4 H4 o4=>⟨F4,ry,rw',r,o4.x.fh,(o2.rep.ext o3.x).ext o4.x,o4.rep,hm,fun z F5 H5 o5=>k z F5 H5 (C3.trans (x3.trans o4.x) o5)⟩⟩
 |false=>
  rw [if_neg Ao] at hm
  cases hm
  exact b1J (k _ F3 H3 (C3.val x3 rfl))
theorem a6D{a b c:AF}{ma mb mc:M}{pos:Pos}{op op':CmpOp}{g g':f6->f6->Option f6}(ho:OpM X (compareOp op) g)(ho':OpM X (compareOp op') g')(ha:EE X a ma)(hb:EE X b mb)(hc:EE X c mc)
 (hm:lastMarks [op,op'] [b,c]=false:=by with_unfolding_all rfl):ET X (.Compare a [op,op'] [b,c] pos) (K5 (a2Y g g' ma mb mc)):=
 b2a (b7T ho ho' ha hb hc hm) fun σ H Q ⟨F,ρ,k,h1,h2,q⟩=>by
  obtain⟨r,e1,e2⟩:=bind_some h2
  exact b6H ⟨F,ρ,r,h1,e1,fun v F1 H1 o=>⟨k,a41 o.rep e2,q F1 H1 o.x⟩⟩
end
inductive Fl where
 |nx (ρ:g0)|rt (r:f6)|bk (ρ:g0)|ct (ρ:g0)
abbrev MS:=g0->Option Fl
structure SOk(K:AE)(F0 H0 F H:Hp)(σ:L2.St)(ρ:g0):Prop where
 x:Ext F0 H0 F H
 e:S0 K F H σ ρ
 nw:∀(i:Nat) (c:a3r) (a:AB),ρ[i]?=some (some (.ow c))->σ[i]?=some (some (.ref a))->H0 a=none
def Fin(K:AE)(F0 H0 F:Hp)(D:a0w):Fl->Prop
 | .nx ρ=>∀σ' F' H',p5 F F'->SOk K F0 H0 F' H' σ' ρ->D.nx σ' H'
 | .rt r=>∀v F' H',C3 K F0 H0 F' H' v r->D.rt v H'
 | .bk ρ=>∀σ' F' H',p5 F F'->SOk K F0 H0 F' H' σ' ρ->D.bk σ' H'
 | .ct ρ=>∀σ' F' H',p5 F F'->SOk K F0 H0 F' H' σ' ρ->D.ct σ' H'
theorem Fin.later{K:AE}{F0 H0 F F1:Hp}{D:a0w}(s:p5 F F1):∀{fl:Fl},Fin K F0 H0 F D fl->Fin K F0 H0 F1 D fl
 | .nx _,h=>fun σ' F' H' s' so=>h σ' F' H' (s.trans s') so
 | .rt _,h=>h
 | .bk _,h=>fun σ' F' H' s' so=>h σ' F' H' (s.trans s') so
 | .ct _,h=>fun σ' F' H' s' so=>h σ' F' H' (s.trans s') so
def tMS(K:AE)(m:MS):TS:=fun D σ H=>∃F0 H0 F ρ fl,SOk K F0 H0 F H σ ρ/\m ρ=some fl/\Fin K F0 H0 F D fl
abbrev ES(X:Cx)(st:Stmt)(m:MS):Prop:=PS X st (tMS X.K m)
abbrev ESs(X:Cx)(st:List Stmt)(m:MS):Prop:=PSs X st (tMS X.K m)
theorem SOk.ext{K:AE}{F0 H0 F H F' H':Hp}{σ:L2.St}{ρ:g0}(s:SOk K F0 H0 F H σ ρ)(x:Ext F H F' H'):SOk K F0 H0 F' H' σ ρ:=⟨s.x.trans x,s.e.ext x,s.nw⟩
def f6.nb:f6->Bool
 | .bo _=>false
 |_=>true
theorem SOk.set{K:AE}{F0 H0 F H F' H':Hp}{σ:L2.St}{ρ:g0}{v:V}{r:f6}(s:SOk K F0 H0 F H σ ρ)(o:C3 K F H F' H' v r)(hb:r.nb=true)(i:Nat):SOk K F0 H0 F' H' (σ.set i (some v)) (ρ.set i (some r)):=by
 have s1:=s.ext o.x
 have le:=s.e.len
 refine⟨s1.x,⟨s1.e.fh,by simp [le],fun j q e=> ?_,fun j ps e=> ?_,fun j k ps qs a hjk e1 e2 e3 e4=> ?_⟩,fun j ps a e1 e2=> ?_⟩
 ·rw [List.getElem?_set] at e ⊢
  by_cases hij:i=j
  ·subst hij
   rw [if_pos rfl] at e ⊢
   rw [le]
   split at e
   ·rename_i c;cases e;rw [if_pos c];exact⟨v,rfl,o.rep⟩
   ·cases e
  ·rw [if_neg hij] at e ⊢
   exact s1.e.at_ j q e
 ·rw [List.getElem?_set] at e
  by_cases hij:i=j
  ·subst hij
   rw [if_pos rfl] at e
   split at e
   ·cases e;cases hb
   ·cases e
  ·rw [if_neg hij] at e
   exact s1.e.nb j ps e
 ·rw [List.getElem?_set] at e1 e2 e3 e4
  by_cases hij:i=j
  ·subst hij
   rw [if_pos rfl] at e1 e3
   rw [if_neg hjk] at e2 e4
   split at e1
   ·cases e1
    split at e3
    ·cases e3
     have fr:=o.fr ps a rfl rfl
     obtain⟨w,h1,rr⟩:=s.e.at_ k _ e2
     obtain⟨a',xs,h2,_,h3⟩:=a4q.at_ rr
     rw [e4] at h1;cases h1
     cases h2
     rw [fr] at h3;cases h3
    ·cases e3
   ·cases e1
  ·rw [if_neg hij] at e1 e3
   by_cases hik:i=k
   ·subst hik
    rw [if_pos rfl] at e2 e4
    split at e2
    ·cases e2
     split at e4
     ·cases e4
      have fr:=o.fr qs a rfl rfl
      obtain⟨w,h1,rr⟩:=s.e.at_ j _ e1
      obtain⟨a',xs,h2,_,h3⟩:=a4q.at_ rr
      rw [e3] at h1;cases h1
      cases h2
      rw [fr] at h3;cases h3
     ·cases e4
    ·cases e2
   ·rw [if_neg hik] at e2 e4
    exact s1.e.ap j k ps qs a hjk e1 e2 e3 e4
 ·rw [List.getElem?_set] at e1 e2
  by_cases hij:i=j
  ·subst hij
   rw [if_pos rfl] at e1 e2
   split at e1
   ·cases e1
    split at e2
    ·cases e2;exact s.x.h.free (o.fr ps a rfl rfl)
    ·cases e2
   ·cases e1
  ·rw [if_neg hij] at e1 e2
   exact s.nw j ps a e1 e2
section
variable {X:Cx}
def u5:MS:=fun ρ=>some (.nx ρ)
def l6(m n:MS):MS:=fun ρ=>(m ρ).bind fun fl=>match fl with
 | .nx ρ'=>n ρ'
 |f=>some f
theorem n6:ESs X [] u5:=a8U b9q fun D σ H ⟨F0,H0,F,ρ,fl,so,e,fin⟩=>by
 cases e
 exact fin σ F H (PU.p5.refl F) so
theorem d5{st:Stmt}{C7:List Stmt}{m n:MS}(h1:ES X st m)(h2:ESs X C7 n):ESs X (st::C7) (l6 m n):=
 a8U (b3j h1 h2) fun D σ H ⟨F0,H0,F,ρ,fl,so,e,fin⟩=>by
  obtain⟨f1,e1,e⟩:=bind_some e
  cases f1 with
  |nx ρ'=>exact⟨F0,H0,F,ρ,.nx ρ',so,e1,fun σ' F' H' s so'=>⟨F0,H0,F',ρ',fl,so',e,fin.later s⟩⟩
  |rt r=>cases e;exact⟨F0,H0,F,ρ,_,so,e1,fin⟩
  |bk r=>cases e;exact⟨F0,H0,F,ρ,_,so,e1,fin⟩
  |ct r=>cases e;exact⟨F0,H0,F,ρ,_,so,e1,fin⟩
theorem e9{st:Stmt}{m:MS}(h1:ES X st m):ESs X [st] m:=b5k h1
def v0(i:Nat)(m:M):MS:=fun ρ=>(m ρ).bind fun r=>if r.nb=true then some (.nx (ρ.set i (some r))) else none
theorem j6{i:Nat}{x:Str}{e:AF}{m:M}{pos pos':Pos}(hN:X.N.Nodup)(he:EE X e m)(hi:X.N[i]?=some x:=by rfl)(hx:Loc X.env.scope x:=by exact Or.inl rfl)(hs:swapsWith e (some (.Name x pos')) pos.line X.env=pure false:=by rfl)(hf:X.fn x=true\/X.env.scope.names.lookup x=some .local:=by first|exact .inl rfl|exact .inr rfl|assumption):
 ES X (.Assign [.Name x pos'] e pos) (v0 i m):=
 L5 (b7P hN hi hx he hs hf) fun D σ H ⟨F0,H0,F,ρ,fl,so,e,fin⟩=>by
  obtain⟨r,e1,e⟩:=bind_some e
  split at e
  ·rename_i c
   cases e
   exact⟨F,ρ,r,so.e,e1,fun v F' H' o=>fin _ F' H' o.x.f (so.set o c i)⟩
  ·cases e
def t6(m:M):MS:=fun ρ=>(m ρ).bind fun r=>if r.nb=true then some (.rt r) else none
theorem j1{e:AF}{m:M}{pos:Pos}(he:EE X e m):ES X (.Return (some e) pos) (t6 m):=
 L5 (b7O he) fun D σ H ⟨F0,H0,F,ρ,fl,so,e,fin⟩=>by
  obtain⟨r,e1,e⟩:=bind_some e
  split at e
  ·rename_i c
   cases e
   exact⟨F,ρ,r,so.e,e1,fun v F' H' o=>fin v F' H' (C3.trans so.x o)⟩
  ·cases e
def a1f(i:Nat):MS:=fun ρ=>match ρ[i]? with
 |some (some r)=>some (.rt r)
 |_=>none
theorem W0(i:Nat){x:Str}{p pos:Pos}(h:PE X (.Name x p) (b3D i)):ES X (.Return (some (.Name x p)) pos) (a1f i):=
 L5 (b7O h) fun D σ H ⟨F0,H0,F,ρ,fl,so,e,fin⟩=>by
  unfold a1f at e
  split at e
  ·rename_i r er
   cases e
   obtain⟨v,e1,rr⟩:=so.e.at_ i _ er
   exact⟨v,e1,fin v F H ⟨so.x,rr,fun ps a z1 z2=>by subst z1;subst z2;exact so.nw i ps a er e1⟩⟩
  ·cases e
def A2(c:MT)(m n:MS):MS:=fun ρ=>(c ρ).bind fun b=>if b=true then m ρ else n ρ
theorem p8{c:AF}{a b:List Stmt}{mc:MT}{m n:MS}{pos:Pos}(hc:ET X c mc)(ha:ESs X a m)(hb:ESs X b n):ES X (.If c a b pos) (A2 mc m n):=
 L5 (b96 hc ha hb) fun D σ H ⟨F0,H0,F,ρ,fl,so,e,fin⟩=>by
  obtain⟨b,e1,e⟩:=bind_some e
  refine⟨F,ρ,b,so.e,e1,fun F1 H1 x=> ?_⟩
  cases b with
  |true=>exact b1K ⟨F0,H0,F1,ρ,fl,so.ext x,e,fin.later x.f⟩
  |false=>exact b1J ⟨F0,H0,F1,ρ,fl,so.ext x,e,fin.later x.f⟩
def setAll{α:Type}:List (Option α)->List Nat->List α->List (Option α)
 |σ,i::is,x::xs=>setAll (σ.set i (some x)) is xs
 |σ,_,_=>σ
def b30:List Nat->TGs
 |[]=>c1W
 |i::is=>b91 (b2P i) (b30 is)
theorem b0R:∀{is:List Nat} {xs:List V} {σ:L2.St} {H:Hp} {Q:L2.St->Hp->Prop},xs.length=is.length->Q (setAll σ is xs) H->b30 is xs σ H Q
 |[],[],_,_,_,_,q=>⟨rfl,q⟩
 |[],_::_,_,_,_,h,_=>by cases h
 |_::_,[],_,_,_,h,_=>by cases h
 |i::is,x::xs,σ,H,Q,h,q=>⟨x,xs,rfl,b0R (is:=is) (xs:=xs) (by simpa using h) q⟩
theorem SOk.setAll{K:AE}{F0 H0 F H:Hp}:∀{is:List Nat} {xs:List V} {ps:List PV} {σ:L2.St} {ρ:g0},SOk K F0 H0 F H σ ρ->p4 K F ps xs->SOk K F0 H0 F H (PU.setAll σ is xs) (PU.setAll ρ is (ps.map .val))
 |[],xs,ps,σ,ρ,s,r=>by
  have e1:PU.setAll σ [] xs=σ:=by cases xs<;>rfl
  have e2:PU.setAll ρ [] (ps.map f6.val)=ρ:=by cases ps<;>rfl
  rw [e1,e2];exact s
 |i::is,xs,[],σ,ρ,s,r=>by cases r;exact s
 |i::is,xs,p::ps,σ,ρ,s,⟨v,t,e,rp,rl⟩=>by
  subst e
  exact SOk.setAll (is:=is) (s.set (C3.here s.e.fh rp) rfl i) rl
def b87(is:List Nat)(m:M):MS:=fun ρ=>(m ρ).bind fun r=>match r with
 | .val (.tuple ps)=>if ps.length=is.length then some (.nx (setAll ρ is (ps.map .val))) else none
 |_=>none
theorem b6V{is:List Nat}{es:List AF}{k:Nat}{e:AF}{m:M}{pos tpos:Pos}(hc:X.calm=true)(he:EE X e m)(hg:PGs X es (b30 is))
 (hn:(assignEach es X.env).length=is.length:=by rfl) (hst:(assignEach es X.env).findIdx? (·.1)=none:=by rfl)
 (hs:swapsWithSole [.Tuple es k tpos] e pos.line X.env=pure false:=by rfl) (hw:swappedStores [.Tuple es k tpos] e X.env=pure none:=by rfl)
 (h1:(assignEach [.Tuple es k tpos] X.env).map (·.2)=[assign (.Tuple es k tpos) X.env]:=by rfl):ES X (.Assign [.Tuple es k tpos] e pos) (b87 is m):=
 L5 (b7M he (c1j hc hg hn hst) hs hw h1) fun D σ H ⟨F0,H0,F,ρ,fl,so,e,fin⟩=>by
  obtain⟨r,e1,e⟩:=bind_some e
  split at e
  ·rename_i ps
   split at e
   ·rename_i c
    cases e
    refine⟨F,ρ,_,so.e,e1,fun v F' H' o=> ?_⟩
    obtain⟨a,xs,rfl,hq,rl⟩:=o.rep
    have hl:xs.length=is.length:=by rw [rl.length];exact c
    exact⟨a,xs,rfl,C4 o.x.fh hq.sq,hl,b0R hl (fin _ F' H' o.x.f ((so.ext o.x).setAll rl))⟩
   ·cases e
  ·cases e
def M4(body:MS)(tg:PV->g0->Option g0):List PV->g0->Option Fl
 |[],ρ=>some (.nx ρ)
 |p::ps,ρ=>(tg p ρ).bind fun ρ1=>(body ρ1).bind fun fl=>match fl with
  | .nx ρ'=>M4 body tg ps ρ'
  | .ct ρ'=>M4 body tg ps ρ'
  | .bk ρ'=>some (.nx ρ')
  | .rt r=>some (.rt r)
def k7(i:Nat):PV->g0->Option g0:=fun p ρ=>some (ρ.set i (some (.val p)))
def b6x(K:AE)(g:TG)(tg:PV->g0->Option g0):Prop:=
 ∀F0 H0 F H σ ρ ρ1 p x (Q:L2.St->Hp->Prop),SOk K F0 H0 F H σ ρ->U6 K F p x->tg p ρ=some ρ1->(∀σ',SOk K F0 H0 F H σ' ρ1->Q σ' H)->g x σ H Q
theorem v3{K:AE}(i:Nat):b6x K (b2P i) (k7 i):=fun F0 H0 F H σ ρ ρ1 p x Q so r e k=>by
 cases e
 exact k _ (so.set (C3.here so.e.fh r) rfl i)
theorem b5U{body:MS}{tg:PV->g0->Option g0}{ps:List PV}{p:PV}{ρ:g0}{fl:Fl}(h:M4 body tg (p::ps) ρ=some fl):∃ρ1 f1,tg p ρ=some ρ1/\body ρ1=some f1/\(match f1 with
 | .nx ρ'=>M4 body tg ps ρ'
 | .ct ρ'=>M4 body tg ps ρ'
 | .bk ρ'=>some (.nx ρ')
 | .rt r=>some (.rt r))=some fl:=by
 unfold M4 at h
 obtain⟨ρ1,e1,h⟩:=bind_some h
 obtain⟨f1,e2,h⟩:=bind_some h
 exact⟨ρ1,f1,e1,e2,h⟩
def PvL(K:AE)(F0 H0 F1:Hp)(body:MS)(tg:PV->g0->Option g0)(ps:List PV)(fl:Fl)(k:Nat)(σ:L2.St)(H:Hp):Prop:=
 ∃F ρ,p5 F1 F/\SOk K F0 H0 F H σ ρ/\M4 body tg (ps.drop k) ρ=some fl
theorem a5v{K:AE}{F0 H0 F1:Hp}{body:MS}{tg:PV->g0->Option g0}{g:TG}{ps:List PV}{fl:Fl}{D:a0w}{k:Nat}{p:PV}{x:V}{σ:L2.St}{H:Hp}(T:b6x K g tg)(fin:Fin K F0 H0 F1 D fl)(ep:ps[k]?=some p)
 (hp:PvL K F0 H0 F1 body tg ps fl k σ H) (rx:∀F,p5 F1 F->U6 K F p x):
 g x σ H fun σ2 H2=>tMS K body {D with nx:=PvL K F0 H0 F1 body tg ps fl (k+1),ct:=PvL K F0 H0 F1 body tg ps fl (k+1),bk:=D.nx} σ2 H2:=by
 obtain⟨F,ρ,s,so,e⟩:=hp
 have hk:k<ps.length:=(Aw.mp ep).1
 have hd:ps.drop k=p::ps.drop (k+1):=by
  rw [List.drop_eq_getElem_cons hk]
  congr 1
  exact(Aw.mp ep).2
 rw [hd] at e
 obtain⟨ρ1,f1,e1,e2,e3⟩:=b5U e
 refine T F0 H0 F H σ ρ ρ1 p x _ so (rx F s) e1 fun σ' so'=>⟨F0,H0,F,ρ1,f1,so',e2, ?_⟩
 cases f1 with
 |nx ρ'=>exact fun σ2 F2 H2 s2 so2=>⟨F2,ρ',s.trans s2,so2,e3⟩
 |ct ρ'=>exact fun σ2 F2 H2 s2 so2=>⟨F2,ρ',s.trans s2,so2,e3⟩
 |bk ρ'=>cases e3;exact fun σ2 F2 H2 s2 so2=>fin σ2 F2 H2 (s.trans s2) so2
 |rt r=>cases e3;exact fin
theorem a6Q{K:AE}{F0 H0 F1:Hp}{body:MS}{tg:PV->g0->Option g0}{ps:List PV}{fl:Fl}{D:a0w}{σ:L2.St}{H:Hp}(fin:Fin K F0 H0 F1 D fl)
 (hp:PvL K F0 H0 F1 body tg ps fl ps.length σ H):D.nx σ H:=by
 obtain⟨F,ρ,s,so,e⟩:=hp
 rw [List.drop_length] at e
 cases e
 exact fin σ F H s so
abbrev MI:=g0->Option (List PV)
def T3(m:M):MI:=fun ρ=>((m ρ).bind f6.toVal).bind PyData.items?
def c2M(K:AE)(tl:TE):TI:=fun σ H R=>tl σ H fun x H1=>∃a,x= .ref a/\(((∃xs,SqL K H1 a xs)/\R (Itl K a) H1)\/((∃xs,SqT K H1 a xs)/\R (Itt K a) H1))
theorem b7K{tg l:AF}{tl:TE}(hl:PE X l tl):PI X tg l (c2M X.K tl):=by
 intro pins s σ H R I h
 refine U5 (hl pins s σ H _ I h) fun v s1 ⟨x,H1,I1,r1,q1⟩=> ?_
 obtain⟨a,e,q⟩:=q1
 subst e
 cases r1
 rcases q with⟨⟨xs,hq⟩,q⟩|⟨⟨xs,hq⟩,q⟩
 ·obtain⟨its,rv,p,hz⟩:=I1.list hq
  refine wpAny_pyIter_list p.isList ?_
  refine⟨s1.heap.objs.size,[s1.heap.objs.size],_,_,H1,rfl,I1.kept (t':=s1.toks) fun b o e=>An _ e,b6m a _,⟨_,Az _ rfl,rfl,rfl⟩,fun b hb=> ?_,q⟩
  have e:b=s1.heap.objs.size:=by simpa using hb
  subst e
  exact I1.fpOk (AZ _) (I1.hok.fresh (AZ _))
 ·obtain⟨its,rv,p,hz⟩:=I1.tuple hq
  refine wpAny_pyIter_tuple (show s1.heap.IsTuple a its.toArray from p) ?_
  refine⟨s1.heap.objs.size,[s1.heap.objs.size],_,_,H1,rfl,I1.kept (t':=s1.toks) fun b o e=>An _ e,b4y a _,⟨_,Az _ rfl,rfl,rfl⟩,fun b hb=> ?_,q⟩
  have e:b=s1.heap.objs.size:=by simpa using hb
  subst e
  exact I1.fpOk (AZ _) (I1.hok.fresh (AZ _))
def a1r(it:MI)(tg:PV->g0->Option g0)(body:MS):MS:=fun ρ=>(it ρ).bind fun ps=>M4 body tg ps ρ
theorem X0{tg iter:AF}{body:List Stmt}{m:M}{g:TG}{t:PV->g0->Option g0}{b:MS}{pos:Pos}(hp:PassesOwn (model X.prog X.w) X.A X.env X.xe)(hc:X.calm=true)(hi:EE X iter m)(hg:PG X tg g)(T:b6x X.K g t)(hb:ESs X body b)
 (hs:∀x,foldedSetIterable iter X.env x=pure x:=by intro _;rfl):ES X (.For tg iter body [] pos) (a1r (T3 m) t b):=
 L5 (b4r hp hc (b7K hi) hg hb hs) fun D σ H ⟨F0,H0,F,ρ,fl,so,e,fin⟩=>by
  obtain⟨ps,e1,e⟩:=bind_some e
  obtain⟨q,e1,e2⟩:=bind_some e1
  obtain⟨r,e1,e3⟩:=bind_some e1
  refine⟨F,ρ,r,so.e,e1,fun v F' H' o=> ?_⟩
  obtain⟨F1,o1⟩:=o.toVal e3
  have fin1:=fin.later o1.x.f
  have so1:=so.ext o1.x
  obtain⟨a,xs,rfl,hq,rl⟩:=a1U (F:=F1) (H:=F1) (PU.p5.refl F1) (show Z1 X.K F1 F1 v (.val q) from o1.rep) e2
  have hlen:=rl.length
  have get:∀k x,xs[k]?=some x->∃p,ps[k]?=some p/\∀F,p5 F1 F->U6 X.K F p x:=fun k x ex=>by
   obtain⟨p,ep,rp⟩:=rl.getV ex
   exact⟨p,ep,fun F s=>U6.mono s _ rp⟩
  rcases hq with hq|hq
  ·refine⟨a,rfl,.inl ⟨⟨xs,a0o o1.x.fh hq⟩,b60 (K:=X.K) (a:=a) (xs:=xs) (PvL X.K F0 H0 F1 b t ps fl) ⟨F1,ρ,PU.p5.refl F1,so1,e⟩ (fun k σ H _ ⟨F,_,s,so2,_⟩=>a0o (s.trans so2.e.fh) hq) (fun k x σ H ex hp=> ?_) (fun σ H hp=> ?_)⟩⟩
   ·obtain⟨p,ep,rp⟩:=get k x ex
    exact a5v T fin1 ep hp rp
   ·rw [hlen] at hp
    exact a6Q fin1 hp
  ·refine⟨a,rfl,.inr ⟨⟨xs,C4 o1.x.fh hq⟩,b8U (K:=X.K) (a:=a) (xs:=xs) (PvL X.K F0 H0 F1 b t ps fl) ⟨F1,ρ,PU.p5.refl F1,so1,e⟩ (fun k σ H _ ⟨F,_,s,so2,_⟩=>C4 (s.trans so2.e.fh) hq) (fun k x σ H ex hp=> ?_) (fun σ H hp=> ?_)⟩⟩
   ·obtain⟨p,ep,rp⟩:=get k x ex
    exact a5v T fin1 ep hp rp
   ·rw [hlen] at hp
    exact a6Q fin1 hp
def a1N(lo hi:Int):List PV:=(Ac (hi - lo).toNat).map fun k=> .int (lo+(k:Nat))
theorem b7f:∃f:Int->Bool,∀j,f j=decide (-(2 ^ 62)<=j/\j<2 ^ 62):=⟨_,fun _=>rfl⟩
def inR:Int->Bool:=b7f.choose
theorem c0J(j:Int):inR j=decide (-(2 ^ 62)<=j/\j<2 ^ 62):=b7f.choose_spec j
theorem b1H{j:Int}:inR j=true↔(-(2 ^ 62)<=j/\j<2 ^ 62):=by rw [c0J,decide_eq_true_iff]
def a1z(m:MA):MI:=fun ρ=>(m ρ).bind fun ps=>match ps with
 |[.int j]=>if inR j=true then some (a1N 0 j) else none
 |_=>none
theorem a90{lo hi:Int}{k:Nat}(h:k<(hi - lo).toNat):(a1N lo hi)[k]?=some (.int (lo+k)):=by
 simp [a1N,h]
theorem a91(lo hi:Int):(a1N lo hi).length=(hi - lo).toNat:=by simp [a1N]
theorem a4D{tg a:AF}{body:List Stmt}{m:MA}{g:TG}{t:PV->g0->Option g0}{b:MS}{p rp pos:Pos}(hp:PassesOwn (model X.prog X.w) X.A X.env X.xe)(hc:X.calm=true)(hgl:Gl X "range")(hm:X.mg "range"=none)(ha:EA X [a] m)(hg:PG X tg g)(T:b6x X.K g t)(hb:ESs X body b)
 (hst:AM [a] X.env=[(false,eval a X.env)]:=by rfl) (hs:∀x,foldedSetIterable (.Call (.Name "range" p) [a] [] rp) X.env x=pure x:=by intro _;rfl):ES X (.For tg (.Call (.Name "range" p) [a] [] rp) body [] pos) (a1r (a1z m) t b):=
 L5 (b4r hp hc (b1b hgl hm ha hst) hg hb hs) fun D σ H ⟨F0,H0,F,ρ,fl,so,e,fin⟩=>by
  obtain⟨ps,e1,e⟩:=bind_some e
  obtain⟨qs,e1,e2⟩:=bind_some e1
  refine⟨F,ρ,qs,so.e,e1,fun vs F1 H1 x rl=> ?_⟩
  split at e2
  ·rename_i j
   split at e2
   ·rename_i c
    have c:=b1H.mp c
    cases e2
    obtain⟨v,r,rfl,rv,rr⟩:=rl
    cases rv
    cases rr
    have fin1:=fin.later x.f
    have hz:(j - 0).toNat=j.toNat:=by lia
    refine⟨j,rfl,c.1,c.2,b5V (lo:=0) (n:=j.toNat) (PvL X.K F0 H0 F1 b t (a1N 0 j) fl) ⟨F1,ρ,PU.p5.refl F1,so.ext x,e⟩ (fun k σ H hk hp=> ?_) (fun σ H hp=> ?_)⟩
    ·exact a5v T fin1 (a90 (by lia)) hp fun _ _=>rfl
    ·have:j.toNat=(a1N 0 j).length:=by rw [a91,hz]
     rw [this] at hp
     exact a6Q fin1 hp
   ·cases e2
  ·cases e2
def O6(c:MT)(body:MS):Nat->g0->Option Fl
 |0,_=>none
 |n+1,ρ=>(c ρ).bind fun b=>if b=true then(body ρ).bind fun fl=>match fl with
  | .nx ρ'=>O6 c body n ρ'
  | .ct ρ'=>O6 c body n ρ'
  | .bk ρ'=>some (.nx ρ')
  | .rt r=>some (.rt r) else some (.nx ρ)
theorem a9a(n:Nat){c:AF}{body:List Stmt}{mc:MT}{b:MS}{pos:Pos}(hp:PassesOwn (model X.prog X.w) X.A X.env X.xe)(hc:ET X c mc)(hb:ESs X body b):ES X (.While c body [] pos) (O6 mc b n):=
 L5 (b7R hp hc hb) fun D σ H ⟨F0,H0,F,ρ,fl,so,e,fin⟩=>by
  refine⟨fun k σ H=>∃F1 ρ,p5 F F1/\SOk X.K F0 H0 F1 H σ ρ/\O6 mc b k ρ=some fl,⟨n,F,ρ,PU.p5.refl F,so,e⟩, ?_⟩
  rintro k σ H ⟨F1,ρ,s,so,e⟩
  cases k with
  |zero=>cases e
  |succ k=>
   unfold O6 at e
   obtain⟨d,e1,e⟩:=bind_some e
   refine⟨F1,ρ,d,so.e,e1,fun F2 H2 x=> ?_⟩
   have s2:=s.trans x.f
   cases d with
   |true=>
    rw [if_pos rfl] at e
    obtain⟨f1,e2,e⟩:=bind_some e
    refine b1K ⟨fun σ' H'=>∃F1 ρ,p5 F F1/\SOk X.K F0 H0 F1 H' σ' ρ/\O6 mc b k ρ=some fl,fun σ' H' h=>⟨k,Nat.lt_succ_self k,h⟩,⟨F0,H0,F2,ρ,f1,so.ext x,e2, ?_⟩⟩
    cases f1 with
    |nx ρ'=>exact fun σ3 F3 H3 s3 so3=>⟨F3,ρ',s2.trans s3,so3,e⟩
    |ct ρ'=>exact fun σ3 F3 H3 s3 so3=>⟨F3,ρ',s2.trans s3,so3,e⟩
    |bk ρ'=>cases e;exact fun σ3 F3 H3 s3 so3=>fin σ3 F3 H3 (s2.trans s3) so3
    |rt r=>cases e;exact fin
   |false=>
    rw [if_neg Ao] at e
    cases e
    exact b1J (fin σ F2 H2 s2 (so.ext x))
def k9(n:Nat)(body:MS)(ps:List PV):Option f6:=(body (ps.map (fun p=>some (f6.val p))++Ab n none)).bind fun fl=>match fl with
 | .rt r=>some r
 | .nx _=>some (.val .none)
 |_=>none
end
theorem b3B{K:AE}{F H:Hp}{ps:List PV}{vs:List V}(n:Nat)(s:p5 F H)(r:p4 K F ps vs):SOk K F H F H (vs.map some++Ab n none) (ps.map (fun p=>some (f6.val p))++Ab n none):=by
 have hl:=r.length
 have key:∀(i:Nat) (q:f6),(ps.map (fun p=>some (f6.val p))++Ab n none)[i]?=some (some q)->∃p v,q= .val p/\(vs.map some++Ab n none)[i]?=some (some v)/\U6 K F p v:=by
  intro i q e
  by_cases h:i<ps.length
  ·rw [BC (by simpa using h),BB] at e
   rw [BC (by rw [Ae,hl];exact h),BB]
   cases q':ps[i]? with
   |none=>rw [q'] at e;cases e
   |some p=>
    rw [q'] at e
    cases e
    obtain⟨v,h1,h2⟩:=r.get q'
    exact⟨p,v,rfl,by rw [h1];rfl,h2⟩
  ·rw [List.getElem?_append_right (by simpa using h),List.getElem?_replicate] at e
   split at e<;>cases e
 refine⟨Ext.refl s,⟨s,by simp [hl],fun i q e=> ?_,fun i qs e=> ?_,fun i j qs _ a _ e=> ?_⟩,fun i qs a e=> ?_⟩
 ·obtain⟨p,v,rfl,h1,h2⟩:=key i q e;exact⟨v,h1,h2⟩
 ·obtain⟨p,v,z,_⟩:=key i _ e;cases z
 ·obtain⟨p,v,z,_⟩:=key i _ e;cases z
 ·obtain⟨p,v,z,_⟩:=key i _ e;cases z
theorem b6Y{P:AK}{w:AJ}{K:AE}{mg:Str->Option AA}{base:Heap}{x qual:Str}{st:Stmt}{f:AB}{fd:FuncData}{N ps:List Str}{k:Nat}{m:MS}(F:Fun K x qual st f fd)(S:j8 N ps (g8 st))
 (hb:∀(cdv:AA) (A:AL) (outer:List Env) (s:AC) (H:Hp) (E:XK),R9 k (A.deeper (envOfC qual (g8 st) s.heap.objs.size f cdv))->ESs (a5H CX0 P w K mg base N qual (g8 st) f cdv A outer s H E).nox (E5 st) m):
 a05 P w K mg base CX0 (k+1) f fd ps (spP K ps.length (k9 (N.length - ps.length) m)):=by
 refine F.ok S (fun vs H Q E h=> ?_) (fun cdv A outer s H vs Q E hr h=> ?_)
 ·obtain⟨_,qs,_,_,r,h2,_⟩:=h
  rw [r.length,h2]
 ·obtain⟨F1,qs,r,s1,rl,hl,e,k⟩:=h
  refine⟨_,hb cdv A outer s H E hr, ?_⟩
  unfold k9 at e
  obtain⟨fl,e1,e2⟩:=bind_some e
  have hv:vs.length=ps.length:=by rw [rl.length,hl]
  refine⟨F1,H,F1,_,fl, ?_,e1, ?_⟩
  ·have:=b3B (N.length - ps.length) s1 rl
   unfold L2.a5X
   rw [hv]
   exact this
  ·cases fl with
   |rt q=>cases e2;exact fun v F' H' o=>k v F' H' o
   |nx ρ=>cases e2;exact fun σ' F' H' _ so=>k .non F' H' (C3.val so.x rfl)
   |bk ρ=>cases e2
   |ct ρ=>cases e2
section
variable {X:Cx}
def rC1(K:AE)(g:f6->Option f6):List V->Hp->VK->Prop:=fun xs H Q=>∃F x rx rz,xs=[x]/\p5 F H/\Z1 K F H x rx/\g rx=some rz/\∀v F' H',C3 K F H F' H' v rz->Q v H'
def rC2(K:AE)(g:f6->f6->Option f6):List V->Hp->VK->Prop:=fun xs H Q=>∃F x y rx ry rz,xs=[x,y]/\p5 F H/\Z1 K F H x rx/\Z1 K F H y ry/\g rx ry=some rz/\∀v F' H',C3 K F H F' H' v rz->Q v H'
def m1(g:f6->Option f6)(m:M):M:=fun ρ=>(m ρ).bind g
theorem b7A{m:M}{g:f6->Option f6}{σ:L2.St}{H:Hp}{Q:VK}(h:tM X.K (m1 g m) σ H Q):tCB (rC1 X.K g) (b5r (tM X.K m) c1u) σ H Q:=by
 obtain⟨F,ρ,r,he,hm,k⟩:=h
 obtain⟨rx,e1,hm⟩:=bind_some hm
 exact⟨F,ρ,rx,he,e1,fun v F1 H1 o1=>⟨F1,v,rx,r,rfl,o1.x.fh,o1.rep,hm,fun z F2 H2 o2=>k z F2 H2 (C3.trans o1.x o2)⟩⟩
theorem b9L{m n:M}{g:f6->f6->Option f6}{σ:L2.St}{H:Hp}{Q:VK}(h:tM X.K (m2 g m n) σ H Q):tCB (rC2 X.K g) (b5r (tM X.K m) (b5r (tM X.K n) c1u)) σ H Q:=by
 obtain⟨F,ρ,r,he,hm,k⟩:=h
 obtain⟨rx,e1,hm⟩:=bind_some hm
 obtain⟨ry,e2,hm⟩:=bind_some hm
 exact⟨F,ρ,rx,he,e1,fun v F1 H1 o1=>⟨F1,ρ,ry,he.ext o1.x,e2,fun u F2 H2 o2=>⟨F2,v,u,rx,ry,r,rfl,o2.x.fh,o1.rep.ext o2.x,o2.rep,hm,fun z F3 H3 o3=>k z F3 H3 (C3.trans (o1.x.trans o2.x) o3)⟩⟩⟩
theorem N5{id:String}{x:Str}{p pos:Pos}{e:AF}{g:f6->Option f6}{m:M}(hc:O7 X (.builtin id) (rC1 X.K g))(hg:Gl X x)(hm:X.mg x=none)(hv:bootBuiltins x=some (.builtin id))(ha:EE X e m)(hn:x≠"__name__":=by decide)(hdb:(x==("__debug__":Str))=false:=by decide)
 (he:AM [e] X.env=(false,eval e X.env)::AM [] X.env:=by rfl) (hpl:(backTo pos (AM [] X.env)).any (·.1)=false:=by rfl):EE X (.Call (.Name x p) [e] [] pos) (m1 g m):=
 J4 (a4V hc hg hm hv (J7 ha a0K he) hn hdb he hpl) fun _ _ _ h=>b7A h
theorem b4K{id:String}{x:Str}{p pos:Pos}{e e2:AF}{g:f6->f6->Option f6}{m n:M}(hc:O7 X (.builtin id) (rC2 X.K g))(hg:Gl X x)(hm:X.mg x=none)(hv:bootBuiltins x=some (.builtin id))(ha:EE X e m)(hb:EE X e2 n)(hn:x≠"__name__":=by decide)(hdb:(x==("__debug__":Str))=false:=by decide)
 (he:AM [e,e2] X.env=(false,eval e X.env)::AM [e2] X.env:=by rfl) (he2:AM [e2] X.env=(false,eval e2 X.env)::AM [] X.env:=by rfl) (hpl:(backTo pos (AM [e2] X.env)).any (·.1)=false:=by rfl):EE X (.Call (.Name x p) [e,e2] [] pos) (m2 g m n):=
 J4 (a4V hc hg hm hv (J7 ha (J7 hb a0K he2) he) hn hdb he hpl) fun _ _ _ h=>b9L h
theorem a6C{T:String}{x:Str}{p pos:Pos}{e:AF}{g:f6->Option f6}{m:M}(hc:O7 X (.type T) (rC1 X.K g))(hg:Gl X x)(hm:X.mg x=none)(hv:bootBuiltins x=some (.type T))(ha:EE X e m)(hn:x≠"__name__":=by decide)(hdb:(x==("__debug__":Str))=false:=by decide)
 (he:AM [e] X.env=(false,eval e X.env)::AM [] X.env:=by rfl) (hpl:(backTo pos (AM [] X.env)).any (·.1)=false:=by rfl):EE X (.Call (.Name x p) [e] [] pos) (m1 g m):=
 J4 (b1a hc hg hm hv (J7 ha a0K he) hn hdb he hpl) fun _ _ _ h=>b7A h
def G3(x:f6):Option f6:=match x.rd with
 | .str z=>if z.length<=AU then some (.val (.int z.length)) else none
 |p=>match PyData.items? p with
  |some ps=>some (.val (.int ps.length))
  |none=>none
theorem C8:O7 X (.builtin "len") (rC1 X.K G3):=by
 intro pins s σ H xs us Q I rv h
 obtain⟨F,x,rx,rz,rfl,s0,h1,h2,k⟩:=h
 unfold G3 at h2
 split at h2
 ·rename_i z ez
  split at h2
  ·rename_i c
   cases h2
   have rr:=h1.rd s0
   rw [ez] at rr
   cases rr
   exact b1n pins s σ H _ us Q I rv ⟨z,rfl,c,k _ F H (C3.here s0 rfl)⟩
  ·cases h2
 ·split at h2
  ·rename_i ps e
   cases h2
   obtain⟨a,xs,rfl,hq,r⟩:=a1U s0 h1 e
   refine b1m pins s σ H _ us Q I rv ⟨a,xs,rfl,hq, ?_⟩
   rw [r.length]
   exact k _ F H (C3.here s0 rfl)
  ·cases h2
theorem b1p(hc:X.calm=true):O7 X (.builtin "min") (rC2 X.K (gI fun i j=> .int (if j<i then j else i))):=by
 intro pins s σ H xs us Q I rv h
 obtain⟨F,x,y,rx,ry,rz,rfl,s0,h1,h2,h3,k⟩:=h
 obtain⟨i,j,rfl,rfl,rfl⟩:=b4V h3
 cases h1;cases h2
 exact b5K hc pins s σ H _ us Q I rv ⟨i,j,rfl,k _ F H (C3.here s0 rfl)⟩
def b1D(x:f6):Option f6:=match PyData.items? x.rd with
 |some ps=>some (.val (.tuple ps))
 |none=>none
theorem b51{F H:Hp}{v:V}{r:f6}{ps:List PV}(s0:p5 F H)(h:Z1 X.K F H v r)(e:PyData.items? r.rd=some ps):∃a xs,v= .ref a/\(SqL X.K H a xs\/(SqT X.K H a xs/\U6 X.K F (.tuple ps) v))/\p4 X.K F ps xs:=by
 cases r with
 |val p=>
  cases p with
  |list qs=>cases e;obtain⟨a,xs,rfl,hq,r⟩:=h;exact⟨a,xs,rfl,.inl (a0o s0 hq),r⟩
  |tuple qs=>cases e;obtain⟨a,xs,rfl,hq,r⟩:=h;exact⟨a,xs,rfl,.inr ⟨C4 s0 hq.sq,⟨a,xs,rfl,hq,r⟩⟩,r⟩
  |_=>cases e
 |ow c=>cases c<;>cases e;obtain⟨a,xs,rfl,_,hq,r⟩:=h;exact⟨a,xs,rfl,.inl (SqL.of hq),r⟩
 |bo c=>cases c<;>cases e;obtain⟨a,xs,rfl,_,hq,r⟩:=h;exact⟨a,xs,rfl,.inl (SqL.of hq),r⟩
theorem b6K:O7 X (.type "tuple") (rC1 X.K b1D):=by
 intro pins s σ H xs us Q I rv h
 obtain⟨F,x,rx,rz,rfl,s0,h1,h2,k⟩:=h
 unfold b1D at h2
 split at h2
 ·rename_i ps e
  cases h2
  obtain⟨a,xs,rfl,hq,r⟩:=b51 s0 h1 e
  refine b0k pins s σ H _ us Q I rv ⟨a,xs,rfl, ?_⟩
  rcases hq with hq|⟨hq,rp⟩
  ·exact .inl ⟨hq,fun l hl=>k _ _ _ (C3.tup s0 hl r)⟩
  ·exact .inr ⟨hq,k _ F H (C3.here s0 rp)⟩
 ·cases h2
def b69(x:f6):Option f6:=match PyData.items? x.rd with
 |some ps=>some (.own ps)
 |none=>none
theorem b8H:O7 X (.type "list") (rC1 X.K b69):=by
 intro pins s σ H xs us Q I rv h
 obtain⟨F,x,rx,rz,rfl,s0,h1,h2,k⟩:=h
 unfold b69 at h2
 split at h2
 ·rename_i ps e
  cases h2
  obtain⟨a,xs,rfl,hq,r⟩:=a1U s0 h1 e
  exact b1o pins s σ H _ us Q I rv ⟨a,xs,rfl,hq,fun l hl=>k _ _ _ (C3.lst s0 hl r)⟩
 ·cases h2
def kindOf:PV->String
 | .none=>"NoneType"
 | .bool _=>"bool"
 | .int _=>"int"
 | .str _=>"str"
 | .list _=>"list"
 | .tuple _=>"tuple"
 | .dict _=>"dict"
def a6f(T:String)(p:PV):Bool:=kindOf p==T||(kindOf p=="bool" && T=="int")
def isFn:PV->Bool
 | .dict ((.str _,_)::_)=>true
 |_=>false
def a1I(T:String)(x:f6):Option f6:=bif isFn x.rd then none else some (.val (.bool (a6f T x.rd)))
def b6s(T:String):Prop:=T="int"\/T="bool"\/T="str"\/T="list"\/T="tuple"\/T="dict"
theorem b52{K:AE}{T:String}(h:b6s T):∀p:PV,PySem.W.kitOne K (.type (kindOf p)) (.type T)=some (a6f T p):=by
 intro p
 rcases h with rfl|rfl|rfl|rfl|rfl|rfl<;>cases p<;>kernel_rfl
theorem a3H{T:String}{e:AF}{m:M}{p p2 pos:Pos}(kt:b6s T)(hg:Gl X "isinstance")(hm:X.mg "isinstance"=none)(ha:EE X e m)(hT:PE X (.Name (AY T) p2) (tC (.ty T)))
 (he:AM [e,.Name (AY T) p2] X.env=(false,eval e X.env)::AM [.Name (AY T) p2] X.env:=by rfl) (he2:AM [.Name (AY T) p2] X.env=(false,eval (.Name (AY T) p2) X.env)::AM [] X.env:=by rfl) (hpl:(backTo pos (AM [.Name (AY T) p2] X.env)).any (·.1)=false:=by rfl)
 (hv:bootBuiltins "isinstance"=some (.builtin "isinstance"):=by rfl):
 EE X (.Call (.Name "isinstance" p) [e,.Name (AY T) p2] [] pos) (m1 (a1I T) m):=by
 have hc:O7 X (.builtin "isinstance") (fun xs H Q=>∃F x rx,xs=[x,.ty T]/\p5 F H/\Z1 X.K F H x rx/\isFn rx.rd=false/\Q (.bl (a6f T rx.rd)) H):=by
  intro pins s σ H xs us Q I rv h
  obtain⟨F,x,rx,rfl,s0,h1,nf,q⟩:=h
  obtain⟨u,u2,rfl,ru,ru2⟩:∃u1 u2,us=[u1,u2]/\A4 x u1/\A4 (.ty T) u2:=by
   cases rv with
   |cons p q=>
    cases q with
    |cons p' q'=>
     cases q'
     exact⟨_,_,rfl,p,p'⟩
  cases ru2
  have rr:=h1.rd s0
  have kk:=b52 (K:=X.K) kt rx.rd
  have fin:∀tk,EP X pins σ Q (.bool (a6f T rx.rd)) {s with toks:=tk}:=fun tk=>⟨.bl _,H,I.tok tk,rfl,q⟩
  cases hp:rx.rd with
  |none=>rw [hp] at rr kk fin;cases rr;cases ru;exact PySem.W.kia_one PySem.W.kitx_none I.kIn True.intro kk (fun z=>nomatch z) fin
  |bool b=>rw [hp] at rr kk fin;cases rr;cases ru;exact PySem.W.kia_one PySem.W.kitx_bool I.kIn True.intro kk (fun z=>nomatch z) fin
  |int b=>rw [hp] at rr kk fin;cases rr;obtain⟨t,rfl⟩:=ru;exact PySem.W.kia_one PySem.W.kitx_int I.kIn True.intro kk (fun z=>nomatch z) fin
  |str b=>rw [hp] at rr kk fin;cases rr;obtain⟨t,rfl⟩:=ru;exact PySem.W.kia_one PySem.W.kitx_str I.kIn True.intro kk (fun z=>nomatch z) fin
  |list ps=>
   rw [hp] at rr kk fin
   obtain⟨a,ys,rfl,hq,_⟩:=rr
   cases ru
   obtain⟨its,_,⟨o,n,e1,e2,_⟩,_⟩:=I.list hq
   exact PySem.W.kia_one PySem.W.kitx_list I.kIn ⟨o,e1,e2⟩ kk (fun z=>nomatch z) fin
  |tuple ps=>
   rw [hp] at rr kk fin
   obtain⟨a,ys,rfl,hq,_⟩:=rr
   cases ru
   obtain⟨its,_,⟨o,e1,e2,_⟩,_⟩:=I.tuple hq.sq
   exact PySem.W.kia_one PySem.W.kitx_tuple I.kIn ⟨o,e1,e2⟩ kk (fun z=>nomatch z) fin
  |dict ps=>
   rw [hp] at rr kk fin nf
   rcases rr with⟨a,_,rfl,hq,_⟩|⟨a,_,rfl,hq,_⟩|⟨x,_,rfl,_⟩|⟨x,m,fs,_,hf⟩
   ·cases ru
    obtain⟨_,_,_,_,o,_,_,e1,e2,_⟩:=I.hok a _ hq
    exact PySem.W.kia_one PySem.W.kitx_dict I.kIn ⟨o,e1,e2.1⟩ kk (fun z=>nomatch z) fin
   ·cases ru
    obtain⟨_,_,_,_,o,_,_,e1,e2,_⟩:=I.hok a _ hq
    exact PySem.W.kia_one PySem.W.kitx_dict I.kIn ⟨o,e1,e2.1⟩ kk (fun z=>nomatch z) fin
   ·cases nf
   ·cases ps with
    |nil=>cases hf
    |cons f ps=>obtain⟨k,p⟩:=f;obtain⟨_,_,_,_,z,_⟩:=hf;subst z;cases nf
 exact J4 (a4V hc hg hm hv (J7 ha (J7 hT a0K he2) he) (by decide) (by decide) he hpl) fun σ H Q ⟨F,ρ,r,h1,h2,k⟩=>by
  obtain⟨rx,e1,h2⟩:=bind_some h2
  unfold a1I at h2
  cases nf:isFn rx.rd with
  |true=>rw [nf] at h2;cases h2
  |false=>
   rw [nf] at h2
   cases h2
   exact⟨F,ρ,rx,h1,e1,fun v F1 H1 o=>⟨F1,v,rx,rfl,o.x.fh,o.rep,nf,k _ F1 H1 (C3.val o.x rfl)⟩⟩
theorem SOk.putC{K:AE}{F0 H0 F H:Hp}{σ:L2.St}{ρ:g0}{i:Nat}{c d:a3r}{a:AB}{o:HO}(s:SOk K F0 H0 F H σ ρ)(e:ρ[i]?=some (some (.ow c)))(ea:σ[i]?=some (some (.ref a)))(r:F a=none->a4q K F (upd H a o) (.ref a) d):
 SOk K F0 H0 F (upd H a o) σ (ρ.set i (some (.ow d))):=by
 obtain⟨v,h1,rr0⟩:=s.e.at_ i _ e
 obtain⟨a',xs,rfl,fa,ha⟩:=a4q.at_ rr0
 rw [ea] at h1;cases h1
 have na:H0 a=none:=s.nw i c a e ea
 have hi:i<ρ.length:=(Aw.mp e).1
 refine⟨⟨s.x.f,fun b o z=>by rw [l7 (m4 z na)];exact s.x.h _ _ z,fun b o z=>by rw [l7 (m4 z fa)];exact s.x.fh _ _ z,s.x.nw,s.x.nf⟩,⟨fun b o z=>by rw [l7 (m4 z fa)];exact s.e.fh _ _ z,by simp [s.e.len],fun j q ej=> ?_,fun j z ej=> ?_,fun j k z1 z2 c' hjk e1 e2 e3 e4=> ?_⟩,fun j z c' e1 e2=> ?_⟩
 ·rw [List.getElem?_set] at ej
  by_cases hij:i=j
  ·subst hij
   rw [if_pos rfl,if_pos hi] at ej
   cases ej
   exact⟨.ref a,ea,r fa⟩
  ·rw [if_neg hij] at ej
   obtain⟨v,h1,rr⟩:=s.e.at_ j q ej
   refine⟨v,h1, ?_⟩
   cases q with
   |val p=>exact rr
   |bo z=>exact absurd ej (s.e.nb j z)
   |ow z=>
    have key:∀b,v= .ref b->b≠a:=fun b hb hab=>by subst hab;subst hb;exact s.e.ap i j c z b hij e ej ea h1
    cases z with
    |lst z=>
     obtain⟨b,zs,rfl,fb,hb,rz⟩:=rr
     exact⟨b,zs,rfl,fb,by rw [l7 (key b rfl)];exact hb,rz⟩
    |dct z=>
     obtain⟨b,zs,rfl,fb,hb,rz⟩:=rr
     exact⟨b,zs,rfl,fb,by rw [l7 (key b rfl)];exact hb,rz⟩
    |txt z=>
     obtain⟨b,zs,rfl,fb,hb,rz⟩:=rr
     exact⟨b,zs,rfl,fb,by rw [l7 (key b rfl)];exact hb,rz⟩
 ·rw [List.getElem?_set] at ej
  by_cases hij:i=j
  ·subst hij;rw [if_pos rfl,if_pos hi] at ej;cases ej
  ·rw [if_neg hij] at ej;exact s.e.nb j z ej
 ·have own_at:∀(j:Nat) (z:a3r),(ρ.set i (some (f6.ow d)))[j]?=some (some (f6.ow z))->∃z':a3r,ρ[j]?=some (some (f6.ow z')):=fun j z h=>by
   rw [List.getElem?_set] at h
   by_cases hij:i=j
   ·subst hij;exact⟨c,e⟩
   ·rw [if_neg hij] at h;exact⟨z,h⟩
  obtain⟨y1,h1⟩:=own_at j z1 e1
  obtain⟨y2,h2⟩:=own_at k z2 e2
  exact s.e.ap j k y1 y2 c' hjk h1 h2 e3 e4
 ·rw [List.getElem?_set] at e1
  by_cases hij:i=j
  ·subst hij;rw [ea] at e2;cases e2;exact na
  ·rw [if_neg hij] at e1;exact s.nw j z c' e1 e2
theorem SOk.put{K:AE}{F0 H0 F H:Hp}{σ:L2.St}{ρ:g0}{i:Nat}{ps qs:List PV}{a:AB}{ys:List V}(s:SOk K F0 H0 F H σ ρ)(e:ρ[i]?=some (some (.own ps)))(ea:σ[i]?=some (some (.ref a)))(r:p4 K F qs ys):
 SOk K F0 H0 F (upd H a (.lst ys)) σ (ρ.set i (some (.own qs))):=s.putC e ea fun fa=>⟨a,ys,rfl,fa,w4,r⟩
def A1(i:Nat)(m:M):MS:=fun ρ=>(m ρ).bind fun r=>r.toVal.bind fun p=>match ρ[i]? with
 |some (some (.ow (.lst ps)))=>if ps.length<AU then some (.nx (ρ.set i (some (.own (ps++[p]))))) else none
 |_=>none
theorem C0(i:Nat){x:Str}{p apos cpos pos:Pos}{e:AF}{m:M}(hx:PE X (.Name x p) (b3D i))(ha:EE X e m)
 (hbase:attributeBase (.Name x p) "append" X.env (eval (.Name x p) X.env)=eval (.Name x p) X.env:=by rfl)
 (hfew:((backTo cpos (AM [e] X.env)).all (fun x=> !x.1)&&(backToKw cpos (keywordEach [] X.env)).all (fun x=>x.1.isSome)
  && decide ([e].length+([]:List Keyword).length+(if([]:List Keyword).isEmpty then 0 else 1)<30))=true:=by rfl)
 (hline:(apos.endLine==cpos.line)=true:=by rfl) (hs:AM [e] X.env=(false,eval e X.env)::AM [] X.env:=by rfl) (hplain:(backTo cpos (AM [] X.env)).any (·.1)=false:=by rfl)
 (hsw:swapsWith (.Call (.Attribute (.Name x p) "append" apos) [e] [] cpos) none pos.line X.env=pure false:=by rfl):
 ES X (.Expr (.Call (.Attribute (.Name x p) "append" apos) [e] [] cpos) pos) (A1 i m):=
 L5 (b19 (b3h PySem.F.plainAttrs_list PySem.F.slot_list_append PySem.F.type_list_append b01 hx (J7 ha a0K hs) hbase hfew hline hs hplain) hsw) fun D σ H ⟨F0,H0,F,ρ,fl,so,e,fin⟩=>by
  obtain⟨r,e1,e⟩:=bind_some e
  obtain⟨q,e2,e⟩:=bind_some e
  split at e
  ·rename_i ps eo
   split at e
   ·rename_i c
    cases e
    obtain⟨v,h1,a,xs,rfl,fa,ha',rl⟩:=so.e.at_ i _ eo
    refine⟨.ref a,h1,.inl ⟨rfl,xs,SqL.of ha'⟩,F,ρ,r,so.e,e1,fun w F1 H1 o=> ?_⟩
    obtain⟨F2,o2⟩:=o.toVal e2
    have so2:=so.ext o2.x
    refine⟨a,xs,w,rfl,rfl,o.x.h _ _ ha',by rw [rl.length];exact c, ?_⟩
    exact fin σ F2 _ o2.x.f (so2.put eo h1 ((p4.mono o2.x.f _ rl).append ⟨w,[],rfl,o2.rep,rfl⟩))
   ·cases e
  ·cases e
def a2d(i:Nat)(g:f6->f6->Option f6)(m:M):MS:=fun ρ=>match ρ[i]? with
 |some (some (.val x))=>(m ρ).bind fun y=>(g (.val x) y).bind fun z=>if z.nb=true then some (.nx (ρ.set i (some z))) else none
 |_=>none
theorem a1n{i:Nat}{x:Str}{e:AF}{m:M}{g:f6->f6->Option f6}{op:Operator}{pos pos':Pos}(hN:X.N.Nodup)(he:EE X e m)(ho:OpM X (inplaceOp op) g)(hi:X.N[i]?=some x:=by rfl)(hx:Loc X.env.scope x:=by exact Or.inl rfl)(hf:X.fn x=true\/X.env.scope.names.lookup x=some .local:=by first|exact .inl rfl|exact .inr rfl|assumption):
 ES X (.AugAssign (.Name x pos') op e pos) (a2d i g m):=
 L5 (c1l hN hi hx he (ti:=rM2 X.K g) ho hf) fun D σ H ⟨F0,H0,F,ρ,fl,so,e,fin⟩=>by
  unfold a2d at e
  split at e
  ·rename_i p ep
   obtain⟨y,e1,e⟩:=bind_some e
   obtain⟨z,e2,e⟩:=bind_some e
   split at e
   ·rename_i c
    cases e
    obtain⟨v,h1,rv⟩:=so.e.at_ i _ ep
    exact⟨v,h1,F,ρ,y,so.e,e1,fun u F1 H1 o=>⟨F1,.val p,y,z,o.x.fh,rv.ext o.x,o.rep,e2,fun t F2 H2 o2=>fin _ F2 H2 (o.x.f.trans o2.x.f) ((so.ext o.x).set o2 c i)⟩⟩
   ·cases e
  ·cases e
theorem V4:OpM X (inplaceOp .Add) (gI fun i j=> .int (i+j)):=b5h b8Z fun _ _ _=>rfl
def a7J(i:Nat)(n:MS):MS:=fun ρ=>match ρ[i]? with
 |some (some (.ow (.lst ps)))=>n (ρ.set i (some (.val (.list ps))))
 |_=>n ρ
theorem SOk.frz{K:AE}{F0 H0 F H:Hp}{σ:L2.St}{ρ:g0}{i:Nat}{ps:List PV}(s:SOk K F0 H0 F H σ ρ)(e:ρ[i]?=some (some (.own ps))):∃F',p5 F F'/\SOk K F0 H0 F' H σ (ρ.set i (some (.val (.list ps)))):=by
 obtain⟨v,h1,a,xs,rfl,fa,ha,rl⟩:=s.e.at_ i _ e
 have na:H0 a=none:=s.nw i _ a e h1
 have hi:i<ρ.length:=(Aw.mp e).1
 have up:p5 F (upd F a (.lst xs)):=a2h fa
 have fh:p5 (upd F a (.lst xs)) H:=fun b o z=>by
  by_cases hb:b=a
  ·subst hb;rw [w4] at z;cases z;exact ha
  ·rw [l7 hb] at z;exact s.e.fh _ _ z
 refine⟨upd F a (.lst xs),up,⟨⟨s.x.f.trans up,s.x.h,fh,fun b o z y t=>by rw [l7 (m4 y na)];exact s.x.nw b o z y t,b7w s.x.nf⟩,⟨fh,by simp [s.e.len],fun j q ej=> ?_,fun j z ej=> ?_,fun j k z1 z2 c hjk e1 e2 e3 e4=> ?_⟩,fun j z c e1 e2=> ?_⟩⟩
 ·rw [List.getElem?_set] at ej
  by_cases hij:i=j
  ·subst hij
   rw [if_pos rfl,if_pos hi] at ej
   cases ej
   exact⟨.ref a,h1,a,xs,rfl,SqL.of w4,p4.mono up _ rl⟩
  ·rw [if_neg hij] at ej
   obtain⟨v,h2,rr⟩:=s.e.at_ j q ej
   refine⟨v,h2, ?_⟩
   cases q with
   |val p=>exact U6.mono up p rr
   |bo z=>exact absurd ej (s.e.nb j z)
   |ow z=>
    have key:∀b,v= .ref b->b≠a:=fun b hb hab=>by subst hab;subst hb;exact s.e.ap i j _ z b hij e ej h1 h2
    cases z with
    |lst z=>
     obtain⟨b,zs,rfl,fb,hb,rz⟩:=rr
     exact⟨b,zs,rfl,by rw [l7 (key b rfl)];exact fb,hb,p4.mono up _ rz⟩
    |dct z=>
     obtain⟨b,zs,rfl,fb,hb,rz⟩:=rr
     exact⟨b,zs,rfl,by rw [l7 (key b rfl)];exact fb,hb,S1.mono up _ rz⟩
    |txt z=>
     obtain⟨b,zs,rfl,fb,hb,rz⟩:=rr
     exact⟨b,zs,rfl,by rw [l7 (key b rfl)];exact fb,hb,S1.mono up _ rz⟩
 ·rw [List.getElem?_set] at ej
  by_cases hij:i=j
  ·subst hij;rw [if_pos rfl,if_pos hi] at ej;cases ej
  ·rw [if_neg hij] at ej;exact s.e.nb j z ej
 ·have own_at:∀(j:Nat) (z:a3r),(ρ.set i (some (f6.val (.list ps))))[j]?=some (some (f6.ow z))->ρ[j]?=some (some (f6.ow z)):=fun j z h=>by
   rw [List.getElem?_set] at h
   by_cases hij:i=j
   ·subst hij;rw [if_pos rfl,if_pos hi] at h;cases h
   ·rw [if_neg hij] at h;exact h
  exact s.e.ap j k z1 z2 c hjk (own_at j z1 e1) (own_at k z2 e2) e3 e4
 ·rw [List.getElem?_set] at e1
  by_cases hij:i=j
  ·subst hij;rw [if_pos rfl,if_pos hi] at e1;cases e1
  ·rw [if_neg hij] at e1;exact s.nw j z c e1 e2
theorem a7C(i:Nat){st:Stmt}{n:MS}(h:ES X st n):ES X st (a7J i n):=L5 h fun D σ H ⟨F0,H0,F,ρ,fl,so,e,fin⟩=>by
 unfold a7J at e
 split at e
 ·rename_i ps eo
  obtain⟨F',s,so'⟩:=so.frz eo
  exact⟨F0,H0,F',_,fl,so',e,fin.later s⟩
 ·exact⟨F0,H0,F,ρ,fl,so,e,fin⟩
end
def i8(P:AK)(w:AJ)(K:AE)(mg:Str->Option AA)(base:Heap)(x:Str)(ps:List Str)(k:Nat)(g:List PV->Option f6):Prop:=
 ∃f fd,a05 P w K mg base CX0 k f fd ps (spP K ps.length g)/\mg x=some (.ref f)/\PySem.W.keepIn K (.ref f)=true/\a39 K fd ps []
theorem b9H{K:AE}{n:Nat}{g g':List PV->Option f6}(h:∀ps r,g' ps=some r->g ps=some r):∀vs H Q E,spP K n g' vs H Q E->spP K n g vs H Q E:=
 fun vs H Q E ⟨F,ps,r,s,rl,hl,e,k⟩=>⟨F,ps,r,s,rl,hl,h _ _ e,k⟩
theorem i8.imp{P:AK}{w:AJ}{K:AE}{mg:Str->Option AA}{base:Heap}{x:Str}{ps:List Str}{k:Nat}{g g':List PV->Option f6}(d:i8 P w K mg base x ps k g)(h:∀qs r,g' qs=some r->g qs=some r):i8 P w K mg base x ps k g':=by
 obtain⟨f,fd,G,r⟩:=d
 exact⟨f,fd,G.imp (b9H h),r⟩
section
variable {X:Cx}
theorem i7{k k':Nat}{ps:List Str}{g:List PV->Option f6}{x:Str}{p pos:Pos}{e:AF}{es:List AF}{m:MA}
 (d:i8 X.prog X.w X.K X.mg X.base x ps k g) (hr:R9 k' X.A) (hk:k<=k') (hg:Gl X x) (hn:∀ρ qs,m ρ=some qs->qs.length=ps.length) (ha:EA X (e::es) m)
 (hdb:(x==("__debug__":Str))=false:=by decide) (he:AM (e::es) X.env=(false,eval e X.env)::AM es X.env:=by rfl) (hpl:(backTo pos (AM es X.env)).any (·.1)=false:=by rfl):
 EE X (.Call (.Name x p) (e::es) [] pos) (k4 g m):=by
 obtain⟨f,fd,G,h1,h2,h3⟩:=d
 exact b8L G (hr.mono hk) hg h1 h2 h3 hn ha hdb he hpl
end
def b3y(K:AE):Sp:=fun vs H Q _=>∃(a:AB) (ns:List Int),vs=[.ref a]/\SqL K H a (ns.map V.int)/\ns.length<=63/\∀H',Q (.bl true) H'
theorem b1c{K:AE}{H:Hp}:∀ns:List Int,p4 K H (ns.map PyData.int) (ns.map V.int)
 |[]=>rfl
 |n::ns=>⟨.int n,_,rfl,rfl,b1c ns⟩
theorem b84{K:AE}{g:List PV->Option f6}(h:∀ns:List Int,ns.length<=63->g [.list (ns.map .int)]=some (.val (.bool true))):∀vs H Q E,b3y K vs H Q E->spP K 1 g vs H Q E:=
 fun vs H Q E ⟨a,ns,e,hs,hl,k⟩=>by
  subst e
  exact⟨H,[.list (ns.map .int)],_,PU.p5.refl H,⟨.ref a,[],rfl,⟨a,_,rfl,hs,b1c ns⟩,rfl⟩,rfl,h ns hl,fun v F' H' o=>by
   have:v= .bl true:=o.rep
   subst this
   exact k H'⟩
def c0F(x y:f6):Option f6:=gIc b1h (fun i j=> .int (i*j)) x y
theorem b7B{X:Cx}:OpM X (binaryOp .Mult) c0F:=b9j
theorem m7(i j:Int):u7 (.val (.int i)) (.val (.int j))=some (.val (.int (i+j))):=Eq.trans rfl rfl
theorem b62{i j:Str}(h:i.length+j.length<=AU):u7 (.val (.str i)) (.val (.str j))=some (.val (.str (i++j))):=by simp [u7,h]
theorem b1x{ps qs:List PV}(h:ps.length+qs.length<=AU):u7 (.own ps) (.own qs)=some (.own (ps++qs)):=by simp [u7,f6.mine,h]
theorem A6(f:Int->Int->PV)(i j:Int):gI f (.val (.int i)) (.val (.int j))=some (.val (f i j)):=Eq.trans rfl rfl
theorem b1y{C:Int->Int->Prop}[∀i j,Decidable (C i j)](f:Int->Int->PV){i j:Int}(h:C i j):gIc C f (.val (.int i)) (.val (.int j))=some (.val (f i j)):=by
 show(if okC C i j=true then some (f6.val (f i j)) else none)=_
 rw [if_pos (a3O.mpr h)]
theorem c0G{i j:Int}(h: -18446744073709551616<i/\i<18446744073709551616):c0F (.val (.int i)) (.val (.int j))=some (.val (.int (i*j))):=b1y _ (.inl (by lia))
theorem z5{f:Int->Int->PV}{i j:Int}(h:0<j):gIc (fun _ j=>0<j) f (.val (.int i)) (.val (.int j))=some (.val (f i j)):=b1y _ h
theorem G8{f:Int->Int->PV}{i j:Int}(h:0<j/\j<1073741824):gIc a1A f (.val (.int i)) (.val (.int j))=some (.val (f i j)):=b1y _ h
theorem b3X{x y:f6}(h:C2 x.rd 50=true/\C2 y.rd 50=true):gEq x y=some (.val (.bool (PyData.eqv x.rd y.rd))):=by simp [gEq,h]
theorem b1B{x y:f6}(h:C2 x.rd 50=true/\C2 y.rd 50=true):gNe x y=some (.val (.bool (!PyData.eqv x.rd y.rd))):=by simp [gNe,h]
theorem U1(ps:List PV):G3 (.val (.list ps))=some (.val (.int ps.length)):=Eq.trans rfl rfl
theorem b2N(ps:List PV):G3 (.val (.tuple ps))=some (.val (.int ps.length)):=Eq.trans rfl rfl
theorem a6H{ps:List PV}{i:Int}{p:PV}(h:L2.atI ps i=some p):m9 (.val (.list ps)) (.val (.int i))=some (.val p):=by simp [m9,f6.rd,a3r.rd,PyData.items?,h]
theorem b4Y{ps:List PV}{i:Int}{p:PV}(h:L2.atI ps i=some p):m9 (.val (.tuple ps)) (.val (.int i))=some (.val p):=by simp [m9,f6.rd,a3r.rd,PyData.items?,h]
theorem b4X{ps:List PV}{i:Int}{p:PV}(h:L2.atI ps i=some p):m9 (.bor ps) (.val (.int i))=some (.val p):=by simp [m9,f6.rd,a3r.rd,PyData.items?,h]
theorem Z9(p:PV)(ps:List PV):m9 (.val (.tuple (p::ps))) (.val (.int 0))=some (.val p):=by
 refine b4Y ?_
 have h:(0:Int)<(((p::ps).length:Nat):Int):=by simp only [AV];lia
 unfold L2.atI L2.ixN
 rw [if_pos (by decide),if_pos h]
 rfl
theorem v9(p q:PV)(ps:List PV):m9 (.val (.tuple (p::q::ps))) (.val (.int 1))=some (.val q):=by
 refine b4Y ?_
 have h:(1:Int)<(((p::q::ps).length:Nat):Int):=by simp only [AV];lia
 unfold L2.atI L2.ixN
 rw [if_pos (by decide),if_pos h]
 rfl
theorem d6(g:f6->f6->Option f6)(ma mb:M)(ρ:g0):m2 g ma mb ρ=(ma ρ).bind fun x=>(mb ρ).bind fun y=>g x y:=Eq.trans rfl rfl
theorem m6(g:f6->Option f6)(ma:M)(ρ:g0):m1 g ma ρ=(ma ρ).bind g:=Eq.trans rfl rfl
theorem d4(p:PV)(ρ:g0):mC p ρ=some (.val p):=Eq.trans rfl rfl
theorem c7(p:PV)(ρ:g0):b7 0 (some (.val p)::ρ)=some (.val p):=Eq.trans rfl rfl
theorem a1M(p:List PV)(ρ:g0):b7 0 (some (.own p)::ρ)=some (.bor p):=Eq.trans rfl rfl
theorem e7(n:Nat)(r:Option f6)(ρ:g0):b7 (n+1) (r::ρ)=b7 n ρ:=Eq.trans rfl rfl
theorem d0(ρ:g0):f8 ρ=some []:=Eq.trans rfl rfl
theorem c9(m:M)(r:MA)(ρ:g0):b0 m r ρ=((m ρ).bind f6.toVal).bind fun p=>(r ρ).bind fun ps=>some (p::ps):=Eq.trans rfl rfl
theorem c8(p:PV):(f6.val p).toVal=some p:=Eq.trans rfl rfl
theorem a5B(p:List PV):(f6.own p).toVal=some (.list p):=Eq.trans rfl rfl
theorem z7(m:MA)(ρ:g0):U2 m ρ=(m ρ).bind fun ps=>if ps.length<=AU then some (.val (.tuple ps)) else none:=Eq.trans rfl rfl
theorem A9(m:MA)(ρ:g0):a1s m ρ=(m ρ).bind fun ps=>if ps.length<=AU then some (.own ps) else none:=Eq.trans rfl rfl
theorem e8(g:List PV->Option f6)(m:MA)(ρ:g0):k4 g m ρ=(m ρ).bind g:=Eq.trans rfl rfl
def c0p(i:Nat)(ρ:g0)(r:f6):Option Fl:=if r.nb=true then some (.nx (ρ.set i (some r))) else none
theorem g5(i:Nat)(m:M)(ρ:g0):v0 i m ρ=(m ρ).bind (c0p i ρ):=Eq.trans rfl rfl
theorem j4(i:Nat)(ρ:g0)(p:PV):c0p i ρ (.val p)=some (.nx (ρ.set i (some (.val p)))):=Eq.trans rfl rfl
theorem W7(i:Nat)(ρ:g0)(p:List PV):c0p i ρ (.own p)=some (.nx (ρ.set i (some (.own p)))):=Eq.trans rfl rfl
def c2l(r:f6):Option Fl:=if r.nb=true then some (.rt r) else none
theorem i3(m:M)(ρ:g0):t6 m ρ=(m ρ).bind c2l:=Eq.trans rfl rfl
theorem j7(p:PV):c2l (.val p)=some (.rt (.val p)):=Eq.trans rfl rfl
def c1q(n:MS):Fl->Option Fl
 | .nx ρ=>n ρ
 |f=>some f
theorem d7(m n:MS)(ρ:g0):l6 m n ρ=(m ρ).bind (c1q n):=Eq.trans rfl rfl
theorem g7(n:MS)(ρ:g0):c1q n (.nx ρ)=n ρ:=Eq.trans rfl rfl
theorem o0(n:MS)(r:f6):c1q n (.rt r)=some (.rt r):=Eq.trans rfl rfl
def ifK(m n:MS)(ρ:g0)(b:Bool):Option Fl:=if b=true then m ρ else n ρ
theorem d8(c:MT)(m n:MS)(ρ:g0):A2 c m n ρ=(c ρ).bind (ifK m n ρ):=Eq.trans rfl rfl
theorem p9(m n:MS)(ρ:g0):ifK m n ρ true=m ρ:=Eq.trans rfl rfl
theorem n5(m n:MS)(ρ:g0):ifK m n ρ false=n ρ:=Eq.trans rfl rfl
theorem i4(ρ:g0):u5 ρ=some (.nx ρ):=Eq.trans rfl rfl
def c2m:Fl->Option f6
 | .rt r=>some r
 | .nx _=>some (.val .none)
 |_=>none
theorem g6(n:Nat)(b:MS)(ps:List PV):k9 n b ps=(b (ps.map (fun p=>some (f6.val p))++Ab n none)).bind c2m:=Eq.trans rfl rfl
theorem i5(r:f6):c2m (.rt r)=some r:=Eq.trans rfl rfl
theorem n8(m:M)(ρ:g0):mtV m ρ=(m ρ).bind tru:=Eq.trans rfl rfl
theorem f7(m:M)(ρ:g0):K5 m ρ=(m ρ).bind a9Z:=Eq.trans rfl rfl
theorem h9(b:Bool):a9Z (.val (.bool b))=some b:=Eq.trans rfl rfl
theorem B1(b:Bool):tru (.val (.bool b))=some b:=Eq.trans rfl rfl
theorem j3(c:MT)(ρ:g0):N4 c ρ=(c ρ).map not:=Eq.trans rfl rfl
def orK(d:MT)(ρ:g0)(b:Bool):Option Bool:=if b=true then some true else d ρ
def c0o(d:MT)(ρ:g0)(b:Bool):Option Bool:=if b=true then d ρ else some false
theorem m8(c d:MT)(ρ:g0):a1g c d ρ=(c ρ).bind (orK d ρ):=Eq.trans rfl rfl
theorem v7(c d:MT)(ρ:g0):a4g c d ρ=(c ρ).bind (c0o d ρ):=Eq.trans rfl rfl
theorem a4i(d:MT)(ρ:g0):orK d ρ true=some true:=Eq.trans rfl rfl
theorem J9(d:MT)(ρ:g0):orK d ρ false=d ρ:=Eq.trans rfl rfl
theorem a0B(d:MT)(ρ:g0):c0o d ρ true=d ρ:=Eq.trans rfl rfl
theorem a4t(d:MT)(ρ:g0):c0o d ρ false=some false:=Eq.trans rfl rfl
def c1N(n:M)(ρ:g0)(r:f6):Option f6:=(a9Z r).bind fun b=>if b=true then n ρ else some (.val (.bool false))
def c16(r:f6):Option f6:=(a9Z r).bind fun b=>some (.val (.bool (!b)))
theorem a9s(m n:M)(ρ:g0):b0n m n ρ=(m ρ).bind (c1N n ρ):=Eq.trans rfl rfl
theorem b7r(m:M)(ρ:g0):c0U m ρ=(m ρ).bind c16:=Eq.trans rfl rfl
theorem b3R(n:M)(ρ:g0):c1N n ρ (.val (.bool true))=n ρ:=Eq.trans rfl rfl
theorem c0V(b:Bool):c16 (.val (.bool b))=some (.val (.bool (!b))):=Eq.trans rfl rfl
def c15:f6->Option f6
 | .val (.int i)=>some (.val (.int (-i)))
 |_=>none
theorem b20(m:M)(ρ:g0):b7q m ρ=(m ρ).bind c15:=Eq.trans rfl rfl
theorem b7v(i:Int):c15 (.val (.int i))=some (.val (.int (-i))):=Eq.trans rfl rfl
theorem b65(T:String)(p:PV):a1I T (.val p)=bif isFn p then none else some (.val (.bool (a6f T p))):=Eq.trans rfl rfl
theorem b7g(i:Int):isFn (.int i)=false:=Eq.trans rfl rfl
theorem c1P{α:Type}(a b:α):(bif false then a else b)=b:=Eq.trans rfl rfl
theorem b4s(p:PV):(f6.val p).rd=p:=Eq.trans rfl rfl
def c2y(is:List Nat)(ρ:g0):f6->Option Fl
 | .val (.tuple ps)=>if ps.length=is.length then some (.nx (setAll ρ is (ps.map .val))) else none
 |_=>none
theorem b21(is:List Nat)(m:M)(ρ:g0):b87 is m ρ=(m ρ).bind (c2y is ρ):=Eq.trans rfl rfl
theorem b8o(i j:Nat)(ρ:g0)(p q:PV):c2y [i,j] ρ (.val (.tuple [p,q]))=some (.nx ((ρ.set i (some (.val p))).set j (some (.val q)))):=Eq.trans rfl rfl
theorem z6(it:MI)(tg:PV->g0->Option g0)(body:MS)(ρ:g0):a1r it tg body ρ=(it ρ).bind fun ps=>M4 body tg ps ρ:=Eq.trans rfl rfl
def b99:List PV->Option (List PV)
 |[.int j]=>if inR j=true then some (a1N 0 j) else none
 |_=>none
theorem Y2(m:MA)(ρ:g0):a1z m ρ=(m ρ).bind b99:=Eq.trans rfl rfl
theorem a2C{j:Int}(h: -4611686018427387904<=j/\j<4611686018427387904):b99 [.int j]=some (a1N 0 j):=by
 show(if inR j=true then some (a1N 0 j) else none)=_
 rw [if_pos (b1H.mpr (by lia))]
theorem a4G(i j:Int):gNe (.val (.int i)) (.val (.int j))=some (.val (.bool (!(i==j)))):=Eq.trans rfl rfl
theorem P0(i j:Int):gEq (.val (.int i)) (.val (.int j))=some (.val (.bool (i==j))):=Eq.trans rfl rfl
theorem S8{p:PV}(h:C2 p 50=true):gNe (.val p) (.val p)=some (.val (.bool false)):=by
 rw [b1B (x:= .val p) (y:= .val p) ⟨h,h⟩,b4s,b2J p 50 h]
 rfl
theorem sz(n:Nat):(n<=AU)=(n<=16777216):=by rw [sizeLine_eq]
end PU
namespace L2
open PySem PySem.Spec PyProof.Rows
theorem Q0:∀(names:List (Str×NameKind)) (n:Nat) (acc:List (Str×AB)),cellsFrom n names acc=cellsFrom n names []++acc
 |[],_,_=>rfl
 |(x,k)::r,n,acc=>by
  unfold cellsFrom
  split
  ·rw [Q0 r (n+1) ((x,n)::acc),Q0 r (n+1) [(x,n)],List.append_assoc];rfl
  ·exact Q0 r n acc
theorem Z6:∀{names:List (Str×NameKind)} {n:Nat} {x:Str} {c:AB},(x,c)∈cellsFrom n names []->n<=c/\(x,NameKind.cell)∈names
 |[],_,_,_,h=>nomatch h
 |(y,k)::r,n,x,c,h=>by
  unfold cellsFrom at h
  split at h
  ·rename_i hk
   rw [Q0] at h
   rcases Av.mp h with h|h
   ·obtain⟨a,b⟩:=Z6 h
    exact⟨by lia,Ak _ b⟩
   ·have e:(x,c)=(y,n):=by simpa using h
    cases e
    have:k= .cell:=by simpa using hk
    subst this
    exact⟨AZ _,Al⟩
  ·obtain⟨a,b⟩:=Z6 h
   exact⟨a,Ak _ b⟩
theorem a9q{α:Type}:∀{l:List (Str×α)} {x:Str},(∀c,(x,c)∉l)->l.lookup x=none:=fun {l x} h=>by
 cases e:l.lookup x with
 |none=>rfl
 |some c=>exact absurd (PySem.mem_of_lookup e) (h c)
theorem a5T{α:Type}:∀{l r:List (Str×α)} {x:Str},l.lookup x=none->(l++r).lookup x=r.lookup x
 |[],_,_,_=>rfl
 |(y,v)::l,r,x,h=>by
  rw [AN,List.lookup_cons]
  rw [List.lookup_cons] at h
  cases e:x==y with
  |true=>rw [e] at h;cases h
  |false=>rw [e] at h;exact a5T h
def a1y(cells:List (Str×AB)):List (Str×NameKind)->List (Str×AB)->List (Str×AB)
 |[],acc=>acc
 |(x,k)::r,acc=>if k== .free then a1y cells r ((x,(cells.lookup x).getD 0)::acc) else a1y cells r acc
theorem a7y{cells:List (Str×AB)}:∀{names:List (Str×NameKind)} {acc:List (Str×AB)} {x:Str} {c:AB},(x,c)∈a1y cells names acc->(x,c)∈acc\/((x,NameKind.free)∈names/\c=(cells.lookup x).getD 0)
 |[],_,_,_,h=> .inl h
 |(y,k)::r,acc,x,c,h=>by
  unfold a1y at h
  split at h
  ·rename_i hk
   rcases a7y h with h|⟨h1,h2⟩
   ·rcases Am.mp h with e|h
    ·cases e
     have:k= .free:=by simpa using hk
     subst this
     exact .inr ⟨Al,rfl⟩
    ·exact .inl h
   ·exact .inr ⟨Ak _ h1,h2⟩
  ·rcases a7y h with h|⟨h1,h2⟩
   ·exact .inl h
   ·exact .inr ⟨Ak _ h1,h2⟩
theorem a4w{cells:List (Str×AB)}:∀{names:List (Str×NameKind)} {acc:List (Str×AB)} {x:Str},x∉names.map (·.1)->(a1y cells names acc).lookup x=acc.lookup x
 |[],_,_,_=>rfl
 |(y,k)::r,acc,x,h=>by
  have h':¬(x=y)/\x∉r.map (·.1):=by simpa using h
  unfold a1y
  split
  ·rw [a4w h'.2,List.lookup_cons]
   have e:(x==y)=false:=by simpa using h'.1
   rw [e]
  ·exact a4w h'.2
theorem a3F{cells:List (Str×AB)}:∀{names:List (Str×NameKind)} {acc:List (Str×AB)} {x:Str},(names.map (·.1)).Nodup->names.lookup x=some .free->(a1y cells names acc).lookup x=some ((cells.lookup x).getD 0)
 |[],_,_,_,h=>by cases h
 |(y,k)::r,acc,x,nd,h=>by
  have nd':y∉r.map (·.1)/\(r.map (·.1)).Nodup:=List.nodup_cons.mp nd
  rw [List.lookup_cons] at h
  unfold a1y
  cases e:x==y with
  |true=>
   rw [e] at h
   have hk:k= .free:=by simpa using h
   subst hk
   have exy:x=y:=by simpa using e
   subst exy
   rw [if_pos (show(NameKind.free==NameKind.free)=true from rfl),a4w nd'.1,List.lookup_cons,e]
  |false=>
   rw [e] at h
   split
   ·exact a3F nd'.2 h
   ·exact a3F nd'.2 h
theorem a2L{env:Env}(f:Str×NameKind->List (Str×AB)->Sem (ForInStep (List (Str×AB))))(hf:∀x k cs,f (x,k) cs=if k== .free then(do let c<-cellOf env x;pure (.yield ((x,c)::cs))) else pure (.yield cs)):
 ∀(names:List (Str×NameKind)) (acc:List (Str×AB)),(∀x∈names,x.2= .free->(env.cells.lookup x.1).isSome=true)->forIn names acc f=pure (a1y env.cells names acc)
 |[],acc,_=>rfl
 |(x,k)::r,acc,h=>by
  rw [List.forIn_cons,hf]
  unfold a1y
  have hr:=fun y hy=>h y (Ak _ hy)
  split
  ·rename_i hk
   have:=h (x,k) Al (by simpa using hk)
   obtain⟨c,hc⟩:=Option.isSome_iff_exists.mp this
   unfold cellOf
   rw [hc]
   show forIn r ((x,c)::acc) f=_
   exact a2L f hf r _ hr
  ·exact a2L f hf r acc hr
theorem b0l{scope:Scope}{env:Env}(h:∀x∈scope.names,x.2= .free->(env.cells.lookup x.1).isSome=true):closureFor scope env=pure (a1y env.cells scope.names []):=by
 unfold closureFor
 have e:=a2L (env:=env) (fun(x:Str×NameKind) (cs:List (Str×AB))=>if x.2== .free then(do let c<-cellOf env x.1;pure (.yield ((x.1,c)::cs))) else pure (.yield cs)) (fun _ _ _=>rfl) scope.names [] h
 show(forIn scope.names [] _>>=fun r=>pure r)=_
 refine Eq.trans (congrArg (· >>=fun r=>pure r) (Eq.trans (congrArg (forIn scope.names []) ?_) e)) rfl
 funext x cs
 cases x with
 |mk n k=>cases k<;>rfl
theorem a40{env:Env}{x:Str}:∀{names:List (Str×NameKind)},(names.map fun(p:Str×NameKind)=>if(p.2==NameKind.free && env.scope.kind== .function && env.kindOf p.1==some .cell) then(p.1,NameKind.cell) else(p.1,p.2)).lookup x
 =(names.lookup x).map fun k=>if(k==NameKind.free && env.scope.kind== .function && env.kindOf x==some .cell) then NameKind.cell else k
 |[]=>rfl
 |(n,k)::r=>by
  rw [AH]
  have ih:= @a40 env x r
  show List.lookup x ((if(k==NameKind.free && env.scope.kind== .function && env.kindOf n==some .cell)=true then(n,NameKind.cell) else(n,k))::_)=_
  cases hx:x==n with
  |true=>
   have e:x=n:=by simpa using hx
   subst e
   by_cases c:(k==NameKind.free && env.scope.kind== .function && env.kindOf x==some .cell)=true
   ·rw [if_pos c,List.lookup_cons,hx,List.lookup_cons,hx];exact congrArg some (if_pos c).symm
   ·rw [if_neg c,List.lookup_cons,hx,List.lookup_cons,hx];exact congrArg some (if_neg c).symm
  |false=>
   by_cases c:(k==NameKind.free && env.scope.kind== .function && env.kindOf n==some .cell)=true
   ·rw [if_pos c,List.lookup_cons,hx,List.lookup_cons,hx];exact ih
   ·rw [if_neg c,List.lookup_cons,hx,List.lookup_cons,hx];exact ih
def X9(scope:Scope)(C:AB)(env:Env):Env:=
 {scope:=relabel scope env,locals:=C,globals:=env.globals,cells:=cellsFrom (C+1) scope.names (a1y env.cells scope.names []),qual:=env.qual,func:=none,code:=env.code,frame:=env.frame,builtins:=env.builtins}
def hid(ys:List Str)(x:Str):Str:=if ys.contains x=true then AY "0"++x else x
def a10(X:Cx)(N0:List Str)(scope:Scope)(ys:List Str)(C:AB)(fp:List AB)(pins:List (AB×Obj))(s₃:AC)(H₃:Hp):Cx:=
 {X with N:=N0++ys,s₀:=s₃,H₀:=H₃,env:=X9 scope C X.env,outer:=X.stack,ex:=fp,fn:=fun x=>scope.names.lookup x==some .cell,pn:=X.pn++pins}
theorem a11{scope:Scope}{C:AB}{env:Env}{x:Str}:(X9 scope C env).kindOf x=(scope.names.lookup x).map fun k=>if(k==NameKind.free && env.scope.kind== .function && env.kindOf x==some .cell) then NameKind.cell else k:=
 a40
structure a26(N N0 ys:List Str)(env:Env)(scope:Scope):Prop where
 eq:N0=N.map (hid ys)
 kind:scope.kind= .function
 nd:(scope.names.map (·.1)).Nodup
 fr:∀x∈scope.names,x.2= .free->env.kindOf x.1=some .cell\/env.kindOf x.1=some .free
 ou:∀x∈N,(ys.contains x=true->scope.names.lookup (hid ys x)=none)/\(ys.contains x=false->scope.names.lookup x=none\/scope.names.lookup x=some .free\/scope.names.lookup x=some .globalImplicit)
theorem N3{α:Type}:∀{l:List (Str×α)} {x:Str} {v:α},(l.map (·.1)).Nodup->(x,v)∈l->l.lookup x=some v
 |[],_,_,_,h=>nomatch h
 |(y,w)::r,x,v,nd,h=>by
  have nd':y∉r.map (·.1)/\(r.map (·.1)).Nodup:=List.nodup_cons.mp nd
  rw [List.lookup_cons]
  rcases Am.mp h with e|h
  ·cases e;simp
  ·have:x≠y:=fun e=>nd'.1 (by rw [<-e];exact Au.mpr ⟨_,h,rfl⟩)
   have e:(x==y)=false:=by simpa using this
   rw [e]
   exact N3 nd'.2 h
section
variable {M:Model}{A:AL}{E:AA->AC->Prop}{s:AC}
theorem a5K{scope:Scope}{globals:AB}{cl:List (Str×AB)}{qual:Str}{env:Env}{builtins:AB}{Q:Env->AC->Prop}
 (h:Q (newEnv scope s.heap.objs.size globals (cellsFrom (s.heap.objs.size+1) scope.names cl) qual none .none (some env) builtins) {s with heap:=pushCells (s.heap.push {cls:= .type "dict",data:= .dict #[]}) scope.names}):
 AI M A (newFunctionEnv scope globals cl [] qual none .none (some env) builtins) Q E s:=by
 simp only [newFunctionEnv,Option.isSome_some,if_true]
 refine AG (wpAny_alloc ?_)
 refine AG (wpAny_layCells _ (fun name kind cells=>by cases hkc:kind==NameKind.cell<;>simp [hkc]) _ _ _ _ ?_)
 rw [show({s with heap:=s.heap.push {cls:= .type "dict",data:= .dict #[]}}:AC).heap.objs.size=s.heap.objs.size+1 from Heap.size_push ..]
 exact AG (Aa (Aa h))
end
section
variable {prog:AK}{w:AJ}{A:AL}{R:Result->AC->Prop}{s:AC}
theorem a5G{elt target iter:AF}{ifs:List AF}{scope:Scope}{pos:Pos}{it acc:AA}{env:Env}(I:Nat->AC->Prop)
 (turn:∀n s,I n s->AI (model prog w) A (pyNext it) (fun r s₁=>match r with
  |none=>R (.ok .next) s₁
  |some v=>AI (model prog w) A (letOwnedTupleGo target it v) (fun _ s₁'=>AI (model prog w) A (assign target env v) (fun _ s₂=>
   AI (model prog w) A (forIn ifs true fun c r=>if r=true then do let ok<-isTrue c env (eval c env);pure (ForInStep.yield ok) else pure (ForInStep.yield r)) (fun ok s₃=>
    if ok=true then AI (model prog w) A (eval elt env) (fun x s₄=>
     AI (model prog w) A (call (.builtin "list.append") [acc,x]) (fun _ s₅=>∃m,m<n/\I m s₅) (fun _ _=>False) s₄) (fun _ _=>False) s₃
    else ∃m,m<n/\I m s₃) (fun _ _=>False) s₂) (fun _ _=>False) s₁') (fun _ _=>False) s₁) (fun _ _=>False) s)
 (n:Nat) (h:I n s):
 codeAny (model prog w) A (.compLoop (.ListComp elt [⟨target,iter,ifs,0⟩] scope pos) 0 it acc env) R s:=by
 refine codeAny_loop rfl I (fun n s hI=> ?_) n h
 show AI _ A ((compTurn (.ListComp elt [⟨target,iter,ifs,0⟩] scope pos) 0 it acc env).onRaise (fun x=>do noteFrame x env;theTreesLotGoes x)) _ _ s
 refine wpAny_noted ?_
 rw [compTurn_list]
 refine AG (wpAny_standAt (AG (wpAny_mono (turn n s hI) (fun r s₁ h₁=> ?_) fun _ _ h'=>h'.elim)))
 cases r with
 |none=>exact Aa h₁
 |some v=>
  refine AG (wpAny_mono h₁ (fun _ s₁' h₁'=> ?_) fun _ _ h'=>h'.elim)
  refine AG (wpAny_mono h₁' (fun _ s₂ h₂=>AG (wpAny_mono h₂ (fun ok s₃ h₃=> ?_) fun _ _ h'=>h'.elim)) fun _ _ h'=>h'.elim)
  cases ok with
  |false=>exact Aa ⟨rfl,h₃⟩
  |true=>
   exact AG (AG (wpAny_mono h₃ (fun x s₄ h₄=>AG (wpAny_mono h₄ (fun _ s₅ h₅=>Aa (Aa ⟨rfl,h₅⟩)) fun _ _ h'=>h'.elim)) fun _ _ h'=>h'.elim))
end
def PCs(X:Cx)(ifs:List AF)(t:TT):Prop:=
 ∀(pins:List (AB×Obj)) (s:AC) (σ:St) (H:Hp) (Q:Bool->Hp->Prop),l8 X pins σ H s->t σ H Q->
  AI (model X.prog X.w) X.A (forIn ifs true fun c r=>if r=true then do let ok<-isTrue c X.env (eval c X.env);pure (ForInStep.yield ok) else pure (ForInStep.yield r)) (TP X pins σ Q) X.xe s
def c2v:TT:=fun _ H Q=>Q true H
theorem b9k{X:Cx}:PCs X [] c2v:=fun pins s σ H Q I h=>wpAny_tests_nil ⟨H,I,h⟩
def b8h(wi:TI)(g:TG)(tc:TT)(te:TE)(k:Nat):TE:=fun σ H Q=>wi σ H fun J H1=>∀D,H1 D=none->∃W:Nat->Nat->List V->Hp->Prop,(∃m,W 0 m [] (upd H1 D (.lst [])))/\∀i m xs H2,W i m xs H2->H2 D=some (.lst xs)->
 (J.stop i H2/\Q (.ref D) H2)\/(J.go i H2/\∀x H3,J.yld i H2 x H3->g x (σ++Ab k none) H3 fun σ4 H4=>(∀(j:Nat) v,(σ++Ab k none)[j]?=some (some v)->σ4[j]?=some (some v))/\tc σ4 H4 fun b H5=>if b=true then te σ4 H5 fun v H6=>H6 D=some (.lst xs)/\xs.length<AU/\∃m',m'<m/\W (i+1) m' (xs++[v]) (upd H6 D (.lst (xs++[v])))
  else H5 D=some (.lst xs)/\∃m',m'<m/\W (i+1) m' xs H5)
section
variable {X:Cx}{elt iter tg:AF}{ifs:List AF}{scope:Scope}{N0 ys:List Str}{wi:TI}{g:TG}{tc:TT}{te:TE}{pos:Pos}
theorem a3L{pins:List (AB×Obj)}{σ:St}{H:Hp}{s:AC}(I:l8 X pins σ H s)(S:a26 X.N N0 ys X.env scope){x:Str}(h:(x,NameKind.free)∈scope.names):∃c,X.env.cells.lookup x=some c:=I.ok.has x (S.fr _ h rfl)
theorem b3T{pins:List (AB×Obj)}{σ:St}{H:Hp}{s:AC}{fp:List AB}(S:a26 X.N N0 ys X.env scope)(I:l8 X pins σ H s)(hf:∀b∈fp,a7r X pins H b)(ho:∀b∈fp,∃o,s.heap.get? b=some o/\∀v,o.data≠.cell v):
 l8 (a10 X N0 scope ys s.heap.objs.size fp pins s H) [] (σ++Ab ys.length none) H {s with heap:=pushCells (s.heap.push {cls:= .type "dict",data:= .dict #[]}) scope.names}:=by
 have up:∀b o,s.heap.get? b=some o->(pushCells (s.heap.push {cls:= .type "dict",data:= .dict #[]}) scope.names).get? b=some o:=fun b o e=>pushCells_keeps _ _ b o (An _ e)
 have okc:=cellsFrom_ok scope.names (s.heap.push {cls:= .type "dict",data:= .dict #[]}) (s.heap.objs.size+1) [] ⟨fun _ _ hm=>(nomatch hm),List.Pairwise.nil⟩ (by rw [Heap.size_push];exact AZ _)
 rw [Heap.size_push] at okc
 have cel:∀x c,(X9 scope s.heap.objs.size X.env).cells.lookup x=some c->((x,c)∈cellsFrom (s.heap.objs.size+1) scope.names []/\(x,NameKind.cell)∈scope.names/\s.heap.objs.size<c)\/(X.env.cells.lookup x=some c/\(x,NameKind.free)∈scope.names):=fun x c e=>by
  have m:=PySem.mem_of_lookup e
  have m:(x,c)∈cellsFrom (s.heap.objs.size+1) scope.names (a1y X.env.cells scope.names []):=m
  rw [Q0] at m
  rcases Av.mp m with m|m
  ·obtain⟨h1,h2⟩:=Z6 m
   exact .inl ⟨m,h2,h1⟩
  ·rcases a7y m with m|⟨m,e⟩
   ·exact nomatch m
   ·obtain⟨c',hc'⟩:=a3L I S m
    rw [hc'] at e
    exact .inr ⟨by rw [hc',e];rfl,m⟩
 have celLt:∀x c,X.env.cells.lookup x=some c->c<s.heap.objs.size:=fun x c e=>let ⟨_,h⟩:=I.cell x c e;h.lt
 have fpLt:∀b∈fp,b<s.heap.objs.size:=fun b hb=>let ⟨_,e,_⟩:=ho b hb;Ag e
 have cellNo:∀x,(x,NameKind.cell)∉scope.names->(cellsFrom (s.heap.objs.size+1) scope.names []).lookup x=none:=fun x hx=>a9q fun c m=>hx (Z6 m).2
 have look:∀x,(x,NameKind.free)∈scope.names->(X9 scope s.heap.objs.size X.env).cells.lookup x=X.env.cells.lookup x:=fun x m=>by
  have hl:=N3 S.nd m
  have hn:(x,NameKind.cell)∉scope.names:=fun z=>by
   have:=N3 S.nd z
   rw [hl] at this;cases this
  show(cellsFrom (s.heap.objs.size+1) scope.names (a1y X.env.cells scope.names [])).lookup x=_
  rw [Q0,a5T (cellNo x hn),a3F S.nd hl]
  obtain⟨c,hc⟩:=a3L I S m
  rw [hc];rfl
 have kindF:∀x,scope.names.lookup x=some .free->X.env.kindOf x=some .cell\/X.env.kindOf x=some .free:=fun x h=>S.fr _ (PySem.mem_of_lookup h) rfl
 refine⟨⟨I.mod,S.kind,I.ok.glob,I.ok.blt,AZ _,fun x y c h1 h2=> ?_,fun x h=> ?_,fun x c h1 h2=> ?_,I.ok.hd,I.ok.frames,.inl rfl,fun b hb=> ?_,I.bs,Nat.le_trans I.ok.bsz I.sz,fun b o e hb=> ?_,fun b hb hz=> ?_,I.stack,I.stkFree⟩,
  rfl,I.bare,Un.kept up,⟨fun _=>none, ?_,fun i x v h1 h2 h3=> ?_⟩,fun x c e=> ?_,I.hok.fresh (AZ _),fun x c e=> ?_,fun p hp=> ?_,I.hok.kept up, ?_⟩
 ·rcases cel x c h1 with⟨a1,b1,c1⟩|⟨a1,b1⟩
  ·rcases cel y c h2 with⟨a2,b2,c2⟩|⟨a2,b2⟩
   ·exact name_of_addr okc.apart a1 a2
   ·exact absurd (Nat.lt_trans c1 (celLt y c a2)) (Nat.lt_irrefl _)
  ·rcases cel y c h2 with⟨a2,b2,c2⟩|⟨a2,b2⟩
   ·exact absurd (Nat.lt_trans c2 (celLt x c a1)) (Nat.lt_irrefl _)
   ·exact I.ok.inj x y c a1 a2
 ·have hk:(X9 scope s.heap.objs.size X.env).kindOf x=some .cell\/(X9 scope s.heap.objs.size X.env).kindOf x=some .free:=h
  rw [a11] at hk
  cases e:scope.names.lookup x with
  |none=>rw [e] at hk;rcases hk with z|z<;>cases z
  |some k=>
   rw [e] at hk
   have hk':k= .cell\/k= .free:=by
    by_cases c:(k==NameKind.free && X.env.scope.kind== .function && X.env.kindOf x==some .cell)=true
    ·have:(k==NameKind.free)=true:=by
      rw [Bool.and_eq_true,Bool.and_eq_true] at c;exact c.1.1
     exact .inr (by simpa using this)
    ·simp only [Ah] at hk
     rw [if_neg c] at hk
     rcases hk with z|z
     ·cases z;exact .inl rfl
     ·cases z;exact .inr rfl
   rcases hk' with rfl|rfl
   ·have q:=PySem.W.cellsFrom_some (x:=x) scope.names (s.heap.objs.size+1) (a1y X.env.cells scope.names []) (.inl e)
    exact Option.isSome_iff_exists.mp q
   ·obtain⟨c,hc⟩:=a3L I S (PySem.mem_of_lookup e)
    exact⟨c,by show(X9 scope s.heap.objs.size X.env).cells.lookup x=_;rw [look x (PySem.mem_of_lookup e)];exact hc⟩
 ·rcases cel x c h2 with⟨_,_,c1⟩|⟨_,b1⟩
  ·exact BF c1
  ·have h1':(scope.names.lookup x==some .cell)=true:=h1
   rw [N3 S.nd b1] at h1'
   cases h1'
 ·refine⟨Ar (fpLt b hb),fun x c e z=> ?_⟩
  rcases cel x c e with⟨_,_,c1⟩|⟨a1,_⟩
  ·rw [z] at c1;exact absurd (Nat.lt_trans c1 (fpLt b hb)) (Nat.lt_irrefl _)
  ·exact(hf b hb).2.2.2.2.1 x c a1 z
 ·have hb:b∈fp:=hb
  rcases(hf b hb).2.2.2.1 with z|z
  ·exact I.ok.noex b o e z
  ·have h1:=(I.ok.bs b o e).1
   have:=Ag h1
   exact absurd (Aq this z) (Nat.lt_irrefl _)
 ·have hb:b∈fp:=hb
  have hz:b∈frs X.stack:=hz
  rcases Am.mp (I.stkSub b hz) with z|z
  ·exact(hf b hb).2.1 z
  ·exact(hf b hb).2.2.1 z
 ·exact(Heap.Ns.new s.heap (.type "dict")).keeps (pushCells_keeps _ _)
 ·have h1:(N0++ys)[i]?=some x:=h1
  rw [S.eq] at h1
  have hi:i<σ.length:=by
   by_cases hi:i<σ.length
   ·exact hi
   ·rw [List.getElem?_append_right (by lia),List.getElem?_replicate] at h2
    split at h2<;>cases h2
  rw [BC hi] at h2
  rw [BC (by rw [Ae,<-I.len];exact hi),BB] at h1
  have hvis:Vis (X9 scope s.heap.objs.size X.env).scope x:=h3
  have hkn:scope.names.lookup x=none->False:=fun z=>by
   have hk:∀k,(X9 scope s.heap.objs.size X.env).kindOf x=some k->scope.names.lookup x≠none:=fun k z e=>by
    rw [a11,e] at z;cases z
   rcases hvis with e|e|e<;>exact absurd z (hk _ e)
  have h1:X.N[i]?=some x/\ys.contains x=false:=by
   cases e0:X.N[i]? with
   |none=>rw [e0] at h1;cases h1
   |some x0=>
    rw [e0] at h1
    have h1:hid ys x0=x:=Option.some.inj h1
    have ho:=S.ou x0 (BD e0)
    cases hc:ys.contains x0 with
    |true=>exact(hkn (by rw [<-h1];exact ho.1 hc)).elim
    |false=>
     have hx:x0=x:=by rw [<-h1];unfold hid;rw [if_neg (by rw [hc];exact Ao)]
     subst hx
     exact⟨rfl,hc⟩
  obtain⟨h1,hys⟩:=h1
  have hfree:scope.names.lookup x=some .free:=by
   have hk:∀k,(X9 scope s.heap.objs.size X.env).kindOf x=some k->scope.names.lookup x≠none:=fun k z e=>by
    rw [a11,e] at z;cases z
   rcases(S.ou x (BD h1)).2 hys with z|z|z
   ·rcases hvis with e|e|e<;>exact absurd z (hk _ e)
   ·exact z
   ·have hg:(X9 scope s.heap.objs.size X.env).kindOf x=some .globalImplicit:=by
     rw [a11,z];rfl
    rcases hvis with e|e|e
    ·have e:(X9 scope s.heap.objs.size X.env).kindOf x=some .local:=e
     rw [hg] at e;cases e
    ·have e:(X9 scope s.heap.objs.size X.env).kindOf x=some .cell:=e
     rw [hg] at e;cases e
    ·have e:(X9 scope s.heap.objs.size X.env).kindOf x=some .free:=e
     rw [hg] at e;cases e
  obtain⟨m,hn,hl⟩:=I.loc
  have hv:Vis X.env.scope x:=by
   rcases kindF x hfree with z|z
   ·exact .inr (.inl z)
   ·exact .inr (.inr z)
  obtain⟨u,r,l⟩:=hl i x v h1 h2 hv
  refine⟨u,r, ?_⟩
  rcases l with⟨k,_⟩|⟨k,c,e,z⟩
  ·rcases kindF x hfree with q|q<;>rw [q] at k<;>cases k
  ·refine .inr ⟨?_,c,by show(X9 scope s.heap.objs.size X.env).cells.lookup x=_;rw [look x (PySem.mem_of_lookup hfree)];exact e,z.keeps up⟩
   show(X9 scope s.heap.objs.size X.env).kindOf x=some .cell\/(X9 scope s.heap.objs.size X.env).kindOf x=some .free
   rw [a11,hfree]
   by_cases cc:((NameKind.free==NameKind.free)&& X.env.scope.kind== .function && X.env.kindOf x==some .cell)=true
   ·exact .inl (congrArg some (if_pos cc))
   ·exact .inr (congrArg some (if_neg cc))
 ·rcases cel x c e with⟨a1,_,_⟩|⟨a1,_⟩
  ·exact⟨none,(okc.empty x c a1).1⟩
  ·obtain⟨v,z⟩:=I.cell x c a1
   exact⟨v,z.keeps up⟩
 ·rcases cel x c e with⟨_,_,c1⟩|⟨a1,_⟩
  ·exact I.hok.fresh (BF c1)
  ·exact I.freeC x c a1
 ·have hp:p∈(X.pn++pins)++[]:=hp
  rw [Ad] at hp
  obtain⟨e,n,ne,nf,d⟩:=I.pin p hp
  refine⟨up _ _ e,n,Ar (Ag e),fun hz=> ?_,d⟩
  have hz:p.1∈frs X.stack:=hz
  rcases Am.mp (I.stkSub p.1 hz) with z|z
  ·exact ne z
  ·exact nf z
 ·show(σ++Ab ys.length none).length=(N0++ys).length
  rw [AX,List.length_replicate,AX,S.eq,Ae,I.len]
end
section
variable {X:Cx}{elt iter tg:AF}{ifs:List AF}{scope:Scope}{N0 ys:List Str}{wi:TI}{g:TG}{tc:TT}{te:TE}{pos:Pos}
def b6q(X:Cx)(pins:List (AB×Obj))(C:AB):Prop:=C≠X.env.locals/\X.s₀.heap.objs.size<=C/\(∀x c,X.env.cells.lookup x=some c->c≠C)/\∀p∈X.pn++pins,p.1≠C
theorem b5M{pos':Pos}{use:Option (AA->Sem Unit)}{QQ:AA->AC->Prop}(hx:∀e s,X.xe e s->False)(hc:X.calm=true)(S:a26 X.N N0 ys X.env scope)(hi:PI X tg iter wi)
 (hg:∀C fp pins s H,PG (a10 X N0 scope ys C fp pins s H) tg g) (ht:∀C fp pins s H,PCs (a10 X N0 scope ys C fp pins s H) ifs tc) (he:∀C fp pins s H,PE (a10 X N0 scope ys C fp pins s H) elt te)
 (hs:∀x,foldedSetIterable iter X.env x=pure x) {pins:List (AB×Obj)} {s:AC} {σ:St} {H:Hp} {Q:VK} (I:l8 X pins σ H s) (h:b8h wi g tc te ys.length σ H Q)
 (fin:∀D C s' H' m,l8 X pins σ H' s'->s'.heap.Ns C m->H' C=none->b6q X pins C->Q (.ref D) H'->compPost (model X.prog X.w) X.A X.xe use QQ (.ref D) C (.ok .next) s'):
 AI (model X.prog X.w) X.A (comprehension (.ListComp elt [⟨tg,iter,ifs,0⟩] scope pos) scope X.env pos' (newList []) false (eval iter X.env) use) QQ X.xe s:=by
 have hcl:closureFor scope X.env=pure (a1y X.env.cells scope.names []):=b0l fun x hx' hk=>by
  obtain⟨c,e⟩:=a3L (ys:=ys) I S (x:=x.1) (by rw [<-hk];exact hx')
  rw [e];rfl
 refine wpAny_comprehension_free (use:=use) rfl hs hcl S.kind (fun x hx' hk=>N3 S.nd (by rw [<-hk];exact hx')) (U5 (hi pins s σ H _ I h) fun v s1 h1=>U5 h1 fun itv s2 h2=> ?_)
 obtain⟨it,fp,tn,J,H2,e,I2,T,st2,f2,hW⟩:=h2
 subst e
 have hfr:=I2.hok.fresh (AZ _)
 obtain⟨W,⟨m0,w0⟩,turn⟩:=hW s2.heap.objs.size hfr
 have fpLt:∀b∈fp,b<s2.heap.objs.size:=fun b hb=>let ⟨_,e,_⟩:=T.obj _ _ st2 b hb;Ag e
 refine wpAny_newObj_type ?_
 have I3:l8 X pins σ (upd H2 s2.heap.objs.size (.lst [])) {s2 with heap:=s2.heap.push {cls:= .type "list",data:= .seq ([]:List AA).toArray}}:=
  I2.laid (t':=s2.toks) (fun b o e=>An _ e) (AZ _) ⟨by decide,[],0,.nil,Az _ rfl⟩
 have up3:∀b o,s2.heap.get? b=some o->(s2.heap.push {cls:= .type "list",data:= .seq ([]:List AA).toArray}).get? b=some o:=fun b o e=>An _ e
 have st3:tn 0 (s2.heap.push {cls:= .type "list",data:= .seq ([]:List AA).toArray}):=T.keep _ _ _ st2 fun b _ o e=>up3 b o e
 have f3:∀b∈fp,a7r X pins (upd H2 s2.heap.objs.size (.lst [])) b:=fun b hb=>⟨by rw [l7 (Ar (fpLt b hb))];exact(f2 b hb).1,(f2 b hb).2⟩
 generalize hs3:({s2 with heap:=s2.heap.push {cls:= .type "list",data:= .seq ([]:List AA).toArray}}:AC)=s3 at I3
 have hs3h:s3.heap=s2.heap.push {cls:= .type "list",data:= .seq ([]:List AA).toArray}:=by rw [<-hs3]
 rw [<-hs3h] at st3 up3
 refine a5K ?_
 have I4:=b3T S I3 f3 (T.obj _ _ st3)
 generalize hs4:({s3 with heap:=pushCells (s3.heap.push {cls:= .type "dict",data:= .dict #[]}) scope.names}:AC)=s4 at I4 ⊢
 have hs4h:s4.heap=pushCells (s3.heap.push {cls:= .type "dict",data:= .dict #[]}) scope.names:=by rw [<-hs4]
 have st4:tn 0 s4.heap:=T.keep _ _ _ st3 fun b _ o e=>by rw [hs4h];exact pushCells_keeps _ _ b o (An _ e)
 generalize hX:a10 X N0 scope ys s3.heap.objs.size fp pins s3 (upd H2 s2.heap.objs.size (.lst []))=Y at I4
 have Yp:Y.prog=X.prog:=by rw [<-hX];rfl
 have Yw:Y.w=X.w:=by rw [<-hX];rfl
 have YK:Y.K=X.K:=by rw [<-hX];rfl
 have YA:Y.A=X.A:=by rw [<-hX];rfl
 have Yc:Y.calm=true:=by rw [<-hX];exact hc
 have Yx:Y.xe=X.xe:=by rw [<-hX];rfl
 have YL:Y.env.locals=s3.heap.objs.size:=by rw [<-hX];rfl
 have Yf:Y.fs=frs X.stack:=by rw [<-hX];rfl
 have Ye:Y.ex=fp:=by rw [<-hX];rfl
 have Yn:Y.pn=X.pn++pins:=by rw [<-hX];rfl
 have Ys:Y.s₀=s3:=by rw [<-hX];rfl
 have YH:Y.H₀=upd H2 s2.heap.objs.size (.lst []):=by rw [<-hX];rfl
 have YE:Y.env=X9 scope s3.heap.objs.size X.env:=by rw [<-hX];rfl
 have hgY:PG Y tg g:=by rw [<-hX];exact hg _ _ _ _ _
 have htY:PCs Y ifs tc:=by rw [<-hX];exact ht _ _ _ _ _
 have heY:PE Y elt te:=by rw [<-hX];exact he _ _ _ _ _
 have nlen:(σ++Ab ys.length none).length=Y.N.length:=I4.len
 have exf:=I4.ok.exf
 have exfs:=I4.ok.exfs
 have stat:∀{H':Hp},(∀b∈fp,H' b=none)->∀b∈fp,a7r Y [] H' b:=fun {H'} hn b hb=>by
  have hb':b∈Y.ex:=by rw [Ye];exact hb
  refine⟨hn b hb,(exf b hb').1,exfs b hb',.inl hb',(exf b hb').2,fun p hp=> ?_⟩
  rw [Ad,Yn] at hp
  exact(f2 b hb).2.2.2.2.2 p hp
 have TY:b5F Y.prog Y.w Y.K tg J fp it tn:=by rw [Yp,Yw,YK];exact T
 have noX:∀e s,Y.xe e s->False:=fun e s h=>hx e s (by rw [<-Yx];exact h)
 have loop:∀R:Result->AC->Prop,(∀s' H' m,l8 X pins σ H' s'->s'.heap.Ns s3.heap.objs.size m->H' s3.heap.objs.size=none->b6q X pins s3.heap.objs.size->Q (.ref s2.heap.objs.size) H'->R (.ok .next) s')->
  codeAny (model X.prog X.w) X.A (.compLoop (.ListComp elt [⟨tg,iter,ifs,0⟩] scope pos) 0 (.ref it) (.ref s2.heap.objs.size) (X9 scope s3.heap.objs.size X.env)) R s4:=by
  intro R hR
  refine a5G (fun n s'=>∃i xs H' σ',l8 Y [] σ' H' s'/\(∀(j:Nat) v,(σ++Ab ys.length none)[j]?=some (some v)->σ'[j]?=some (some v))/\tn i s'.heap/\(∀b∈fp,H' b=none)/\H' s2.heap.objs.size=some (.lst xs)/\W i n xs H') ?_ m0
   ⟨0,[],_,_,I4,fun _ _ e=>e,st4,fun b hb=>(f3 b hb).1,w4,w0⟩
  rintro n s5 ⟨i,xs,H5,σ5,I5,k5,st5,fr5,hD5,w5⟩
  have I5:l8 Y [] (σ++Ab ys.length none) H5 s5:=I5.weak (by rw [nlen,I5.len]) k5
  rw [<-Yp,<-Yw,<-YA]
  rcases turn i n xs H5 w5 hD5 with⟨stop,q⟩|⟨go,step⟩
  ·refine wpAny_mono (TY.done Y rfl rfl rfl Yc i [] s5 _ H5 (fun _ _=>False) I5 (stat fr5) st5 stop) (fun r s6 ⟨hr,I6⟩=> ?_) fun _ _ z=>z
   subst hr
   obtain⟨m,hn,_⟩:=I6.loc
   have un:=I6.base
   rw [Yf,Ye,Ys,YH] at un
   rw [YL] at hn
   have hfC:=I6.free
   rw [YL] at hfC
   refine hR s6 H5 m (I3.call' (ch:=fp) (by rw [I6.os,Ys]) un (by have z:=I6.hok;rw [Yp,Yw] at z;exact z) I6.bare fun b hb=>⟨(f3 b hb).2.2.2.1,(f3 b hb).2.1,(f3 b hb).2.2.2.2.1,(f3 b hb).2.2.2.2.2⟩) hn hfC ⟨Nat.ne_of_gt I3.lt,I3.sz,fun x c e=> ?_,fun p hp=> ?_⟩ q
   ·obtain⟨v,z⟩:=I3.cell x c e
    exact Ar z.lt
   ·exact Ar (Ag (I3.pin p hp).1)
  ·refine wpAny_mono (TY.item Y rfl rfl rfl Yc i [] s5 _ H5 (fun _ _=>False) I5 (stat fr5) st5 go) (fun r s6 ⟨u,hr,h6⟩=> ?_) fun _ _ z=>z
   subst hr
   dsimp only
   refine wpAny_mono h6 (fun _ s7 ⟨x,H7,I7,r7,y7,st7,fr7⟩=> ?_) fun _ _ z=>z
   have I7':=I7.pinned (stat fr7) (T.obj _ _ st7)
   rw [<-YE]
   have keepT:∀{σ8:St} {H8:Hp} {s8:AC},l8 Y ([]++a9T fp s7.heap) σ8 H8 s8->tn (i+1) s8.heap/\∀b∈fp,H8 b=none:=fun {σ8 H8 s8} I8=>by
    refine⟨T.keep _ _ _ st7 fun b hb o e=>(I8.pin (b,o) (Ay _ (Ay _ (a3N hb e)))).1,fun b hb=> ?_⟩
    obtain⟨o,e,d⟩:=T.obj _ _ st7 b hb
    exact(I8.pin (b,o) (Ay _ (Ay _ (a3N hb e)))).2.1
   refine wpAny_mono (hgY _ s7 _ H7 x u _ I7' r7 (step x H7 y7)) (fun _ s8 ⟨σ8,H8,I8,k8,q8⟩=> ?_) fun e s z=>noX e s z
   refine wpAny_mono (htY _ s8 σ8 H8 _ I8 q8) (fun b s9 ⟨H9,I9,q9⟩=> ?_) fun e s z=>noX e s z
   cases b with
   |false=>
    rw [if_neg Ao] at q9 ⊢
    obtain⟨hD9,m',lt,w9⟩:=q9
    obtain⟨t9,n9⟩:=keepT I9
    exact⟨m',lt,i+1,xs,H9,σ8,I9.pins_of (fun p hp=>nomatch hp),k8,t9,n9,hD9,w9⟩
   |true=>
    rw [if_pos rfl] at q9 ⊢
    refine wpAny_mono (heY _ s9 σ8 H9 _ I9 q9) (fun y s10 ⟨v,H10,I10,r10,hD10,hz,m',lt,w10⟩=> ?_) fun e s z=>noX e s z
    refine wpAny_mono (b01 _ s10 σ8 H10 (.ref s2.heap.objs.size) [v] (.ref s2.heap.objs.size) [y] (fun _ H'=>H'=upd H10 s2.heap.objs.size (.lst (xs++[v]))) I10 rfl (.cons r10 .nil) ⟨_,xs,v,rfl,rfl,hD10,hz,rfl⟩) (fun _ s11 ⟨_,H11,I11,_,e11⟩=> ?_) fun e s z=>noX e s z
    subst e11
    obtain⟨t11,n11⟩:=keepT I11
    exact⟨m',lt,i+1,xs++[v],_,σ8,I11.pins_of (fun p hp=>nomatch hp),k8,t11,n11,w4,w10⟩
 show codeAny _ _ (.compStart _ 0 _ _ (X9 scope s3.heap.objs.size X.env)) _ _
 refine codeAny_compStart_list (loop _ fun s' H' m a b c d e=>fin _ _ s' H' m a b c d e) (T.self _ 0 _ _ _ st4 (loop _ fun s' H' m a b c d e=>fin _ _ s' H' m a b c d e))
end
section
variable {X:Cx}{elt iter tg:AF}{ifs:List AF}{scope:Scope}{N0 ys:List Str}{wi:TI}{g:TG}{tc:TT}{te:TE}{pos:Pos}
theorem b9m(hx:∀e s,X.xe e s->False)(hc:X.calm=true)(S:a26 X.N N0 ys X.env scope)(hi:PI X tg iter wi)
 (hg:∀C fp pins s H,PG (a10 X N0 scope ys C fp pins s H) tg g) (ht:∀C fp pins s H,PCs (a10 X N0 scope ys C fp pins s H) ifs tc) (he:∀C fp pins s H,PE (a10 X N0 scope ys C fp pins s H) elt te)
 (hs:∀x,foldedSetIterable iter X.env x=pure x:=by intro _;rfl):PE X (.ListComp elt [⟨tg,iter,ifs,0⟩] scope pos) (b8h wi g tc te ys.length):=by
 intro pins s σ H Q I h
 rw [eval_ListComp]
 refine b5M hx hc S hi hg ht he hs I h fun D C s' H' m I' hn hC gone q=>⟨m,hn,fun h' hs'=>⟨.ref D,H', ?_,rfl,q⟩⟩
 obtain⟨g1,g2,g3,g4⟩:=gone
 exact I'.turned (t':=s'.toks) (fun b o hb e=>hs'.extBut b o hb e) hC g1 (.inr g2) g3 g4
end
end L2
namespace PU
open PySem PySem.Spec PyProof.Rows L2
def a79(c:MT)(elt:M)(tg:PV->g0->Option g0)(ρ:g0):List PV->Option (List PV)
 |[]=>some []
 |p::ps=>(tg p ρ).bind fun ρ1=>(c ρ1).bind fun b=>if b=true then((elt ρ1).bind f6.toVal).bind fun q=>(a79 c elt tg ρ ps).bind fun r=>some (q::r) else a79 c elt tg ρ ps
def a4R:MT:=fun _=>some true
def a4f(k:Nat)(it:MI)(tg:PV->g0->Option g0)(c:MT)(elt:M):M:=fun ρ=>(it ρ).bind fun ps=>if ps.length<=AU then(a79 c elt tg (ρ++Ab k none) ps).bind fun r=>some (.own r) else none
def b2A(K:AE)(n:Nat)(g:TG)(tg:PV->g0->Option g0):Prop:=
 ∀F H σ ρ ρ1 p x (Q:L2.St->Hp->Prop),S0 K F H σ ρ->U6 K F p x->tg p ρ=some ρ1->(∀σ',S0 K F H σ' ρ1->(∀(j:Nat),j<n->σ'[j]?=σ[j]?)->Q σ' H)->g x σ H Q
theorem S0.set{K:AE}{F H:Hp}{σ:L2.St}{ρ:g0}{p:PV}{x:V}(e:S0 K F H σ ρ)(r:U6 K F p x)(i:Nat):S0 K F H (σ.set i (some x)) (ρ.set i (some (.val p))):=by
 refine⟨e.fh,by simp [e.len],fun j q h=> ?_,fun j ps h=> ?_,fun j k ps qs a hjk h1 h2 h3 h4=> ?_⟩
 ·rw [List.getElem?_set] at h ⊢
  by_cases hij:i=j
  ·subst hij
   rw [if_pos rfl] at h ⊢
   rw [e.len]
   split at h
   ·rename_i c;cases h;rw [if_pos c];exact⟨x,rfl,r⟩
   ·cases h
  ·rw [if_neg hij] at h ⊢;exact e.at_ j q h
 ·rw [List.getElem?_set] at h
  by_cases hij:i=j
  ·subst hij
   rw [if_pos rfl] at h
   split at h<;>cases h
  ·rw [if_neg hij] at h;exact e.nb j ps h
 ·have get:∀(j:Nat) (ps:a3r),(ρ.set i (some (f6.val p)))[j]?=some (some (f6.ow ps))->i≠j/\ρ[j]?=some (some (f6.ow ps)):=fun j ps h=>by
   rw [List.getElem?_set] at h
   by_cases hij:i=j
   ·subst hij
    rw [if_pos rfl] at h
    split at h<;>cases h
   ·rw [if_neg hij] at h;exact⟨hij,h⟩
  obtain⟨n1,h1⟩:=get j ps h1
  obtain⟨n2,h2⟩:=get k qs h2
  rw [List.getElem?_set_ne n1] at h3
  rw [List.getElem?_set_ne n2] at h4
  exact e.ap j k ps qs a hjk h1 h2 h3 h4
theorem X5{K:AE}{n i:Nat}(h:n<=i):b2A K n (b2P i) (k7 i):=fun F H σ ρ ρ1 p x Q e r q k=>by
 cases q
 exact k _ (e.set r i) fun j hj=>by rw [List.getElem?_set_ne (by lia)]
theorem S0.setAll{K:AE}{F H:Hp}{n:Nat}:∀{is:List Nat} {xs:List V} {ps:List PV} {σ:L2.St} {ρ:g0},(∀i∈is,n<=i)->S0 K F H σ ρ->p4 K F ps xs->S0 K F H (PU.setAll σ is xs) (PU.setAll ρ is (ps.map .val))/\∀(j:Nat),j<n->(PU.setAll σ is xs)[j]?=σ[j]?
 |[],xs,ps,σ,ρ,_,s,r=>by
  have e1:PU.setAll σ [] xs=σ:=by cases xs<;>rfl
  have e2:PU.setAll ρ [] (ps.map f6.val)=ρ:=by cases ps<;>rfl
  rw [e1,e2];exact⟨s,fun _ _=>rfl⟩
 |i::is,xs,[],σ,ρ,_,s,r=>by cases r;exact⟨s,fun _ _=>rfl⟩
 |i::is,xs,p::ps,σ,ρ,h,s,⟨v,t,e,rp,rl⟩=>by
  subst e
  obtain⟨h1,h2⟩:=S0.setAll (is:=is) (n:=n) (fun j hj=>h j (Ak _ hj)) (s.set rp i) rl
  refine⟨h1,fun j hj=> ?_⟩
  have hi:=h i Al
  show(PU.setAll (σ.set i (some v)) is t)[j]?=_
  rw [h2 j hj,List.getElem?_set_ne (by lia)]
theorem S0.more{K:AE}{F H:Hp}{σ:L2.St}{ρ:g0}(e:S0 K F H σ ρ)(k:Nat):S0 K F H (σ++Ab k none) (ρ++Ab k none):=by
 have key:∀(j:Nat) (q:f6),(ρ++Ab k none)[j]?=some (some q)->ρ[j]?=some (some q)/\(σ++Ab k none)[j]?=σ[j]?:=fun j q h=>by
  by_cases hj:j<ρ.length
  ·rw [BC hj] at h
   rw [BC (by rw [e.len];exact hj)]
   exact⟨h,rfl⟩
  ·rw [List.getElem?_append_right (by lia),List.getElem?_replicate] at h
   split at h<;>cases h
 refine⟨e.fh,by simp [e.len],fun j q h=> ?_,fun j ps h=>e.nb j ps (key j _ h).1,fun j k' ps qs a hjk h1 h2 h3 h4=> ?_⟩
 ·obtain⟨h1,h2⟩:=key j q h
  rw [h2];exact e.at_ j q h1
 ·obtain⟨a1,b1⟩:=key j _ h1
  obtain⟨a2,b2⟩:=key k' _ h2
  rw [b1] at h3
  rw [b2] at h4
  exact e.ap j k' ps qs a hjk a1 a2 h3 h4
def WC(K:AE)(F H:Hp)(D:AB)(c:MT)(elt:M)(tg:PV->g0->Option g0)(ρ:g0)(ps r:List PV)(i m:Nat)(xs:List V)(H':Hp):Prop:=
 ∃F' done C7,i<=ps.length/\m=ps.length - i/\Ext F H F' H'/\F' D=none/\p4 K F' done xs/\done.length<=i/\a79 c elt tg ρ (ps.drop i)=some C7/\done++C7=r
theorem b5O{K:AE}{F H:Hp}{D:AB}{c:MT}{elt:M}{tg:PV->g0->Option g0}{g:TG}{σ:L2.St}{ρ:g0}{k:Nat}{ps r:List PV}{i m:Nat}{xs:List V}{H':Hp}{p:PV}{x:V}
 (T:b2A K ρ.length g tg) (en:S0 K F H σ ρ) (hD:H D=none) (hsz:ps.length<=AU) (W:WC K F H D c elt tg (ρ++Ab k none) ps r i m xs H') (hx:H' D=some (.lst xs)) (ep:ps[i]?=some p) (rx:U6 K F p x):
 g x (σ++Ab k none) H' fun σ4 H4=>(∀(j:Nat) v,(σ++Ab k none)[j]?=some (some v)->σ4[j]?=some (some v))/\tMT K c σ4 H4 fun b H5=>if b=true then tM K elt σ4 H5 fun v H6=>H6 D=some (.lst xs)/\xs.length<AU/\∃m',m'<m/\WC K F H D c elt tg (ρ++Ab k none) ps r (i+1) m' (xs++[v]) (upd H6 D (.lst (xs++[v])))
  else H5 D=some (.lst xs)/\∃m',m'<m/\WC K F H D c elt tg (ρ++Ab k none) ps r (i+1) m' xs H5:=by
 obtain⟨F',done,C7,hi,hm,ex,fD,rl,dl,hc,hr⟩:=W
 have hk:i<ps.length:=(Aw.mp ep).1
 have hd:ps.drop i=p::ps.drop (i+1):=by
  rw [List.drop_eq_getElem_cons hk]
  congr 1
  exact(Aw.mp ep).2
 rw [hd] at hc
 unfold a79 at hc
 obtain⟨ρ1,e1,hc⟩:=bind_some hc
 obtain⟨b,e2,hc⟩:=bind_some hc
 have en':=(en.ext ex).more k
 refine T F' H' _ _ ρ1 p x _ en' (U6.mono ex.f _ rx) e1 fun σ4 en4 keep=>⟨fun j v e=> ?_, ?_⟩
 ·by_cases hj:j<ρ.length
  ·rw [keep j hj];exact e
  ·rw [List.getElem?_append_right (by rw [en.len];lia),List.getElem?_replicate] at e
   split at e<;>cases e
 refine⟨F',ρ1,b,en4,e2,fun F5 H5 x5=> ?_⟩
 have ex5:=ex.trans x5
 have fD5:F5 D=none:=x5.nw D _ fD hx (fun _ h=>nomatch h)
 cases b with
 |false=>
  rw [if_neg Ao] at hc
  refine b1J ⟨x5.h _ _ hx,ps.length - (i+1),by lia,F5,done,C7,by lia,rfl,ex5,fD5,p4.mono x5.f _ rl,by lia,hc,hr⟩
 |true=>
  rw [if_pos rfl] at hc
  obtain⟨q,e3,hc⟩:=bind_some hc
  obtain⟨rt,e4,hc⟩:=bind_some hc
  cases hc
  obtain⟨re,e5,e6⟩:=bind_some e3
  refine b1K ⟨F5,ρ1,re,en4.ext x5,e5,fun v F6 H6 o6=> ?_⟩
  obtain⟨F7,o7⟩:=o6.toVal e6
  have hx6:H6 D=some (.lst xs):=o6.x.h _ _ (x5.h _ _ hx)
  have fD7:F7 D=none:=o7.x.nw D _ fD5 (x5.h _ _ hx) (fun _ h=>nomatch h)
  have ex7:=ex5.trans o7.x
  have hlen:=rl.length
  refine⟨hx6,by lia,ps.length - (i+1),by lia,F7,done++[q],rt,by lia,rfl,⟨ex7.f,fun a o z=> ?_,fun a o z=> ?_,ex7.nw,ex7.nf⟩,fD7,p4.append (p4.mono (x5.f.trans o7.x.f) _ rl) ⟨v,[],rfl,o7.rep,rfl⟩,by simp;lia,e4,by rw [List.append_assoc];exact hr⟩
  ·rw [l7 (m4 z hD)];exact ex7.h _ _ z
  ·rw [l7 (m4 z fD7)];exact ex7.fh _ _ z
theorem b6I{K:AE}{F H:Hp}{D:AB}{c:MT}{elt:M}{tg:PV->g0->Option g0}{ρ:g0}{ps r:List PV}{m:Nat}{xs:List V}{H':Hp}(hD:H D=none)(W:WC K F H D c elt tg ρ ps r ps.length m xs H')(hx:H' D=some (.lst xs)):∃F',C3 K F H F' H' (.ref D) (.own r):=by
 obtain⟨F',done,C7,hi,hm,ex,fD,rl,dl,hc,hr⟩:=W
 rw [List.drop_length] at hc
 cases hc
 rw [Ad] at hr
 subst hr
 exact⟨F',ex,⟨D,xs,rfl,fD,hx,rl⟩,fun _ _ _ e=>by cases e;exact hD⟩
structure Src(K:AE)(F0 F H:Hp)(J:It)(ps:List PV):Prop where
 st:∀i H',p5 H H'->ps.length<=i->J.stop i H'
 go:∀i p H',p5 H H'->ps[i]?=some p->J.go i H'
 yd:∀i p x H' H'',p5 H H'->ps[i]?=some p->J.yld i H' x H''->H''=H'/\U6 K F p x
def SI(K:AE)(mi:MI)(wi:TI):Prop:=∀F H σ ρ ps (R:It->Hp->Prop),S0 K F H σ ρ->mi ρ=some ps->(∀F1 H1 J,Ext F H F1 H1->Src K F F1 H1 J ps->R J H1)->wi σ H R
abbrev EI(X:Cx)(tg iter:AF)(mi:MI):Prop:=∃wi,PI X tg iter wi/\SI X.K mi wi
section
variable {X:Cx}{tg:AF}
def a0i(m:M):MI:=fun ρ=>(m ρ).bind fun r=>PyData.items? r.rd
theorem b1t{l:AF}{m:M}(h:EE X l m):EI X tg l (a0i m):=⟨_,b7K h,fun F H σ ρ ps R en e k=>by
 obtain⟨r,e1,e2⟩:=bind_some e
 refine⟨F,ρ,r,en,e1,fun v F1 H1 o1=> ?_⟩
 obtain⟨a,xs,rfl,hq,rl⟩:=a1U o1.x.fh o1.rep e2
 have hlen:=rl.length
 rcases hq with hq|hq
 ·refine⟨a,rfl,.inl ⟨⟨xs,hq⟩,k F1 H1 _ o1.x ⟨fun i H2 s h=>⟨xs,a0o s hq,by lia⟩,fun i p H2 s h=> ?_,fun i p x H2 H3 s h y=> ?_⟩⟩⟩
  ·obtain⟨v,ev,_⟩:=rl.get h
   exact⟨xs,v,a0o s hq,ev⟩
  ·obtain⟨v,ev,rv⟩:=rl.get h
   obtain⟨e,y⟩:=y
   have:=y xs (a0o s hq)
   rw [ev] at this;cases this
   exact⟨e,rv⟩
 ·refine⟨a,rfl,.inr ⟨⟨xs,hq⟩,k F1 H1 _ o1.x ⟨fun i H2 s h=>⟨xs,C4 s hq,by lia⟩,fun i p H2 s h=> ?_,fun i p x H2 H3 s h y=> ?_⟩⟩⟩
  ·obtain⟨v,ev,_⟩:=rl.get h
   exact⟨xs,v,C4 s hq,ev⟩
  ·obtain⟨v,ev,rv⟩:=rl.get h
   obtain⟨e,y⟩:=y
   have:=y xs (C4 s hq)
   rw [ev] at this;cases this
   exact⟨e,rv⟩⟩
theorem b9x{K:AE}{F0 F H:Hp}{lo hi:Int}:Src K F0 F H (Itr lo (hi - lo).toNat) (a1N lo hi):=by
 have hl:=a91 lo hi
 refine⟨fun i H2 s h=> ?_,fun i p H2 s h=> ?_,fun i p x H2 H3 s h y=> ?_⟩
 ·show(hi - lo).toNat<=i;lia
 ·have:=(Aw.mp h).1
  show i<(hi - lo).toNat;lia
 ·have hi':=(Aw.mp h).1
  rw [a90 (by lia)] at h
  cases h
  obtain⟨e,y⟩:=y
  exact⟨e,y⟩
theorem b1s{a:AF}{m:MA}{p rp:Pos}(hgl:Gl X "range")(hm:X.mg "range"=none)(ha:EA X [a] m)(hst:AM [a] X.env=[(false,eval a X.env)]:=by rfl):EI X tg (.Call (.Name "range" p) [a] [] rp) (a1z m):=⟨_,b1b hgl hm ha hst,fun F H σ ρ ps R en e k=>by
 obtain⟨qs,e1,e2⟩:=bind_some e
 refine⟨F,ρ,qs,en,e1,fun vs F1 H1 x rl=> ?_⟩
 split at e2
 ·rename_i j
  split at e2
  ·rename_i c
   have c:=b1H.mp c
   cases e2
   obtain⟨v,r,rfl,rv,rr⟩:=rl
   cases rv
   cases rr
   have hz:(j - 0).toNat=j.toNat:=by lia
   refine⟨j,rfl,c.1,c.2,k F1 H1 _ x ?_⟩
   have z:=b9x (K:=X.K) (F0:=F) (F:=F1) (H:=H1) (lo:=0) (hi:=j)
   rw [hz] at z
   exact z
  ·cases e2
 ·cases e2⟩
abbrev EC(X:Cx)(ifs:List AF)(c:MT):Prop:=PCs X ifs (tMT X.K c)
theorem a58:EC X [] a4R:=fun pins s σ H Q I ⟨F,ρ,b,en,e,k⟩=>by
 cases e
 exact b9k pins s σ H Q I (k F H (Ext.refl en.fh))
theorem b5N{mi:MI}{wi:TI}{g:TG}{c:MT}{elt:M}{t:PV->g0->Option g0}{N:List Str}{k:Nat}(hi:SI X.K mi wi)(T:∀n,n=N.length->b2A X.K n g t){σ:L2.St}{H:Hp}{Q:VK}(hl:σ.length=N.length)(h:tM X.K (a4f k mi t c elt) σ H Q):b8h wi g (tMT X.K c) (tM X.K elt) k σ H Q:=by
 obtain⟨F,ρ,r,en,e,kk⟩:=h
 obtain⟨ps,e1,e⟩:=bind_some e
 split at e
 ·rename_i hsz
  obtain⟨rs,e2,e⟩:=bind_some e
  cases e
  refine hi F H σ ρ ps _ en e1 fun F1 H1 J x1 S D hD=> ?_
  have en1:=en.ext x1
  have T':b2A X.K ρ.length g t:=T _ (by rw [<-en.len,hl])
  refine⟨WC X.K F1 H1 D c elt t (ρ++Ab k none) ps rs,⟨ps.length,F1,[],rs,Nat.zero_le _,rfl,Ext.layH x1.fh hD,x1.fh.free hD,rfl,AZ _,e2,rfl⟩,fun i m xs H2 W hx=> ?_⟩
  have W':=W
  obtain⟨F',done,C7,hi',hm,ex,fD,rl,dl,hc,hr⟩:=W'
  have sF:p5 H1 H2:=ex.h
  by_cases hlt:i<ps.length
  ·refine .inr ⟨S.go i ps[i] H2 sF (by simp [hlt]),fun x H3 y=> ?_⟩
   obtain⟨e3,rx⟩:=S.yd i ps[i] x H2 H3 sF (by simp [hlt]) y
   subst e3
   exact b5O T' en1 hD hsz W hx (by simp [hlt]) rx
  ·have e3:i=ps.length:=by lia
   subst e3
   refine .inl ⟨S.st _ H2 sF (AZ _), ?_⟩
   obtain⟨F2,o⟩:=b6I hD W hx
   exact kk _ F2 H2 (C3.trans x1 o)
 ·cases e
theorem a3G{elt iter:AF}{ifs:List AF}{scope:Scope}{N0 ys:List Str}{mi:MI}{g:TG}{c:MT}{m:M}{t:PV->g0->Option g0}{pos:Pos}(hx:∀e s,X.xe e s->False)(hc:X.calm=true)(S:a26 X.N N0 ys X.env scope)(hi:EI X tg iter mi)
 (hg:∀C fp pins s H,PG (a10 X N0 scope ys C fp pins s H) tg g) (T:∀n,n=X.N.length->b2A X.K n g t) (ht:∀C fp pins s H,EC (a10 X N0 scope ys C fp pins s H) ifs c) (he:∀C fp pins s H,EE (a10 X N0 scope ys C fp pins s H) elt m)
 (hs:∀x,foldedSetIterable iter X.env x=pure x:=by intro _;rfl):EE X (.ListComp elt [⟨tg,iter,ifs,0⟩] scope pos) (a4f ys.length mi t c m):=by
 obtain⟨wi,h1,h2⟩:=hi
 intro pins s σ H Q I h
 exact b9m hx hc S h1 hg ht he hs pins s σ H Q I (b5N (N:=X.N) h2 T I.len h)
end
def a36:List PV->Option (List Str)
 |[]=>some []
 | .str x::r=>(a36 r).map (x::·)
 |_=>none
theorem b0b:∀xs:List Str,a36 (xs.map .str)=some xs
 |[]=>rfl
 |x::xs=>by rw [AH];simp only [a36,b0b xs,Ah]
theorem a6t{K:AE}{H:Hp}:∀{ps:List PV} {ys:List Str} {xs:List V} {us:List AA},a36 ps=some ys->p4 K H ps xs->t7 xs us->StrsAre us ys
 |[],_,_,_,h,r,v=>by cases h;cases r;cases v;exact .nil
 |p::ps,ys,_,_,h,⟨x,r,e,hp,t⟩,v=>by
  subst e
  cases p with
  |str z=>
   simp only [a36] at h
   cases q:a36 ps with
   |none=>rw [q] at h;cases h
   |some zs=>
    rw [q] at h;cases h
    cases hp
    cases v with
    |cons a b=>
     obtain⟨tk,rfl⟩:=a
     exact .cons z tk (a6t q t b)
  |_=>simp [a36] at h
def M5(x y:f6):Option f6:=match x with
 | .val (.str z)=>(match PyData.items? y.rd with
   |some ps=>(a36 ps).bind fun ys=>if(ys.map (·.length)).sum+ys.length*z.length<=16777216 then some (.val (.str (Txt.join z ys))) else none
   |none=>none)
 |_=>none
section
variable {X:Cx}
theorem b89:MtR X "str.join" (fun x xs H Q=>∃F y rx ry rz,xs=[y]/\p5 F H/\Z1 X.K F H x rx/\Z1 X.K F H y ry/\M5 rx ry=some rz/\∀v F' H',C3 X.K F H F' H' v rz->Q v H'):=by
 intro pins s σ H x xs v us Q I rx rv h
 obtain⟨F,y,ra,rb,rz,rfl,s0,h1,h2,h3,k⟩:=h
 obtain⟨u,rfl,ru⟩:=a5Y rv
 unfold M5 at h3
 split at h3
 ·rename_i z
  split at h3
  ·rename_i ps e
   obtain⟨ys,e2,h3⟩:=bind_some h3
   split at h3
   ·rename_i c
    cases h3
    cases h1
    obtain⟨t,rfl⟩:=rx
    obtain⟨a,xs,rfl,hq,r⟩:=a1U s0 h2 e
    cases ru
    rcases hq with hq|hq
    ·obtain⟨its,rv,pl,hz⟩:=I.list hq
     exact join_list pl.isList (by simpa using a6t e2 r rv) c fun t' k'=>⟨.str _,H,I.tok _,⟨_,rfl⟩,k _ F H (C3.here s0 rfl)⟩
    ·obtain⟨its,rv,pl,hz⟩:=I.tuple hq
     exact join_tuple pl (by simpa using a6t e2 r rv) c fun t' k'=>⟨.str _,H,I.tok _,⟨_,rfl⟩,k _ F H (C3.here s0 rfl)⟩
   ·cases h3
  ·cases h3
 ·cases h3
theorem a1F{o e:AF}{m n:M}{apos cpos:Pos}(ho:EE X o m)(ha:EE X e n)
 (hbase:attributeBase o "join" X.env (eval o X.env)=eval o X.env:=by rfl)
 (hfew:((backTo cpos (AM [e] X.env)).all (fun x=> !x.1)&&(backToKw cpos (keywordEach [] X.env)).all (fun x=>x.1.isSome)
  && decide ([e].length+([]:List Keyword).length+(if([]:List Keyword).isEmpty then 0 else 1)<30))=true:=by rfl)
 (hline:(apos.endLine==cpos.line)=true:=by rfl) (hs:AM [e] X.env=(false,eval e X.env)::AM [] X.env:=by rfl) (hplain:(backTo cpos (AM [] X.env)).any (·.1)=false:=by rfl):
 EE X (.Call (.Attribute o "join" apos) [e] [] cpos) (m2 M5 m n):=
 J4 (b3h PySem.F.plainAttrs_str PySem.F.slot_str_join PySem.F.type_str_join b89 ho (J7 ha a0K hs) hbase hfew hline hs hplain) fun σ H Q ⟨F,ρ,r,he,hm,k⟩=>by
  obtain⟨rx,e1,hm⟩:=bind_some hm
  obtain⟨ry,e2,hm⟩:=bind_some hm
  refine⟨F,ρ,rx,he,e1,fun v F1 H1 o1=>⟨?_,⟨F1,ρ,ry,he.ext o1.x,e2,fun u F2 H2 o2=>⟨F2,u,rx,ry,r,rfl,o2.x.fh,o1.rep.ext o2.x,o2.rep,hm,fun z F3 H3 o3=>k z F3 H3 (C3.trans (o1.x.trans o2.x) o3)⟩⟩⟩⟩
  unfold M5 at hm
  split at hm
  ·cases o1.rep;rfl
  ·cases hm
end
def cut{α:Type}(xs:List α)(lo hi:Option Int):List α:=(xs.drop (HT.sIx xs.length 0 lo)).take (HT.sIx xs.length xs.length hi - HT.sIx xs.length 0 lo)
theorem a6z(n d:Nat)(hd:d<=n)(o:Option Int):(match o with|none=>(d:Int)|some i=>max 0 (min (if i<0 then i+n else i) n))=((HT.sIx n d o:Nat):Int):=by
 cases o with
 |none=>rfl
 |some i=>unfold HT.sIx;dsimp only;split<;>lia
theorem b8J(n:Nat)(lo hi:Option Int):Builtin.Str.strSliceIndices lo hi 1 n=(Ac (HT.sIx n n hi - HT.sIx n 0 lo)).map (HT.sIx n 0 lo+·):=by
 have h1:=a6z n 0 (Nat.zero_le _) lo
 have h2:=a6z n n (AZ _) hi
 have key:∀a b:Int,a=((HT.sIx n 0 lo:Nat):Int)->b=((HT.sIx n n hi:Nat):Int)->sliceRange a b 1=(Ac (HT.sIx n n hi - HT.sIx n 0 lo)).map (HT.sIx n 0 lo+·):=fun a b ha hb=>by rw [ha,hb,sliceRange_one]
 refine key _ _ ?_ ?_
 ·cases lo with
  |none=>rfl
  |some i=>exact h1
 ·cases hi with
  |none=>rfl
  |some i=>exact h2
theorem b9G(z:Str)(lo hi:Option Int):Txt.slice z lo hi=⟨(cut z.cps.toList lo hi).toArray⟩:=by
 have hz:z.cps.toList.length=z.length:=by simp [Str.length]
 unfold Txt.slice
 rw [b8J,pick_run z.cps]
 split
 ·rename_i c
  have c':HT.sIx z.length z.length hi - HT.sIx z.length 0 lo=z.length:=by
   simpa using c
  have hle:=HT.sIx_le z.length z.length (AZ _) hi
  unfold cut
  rw [hz,c']
  have:HT.sIx z.length 0 lo=0\/z.length=0:=by lia
  cases z with
  |mk a=>
   congr 1
   rcases this with h|h
   ·rw [h,List.drop_zero]
    have:a.toList.length=(⟨a⟩:Str).length:=hz
    rw [<-this,List.take_length]
   ·have h0:a.toList=[]:=List.length_eq_zero_iff.mp (by rw [<-h];exact hz)
    have:a= #[]:=by
     apply Array.ext'
     rw [h0]
    subst this
    simp
 ·unfold cut
  rw [hz]
theorem a5W(items:Array AA)(lo hi:Option Int):slicePick items lo hi none=(cut items.toList lo hi).toArray:=by
 have hz:items.toList.length=items.size:=by simp
 unfold slicePick cut
 rw [hz]
 have key:∀a b:Int,a=((HT.sIx items.size 0 lo:Nat):Int)->b=((HT.sIx items.size items.size hi:Nat):Int)->(List.filterMap (items[·]?) (sliceRange a b 1)).toArray=((items.toList.drop (HT.sIx items.size 0 lo)).take (HT.sIx items.size items.size hi - HT.sIx items.size 0 lo)).toArray:=fun a b ha hb=>by rw [ha,hb,sliceRange_one,pick_run]
 refine key _ _ ?_ ?_
 ·cases lo with
  |none=>rfl
  |some i=>exact a6z items.size 0 (Nat.zero_le _) (some i)
 ·cases hi with
  |none=>rfl
  |some i=>exact a6z items.size items.size (AZ _) (some i)
theorem p4.cut{K:AE}{H:Hp}{ps:List PV}{xs:List V}(r:p4 K H ps xs)(lo hi:Option Int):p4 K H (PU.cut ps lo hi) (PU.cut xs lo hi):=by
 unfold PU.cut
 rw [r.length]
 exact(r.drop _).take _
theorem a8I{α:Type}(xs:List α)(lo hi:Option Int):(cut xs lo hi).length<=xs.length:=by
 unfold cut
 rw [List.length_take,List.length_drop];lia
theorem a5I{prog:AK}{w:AJ}{A:AL}{E:AA->AC->Prop}{s:AC}{t sl:AB}{items:Array AA}{vl vu:AA}{lo hi:Option Int}{Q:AA->AC->Prop}(ht:IsTup s.heap t items)(hs:s.heap.IsSliceOf sl vl vu .none)(pl:IsPart vl lo)(pu:IsPart vu hi)
 (hw:HT.sIx items.size 0 lo=0/\HT.sIx items.size items.size hi=items.size)
 (h:Q (.ref t) s):AI (model prog w) A (getItem (.ref t) (.ref sl)) Q E s:=by
 obtain⟨os,hos,hcs,hds⟩:=id hs
 have hTs:s.TypeIs (.ref sl) "slice":=⟨os,hos,hcs⟩
 unfold getItem
 try with_reducible refine wpAny_holding ?_
 first|refine AG (Aa ?_)|skip
 refine AG (wpAny_sequenceKey ht.typeIs (by decide) ?_)
 refine AG (wpAny_callSpecial?_slot (name:=AY "__getitem__") ht.typeIs PyProof.Rows.slot_tuple_getitem
  (wpAny_call_entry PyProof.Rows.slot_tuple_getitem ht.typeIs entry_tuple_getitem ?_ (args_tuple_getitem _ _)))
 show AI _ _ (Builtin.Tuple.tupleItemsOf (.ref t)>>=_) _ _ s
 refine AG (tupleItemsOf_ ht ?_)
 refine AG (wpAny_typeOf hTs ?_)
 rw [if_pos (by decide)]
 refine AG (HT.sliceApplied_gen hs pl pu ?_)
 have hno:(((HT.sIx items.size 0 lo:Nat):Int)==0 &&(1:Int)==1 &&(HT.sIx items.size items.size hi - HT.sIx items.size 0 lo)==items.size)=true:=by
  rw [hw.1,hw.2];simp
 show AI _ _ (if(((HT.sIx items.size 0 lo:Nat):Int)==0 &&(1:Int)==1 &&(HT.sIx items.size items.size hi - HT.sIx items.size 0 lo)==items.size)=true then _ else _) _ _ s
 rw [if_pos hno]
 refine AG (AG (m:=typeOf (.ref t)) (wpAny_typeOf ht.typeIs (Aa ?_)))
 rw [if_pos (by decide)]
 wp_walk
 exact⟨_,rfl,Aa h⟩
theorem b9F{X:Cx}:SlR X (fun x lo hi H Q=>∃a xs,x= .ref a/\SqT X.K H a xs/\(HT.sIx xs.length 0 lo=0/\HT.sIx xs.length xs.length hi=xs.length)/\Q (.ref a) H):=by
 intro pins s σ H x v vl vu lo hi sl Q I rx hs pl pu h
 obtain⟨a,xs,rfl,hx,hw,q⟩:=h
 cases rx
 obtain⟨its,r,ht,hz⟩:=I.tuple hx
 have hlen:its.toArray.size=xs.length:=by rw [Aj];exact r.length.symm
 refine⟨"tuple",_,PyProof.Rows.slot_tuple_getitem.lookup,ht.typeIs, ?_⟩
 exact a5I ht hs pl pu (by rw [hlen];exact hw) ⟨.ref a,H,I,rfl,q⟩
theorem b5P{α:Type}{xs:List α}{lo hi:Option Int}(h:HT.sIx xs.length 0 lo=0/\HT.sIx xs.length xs.length hi=xs.length):cut xs lo hi=xs:=by
 unfold cut
 rw [h.1,h.2,List.drop_zero,Nat.sub_zero,List.take_length]
section
variable {X:Cx}
theorem b35{h:Heap}{sl:AB}{vl vu:AA}{lo hi:Option Int}(hs:h.IsSliceOf sl vl vu .none)(pl:IsPart vl lo)(pu:IsPart vu hi):∃l u:Option (Int×Tok),h.IsSlice sl l u none/\l.map (·.1)=lo/\u.map (·.1)=hi:=by
 obtain⟨o,ho,hc,hd⟩:=hs
 cases pl with
 |none=>
  cases pu with
  |none=>exact⟨none,none,⟨o,ho,hc,hd⟩,rfl,rfl⟩
  |int j t=>exact⟨none,some (j,t),⟨o,ho,hc,hd⟩,rfl,rfl⟩
 |int i t=>
  cases pu with
  |none=>exact⟨some (i,t),none,⟨o,ho,hc,hd⟩,rfl,rfl⟩
  |int j t'=>exact⟨some (i,t),some (j,t'),⟨o,ho,hc,hd⟩,rfl,rfl⟩
theorem c1s:SlR X (fun x lo hi H Q=>∃z,x= .str z/\z.length<=AU/\Q (.str (Txt.slice z lo hi)) H):=by
 intro pins s σ H x v vl vu lo hi sl Q I rx hs pl pu h
 obtain⟨z,rfl,hz,q⟩:=h
 obtain⟨t,rfl⟩:=rx
 obtain⟨l,u,hs',e1,e2⟩:=b35 hs pl pu
 subst e1 e2
 exact⟨"str",_,PySem.F.slot_str_getitem.lookup,typeIs_str _ _ _,wpAny_getItem_str_slice hs' rfl (post_val_or_str ⟨Nat.le_trans (Txt.slice_le z _ _) hz,fun t' k=>⟨.str _,H,I.tok _,⟨_,rfl⟩,q⟩⟩)⟩
theorem c1r:SlR X (fun x lo hi H Q=>∃a xs,x= .ref a/\SqL X.K H a xs/\∀p,H p=none->Q (.ref p) (upd H p (.lst (PU.cut xs lo hi)))):=by
 intro pins s σ H x v vl vu lo hi sl Q I rx hs pl pu h
 obtain⟨a,xs,rfl,hx,q⟩:=h
 cases rx
 obtain⟨its,r,pl',hz⟩:=I.list hx
 have hlen:=r.length
 refine⟨"list",_,list_getitem_lookup,pl'.isList.typeIs, ?_⟩
 refine wpAny_getItem_list_slice pl'.isList hs pl pu .none (by simp) ?_ (by rw [Aj];lia)
 rw [a5W]
 refine⟨.ref s.heap.objs.size,_,I.laid (t':=s.toks) (o:= .lst (PU.cut xs lo hi)) (fun b ob q=>An _ q) (AZ _) ?_,rfl,q _ (I.hok.fresh (AZ _))⟩
 refine⟨Nat.le_trans (a8I xs lo hi) hz,PU.cut its lo hi,0, ?_,Az _ rfl⟩
 unfold PU.cut
 rw [hlen]
 exact(r.drop _).take _
def gSl(x:f6)(lo hi:Option Int):Option f6:=match x with
 | .val (.str z)=>if z.length<=AU then some (.val (.str ⟨(cut z.cps.toList lo hi).toArray⟩)) else none
 | .val (.tuple ps)=>some (.val (.tuple (cut ps lo hi)))
 | .val (.list ps)=>some (.own (cut ps lo hi))
 | .ow (.lst ps)=>some (.own (cut ps lo hi))
 | .bo (.lst ps)=>some (.own (cut ps lo hi))
 |_=>none
def rSl(K:AE):V->Option Int->Option Int->Hp->VK->Prop:=fun x lo hi H Q=>∃F rx rz,p5 F H/\Z1 K F H x rx/\gSl rx lo hi=some rz/\∀v F' H',C3 K F H F' H' v rz->Q v H'
theorem slm:SlR X (rSl X.K):=by
 intro pins s σ H x v vl vu lo hi sl Q I rx hs pl pu h
 obtain⟨F,ra,rz,s0,h1,h2,k⟩:=h
 have lst:∀ps,PyData.items? ra.rd=some ps->(∃a xs,x= .ref a/\SqL X.K H a xs/\p4 X.K F ps xs)->rz= .own (cut ps lo hi)->∃T id,typeLookup (.type T) "__getitem__"=pure (some (.builtin id))/\s.TypeIs v T/\AI (model X.prog X.w) X.A (getItem v (.ref sl)) (EP X pins σ Q) X.xe s:=fun ps e ⟨a,xs,e1,hq,rl⟩ e2=>by
  subst e2
  exact c1r pins s σ H x v vl vu lo hi sl Q I rx hs pl pu ⟨a,xs,e1,hq,fun p hp=>k _ _ _ (C3.lst s0 hp (rl.cut lo hi))⟩
 unfold gSl at h2
 split at h2
 ·rename_i z
  split at h2
  ·rename_i c
   cases h2
   cases h1
   refine c1s pins s σ H _ v vl vu lo hi sl Q I rx hs pl pu ⟨z,rfl,c, ?_⟩
   rw [b9G]
   exact k _ F H (C3.here s0 rfl)
  ·cases h2
 ·rename_i ps
  cases h2
  by_cases c:HT.sIx ps.length 0 lo=0/\HT.sIx ps.length ps.length hi=ps.length
  ·obtain⟨a,xs,rfl,hq,rl⟩:=h1
   have hlen:=rl.length
   refine b9F pins s σ H _ v vl vu lo hi sl Q I rx hs pl pu ⟨a,xs,rfl,C4 s0 hq.sq,by rw [hlen];exact c, ?_⟩
   rw [b5P c] at k
   exact k _ F H (C3.here s0 ⟨a,xs,rfl,hq,rl⟩)
  ·obtain⟨a,xs,rfl,hq,rl⟩:=h1
   have hlen:=rl.length
   refine c1t pins s σ H _ v vl vu lo hi sl Q I rx hs pl pu ⟨a,xs,rfl,C4 s0 hq.sq,by rw [hlen];exact c,fun p hp=> ?_⟩
   exact k _ _ _ (C3.tup s0 hp (rl.cut lo hi))
 ·rename_i ps
  cases h2
  obtain⟨a,xs,e1,hq,rl⟩:=h1
  exact lst ps rfl ⟨a,xs,e1,a0o s0 hq,rl⟩ rfl
 ·rename_i ps
  cases h2
  obtain⟨a,xs,e1,_,hq,rl⟩:=h1
  exact lst ps rfl ⟨a,xs,e1,SqL.of hq,rl⟩ rfl
 ·rename_i ps
  cases h2
  obtain⟨a,xs,e1,_,hq,rl⟩:=h1
  exact lst ps rfl ⟨a,xs,e1,SqL.of hq,rl⟩ rfl
 ·cases h2
abbrev MO:=g0->Option (Option Int)
def tMO(K:AE)(m:MO):TO:=fun σ H Q=>∃F ρ o,S0 K F H σ ρ/\m ρ=some o/\∀F' H',Ext F H F' H'->Q o H'
abbrev EO(X:Cx)(e:Option AF)(m:MO):Prop:=PO X e (tMO X.K m)
def a2e:MO:=fun _=>some none
def b40:f6->Option (Option Int)
 | .val (.int i)=>some (some i)
 |_=>none
def I0(m:M):MO:=fun ρ=>(m ρ).bind b40
theorem a1G:EO X none a2e:=fun pins s σ H Q I ⟨F,ρ,o,en,e,k⟩=>by
 cases e
 exact b9o pins s σ H Q I (k F H (Ext.refl en.fh))
theorem O1{e:AF}{m:M}(h:EE X e m):EO X (some e) (I0 m):=fun pins s σ H Q I ⟨F,ρ,o,en,e1,k⟩=>by
 obtain⟨r,e2,e3⟩:=bind_some e1
 refine b9p h pins s σ H Q I ⟨F,ρ,r,en,e2,fun v F1 H1 o1=> ?_⟩
 unfold b40 at e3
 split at e3
 ·cases e3
  exact⟨_,o1.rep,k F1 H1 o1.x⟩
 ·cases e3
def T4(m:M)(lo hi:MO):M:=fun ρ=>(m ρ).bind fun r=>(lo ρ).bind fun l=>(hi ρ).bind fun h=>gSl r l h
theorem O9{e:AF}{lo hi:Option AF}{m:M}{ml mh:MO}{pos p2:Pos}(he:EE X e m)(hl:EO X lo ml)(hh:EO X hi mh):EE X (.Subscript e (.Slice lo hi none p2) pos) (T4 m ml mh):=
 J4 (b7J slm he hl hh) fun σ H Q ⟨F,ρ,r,en,e,k⟩=>by
  obtain⟨ra,e1,e⟩:=bind_some e
  obtain⟨l,e2,e⟩:=bind_some e
  obtain⟨h,e3,e⟩:=bind_some e
  exact⟨F,ρ,ra,en,e1,fun v F1 H1 o1=>⟨F1,ρ,l,en.ext o1.x,e2,fun F2 H2 x2=>⟨F2,ρ,h,(en.ext o1.x).ext x2,e3,fun F3 H3 x3=>⟨F3,ra,r,x3.fh,(o1.rep.ext x2).ext x3,e,fun z F4 H4 o4=>k z F4 H4 (C3.trans ((o1.x.trans x2).trans x3) o4)⟩⟩⟩⟩
end
def Its(x:Str):It:=⟨fun i _=>i<x.cps.size,fun i H v H'=>H'=H/\∃c,x.cps[i]?=some c/\v= .str ⟨#[c]⟩,fun i _=>x.cps.size<=i⟩
theorem b8i{P:AK}{w:AJ}{K:AE}{tg:AF}(b:Bool)(it:AB)(x:Str)(t:Tok):b5F P w K tg (Its x) [it] it (fun i h=>h.IsStrIter it (if b then "str_ascii_iterator" else "str_iterator") x t i) where
 mem:=by simp
 obj:=fun i h st c hb=>by
  have e:c=it:=by simpa using hb
  subst e
  obtain⟨o,e,c,d⟩:=st
  exact⟨o,e,fun v z=>by rw [d] at z;cases z⟩
 keep:=fun i h h' st k=>let ⟨o,e,r⟩:=st;⟨o,k it (by simp) o e,r⟩
 item:=by
  intro X hP hw hK hc i pins s σ H E I hf st hg
  subst hP hw hK
  obtain⟨f0,f1,f2,f3,f4,f5⟩:=hf it (by simp)
  have hg:i<x.cps.size:=hg
  have hx:x.cps[i]?=some x.cps[i]:=by simp [hg]
  have fin:∀h':Heap,h'.IsStrIter it (if b then "str_ascii_iterator" else "str_iterator") x t (i+1)->Heap.SameBut it s.heap h'->∃u,some (Value.str ⟨#[x.cps[i]]⟩ s.toks)=some u/\
   AI (model X.prog X.w) X.A (letOwnedTupleGo tg (.ref it) u) (fun _ s2=>∃y H',l8 X pins σ H' s2/\A4 y u/\(Its x).yld i H y H'/\s2.heap.IsStrIter it (if b then "str_ascii_iterator" else "str_iterator") x t (i+1)/\∀b∈[it],H' b=none) E {s with heap:=h',toks:=s.toks+1}:=fun h' st' sb=>by
   have I1:l8 X pins σ H {s with heap:=h',toks:=s.toks+1}:=I.turned (fun b o hb e=>(sb.2 b hb).trans e) f0 f1 f3 f4 f5
   obtain⟨o,e,c,d⟩:=id st'
   refine⟨_,rfl,b4Z (s:={s with heap:=h',toks:=s.toks+1}) (n:=if b then "str_ascii_iterator" else "str_iterator") e c d (by cases b<;>decide) ⟨.str ⟨#[x.cps[i]]⟩,H,I1,⟨_,rfl⟩,⟨rfl,_,hx,rfl⟩,st',fun b hb=>(hf b hb).1⟩⟩
  cases b with
  |true=>exact wpAny_pyNext_ascii_item st hx fun h' a b=>fin h' a b
  |false=>exact wpAny_pyNext_wide_item st hx fun h' a b=>fin h' a b
 done:=by
   intro X hP hw hK hc i pins s σ H E I hf st hg
   subst hP hw hK
   obtain⟨f0,f1,f2,f3,f4,f5⟩:=hf it (by simp)
   have hg:x.cps.size<=i:=hg
   have hx:x.cps[i]?=none:=by simp [hg]
   cases b with
   |true=>exact wpAny_pyNext_ascii_end (I.ok.hd hc) st hx fun h' eb=>⟨rfl,I.turned (t':=s.toks) (fun b o hb e=>eb b o hb e) f0 f1 f3 f4 f5⟩
   |false=>exact wpAny_pyNext_wide_end (I.ok.hd hc) st hx fun h' eb=>⟨rfl,I.turned (t':=s.toks) (fun b o hb e=>eb b o hb e) f0 f1 f3 f4 f5⟩
 self:=fun _ _ _ _ _ st h=>by
  cases b with
  |true=>exact wpAny_pyIter_striter_ascii st h
  |false=>exact wpAny_pyIter_striter_wide st h
section
variable {X:Cx}{tg:AF}
def c2N(tl:TE):TI:=fun σ H R=>tl σ H fun x H1=>∃z,x= .str z/\R (Its z) H1
theorem c1k{l:AF}{tl:TE}(hl:PE X l tl):PI X tg l (c2N tl):=by
 intro pins s σ H R I h
 refine U5 (hl pins s σ H _ I h) fun v s1 ⟨x,H1,I1,r1,q1⟩=> ?_
 obtain⟨z,e,q⟩:=q1
 subst e
 obtain⟨t,rfl⟩:=r1
 have fin:∀b:Bool,PIE X pins σ tg R (.ref s1.heap.objs.size) {s1 with heap:=s1.heap.push {cls:= .type (if b then "str_ascii_iterator" else "str_iterator"),data:= .fields #[.str z t,.int 0 0]}}:=fun b=>by
  refine⟨s1.heap.objs.size,[s1.heap.objs.size],_,_,H1,rfl,I1.kept (t':=s1.toks) fun b o e=>An _ e,b8i b _ z t,⟨_,Az _ rfl,rfl,rfl⟩,fun c hb=> ?_,q⟩
  have e:c=s1.heap.objs.size:=by simpa using hb
  subst e
  exact I1.fpOk (AZ _) (I1.hok.fresh (AZ _))
 cases ha:z.cps.all (· <128)
 ·exact wpAny_pyIter_wide ha (fin false)
 ·exact wpAny_pyIter_ascii ha (fin true)
structure c1L(K:AE)(F:Hp)(J:It)(ps:List PV):Prop where
 st:∀i H',p5 F H'->ps.length<=i->J.stop i H'
 go:∀i p H',p5 F H'->ps[i]?=some p->J.go i H'
 yd:∀i p x H' H'',p5 F H'->ps[i]?=some p->J.yld i H' x H''->H''=H'/\U6 K F p x
def SIF(K:AE)(mi:MI)(wi:TI):Prop:=∀F H σ ρ ps (R:It->Hp->Prop),S0 K F H σ ρ->mi ρ=some ps->(∀F1 H1 J,Ext F H F1 H1->c1L K F1 J ps->R J H1)->wi σ H R
abbrev EIF(X:Cx)(tg iter:AF)(mi:MI):Prop:=∃wi,PI X tg iter wi/\SIF X.K mi wi
theorem EIF.ei{iter:AF}{mi:MI}(h:EIF X tg iter mi):EI X tg iter mi:=by
 obtain⟨wi,h1,h2⟩:=h
 exact⟨wi,h1,fun F H σ ρ ps R en e k=>h2 F H σ ρ ps R en e fun F1 H1 J x S=>k F1 H1 J x ⟨fun i H' s=>S.st i H' (x.fh.trans s),fun i p H' s=>S.go i p H' (x.fh.trans s),fun i p y H' H'' s=>S.yd i p y H' H'' (x.fh.trans s)⟩⟩
def a9t(m:M):MI:=fun ρ=>(m ρ).bind fun r=>match r with
 | .val (.str z)=>some (z.cps.toList.map fun c=> .str ⟨#[c]⟩)
 |_=>none
theorem b8O{l:AF}{m:M}(h:EE X l m):EIF X tg l (a9t m):=⟨_,c1k h,fun F H σ ρ ps R en e k=>by
 obtain⟨r,e1,e2⟩:=bind_some e
 refine⟨F,ρ,r,en,e1,fun v F1 H1 o1=> ?_⟩
 split at e2
 ·rename_i z
  cases e2
  cases o1.rep
  refine⟨z,rfl,k F1 H1 _ o1.x ⟨fun i H2 s h=> ?_,fun i p H2 s h=> ?_,fun i p x H2 H3 s h y=> ?_⟩⟩
  ·have h:z.cps.size<=i:=by simpa using h
   exact h
  ·have:=(Aw.mp h).1
   have h:i<z.cps.size:=by simpa using this
   exact h
  ·obtain⟨e,c,hc,rfl⟩:=y
   refine⟨e, ?_⟩
   rw [BB,Array.getElem?_toList,hc] at h
   cases h
   rfl
 ·cases e2⟩
theorem b61{K:AE}{F:Hp}{J:It}{ps:List PV}{g:TG}{tb:TS}{D:a0w}{σ:L2.St}{H:Hp}(S:c1L K F J ps)(Pv:Nat->L2.St->Hp->Prop)(h0:Pv 0 σ H)(hl:∀i σ H,Pv i σ H->p5 F H)
 (hs:∀i p x σ H,ps[i]?=some p->U6 K F p x->Pv i σ H->g x σ H fun σ2 H2=>tb {D with nx:=Pv (i+1),ct:=Pv (i+1),bk:=D.nx} σ2 H2) (hd:∀σ H,Pv ps.length σ H->D.nx σ H):
 ∃W:Nat->Nat->L2.St->Hp->Prop,(∃m,W 0 m σ H)/\∀i m σ H,W i m σ H->
  (J.stop i H/\D.nx σ H)\/(J.go i H/\∃N:L2.St->Hp->Prop,(∀σ' H',N σ' H'->∃m',m'<m/\W (i+1) m' σ' H')/\∀x H',J.yld i H x H'->g x σ H' fun σ2 H2=>tb {D with nx:=N,ct:=N,bk:=D.nx} σ2 H2):=by
 refine⟨fun i m σ H=>m=ps.length - i/\i<=ps.length/\Pv i σ H,⟨ps.length,by simp,Nat.zero_le _,h0⟩, ?_⟩
 rintro i m σ H ⟨rfl,hi,p⟩
 have q:=hl i σ H p
 by_cases hlt:i<ps.length
 ·have e:ps[i]?=some ps[i]:=by simp [hlt]
  refine .inr ⟨S.go i ps[i] H q e,Pv (i+1),fun σ' H' p'=>⟨ps.length - (i+1),by lia,rfl,hlt,p'⟩,fun x H' y=> ?_⟩
  obtain⟨e2,rx⟩:=S.yd i ps[i] x H H' q e y
  subst e2
  exact hs i ps[i] x σ _ e rx p
 ·have e:i=ps.length:=by lia
  subst e
  exact .inl ⟨S.st _ H q (AZ _),hd σ H p⟩
theorem b8R{iter:AF}{body:List Stmt}{mi:MI}{g:TG}{t:PV->g0->Option g0}{b:MS}{pos:Pos}(hp:PassesOwn (model X.prog X.w) X.A X.env X.xe)(hc:X.calm=true)(hi:EIF X tg iter mi)(hg:PG X tg g)(T:b6x X.K g t)(hb:ESs X body b)
 (hs:∀x,foldedSetIterable iter X.env x=pure x:=by intro _;rfl):ES X (.For tg iter body [] pos) (a1r mi t b):=by
 obtain⟨wi,h1,h2⟩:=hi
 exact L5 (b4r hp hc h1 hg hb hs) fun D σ H ⟨F0,H0,F,ρ,fl,so,e,fin⟩=>by
  obtain⟨ps,e1,e⟩:=bind_some e
  refine h2 F H σ ρ ps _ so.e e1 fun F1 H1 J x S=> ?_
  have fin1:=fin.later x.f
  refine b61 S (PvL X.K F0 H0 F1 b t ps fl) ⟨F1,ρ,PU.p5.refl F1,so.ext x,e⟩ (fun i σ H ⟨F2,_,s,so2,_⟩=>s.trans so2.e.fh) (fun i p y σ H ep rp hp=> ?_) (fun σ H hp=>a6Q fin1 hp)
  exact a5v T fin1 ep hp fun F2 s=>U6.mono s _ rp
end
def b1A:f6->f6->Option f6
 | .val (.int i),.val (.int j)=>some (.val (.bool (decide (i<j))))
 | .val (.str i),.val (.str j)=>some (.val (.bool (decide (i.cps.toList<j.cps.toList))))
 |_,_=>none
def a2R:f6->f6->Option f6
 | .val (.int i),.val (.int j)=>some (.val (.bool (decide (i<=j))))
 | .val (.str i),.val (.str j)=>some (.val (.bool (!decide (j.cps.toList<i.cps.toList))))
 |_,_=>none
section
variable {X:Cx}
theorem b17:OpM X (compareOp .Lt) b1A:=by
 intro pins s σ H x y v u Q I rx ry h
 obtain⟨F,ra,rb,rz,s0,h1,h2,h3,k⟩:=h
 unfold b1A at h3
 split at h3
 ·cases h3;cases h1;cases h2
  exact c2b pins s σ H _ _ v u Q I rx ry ⟨_,_,rfl,rfl,k _ F H (C3.here s0 rfl)⟩
 ·cases h3;cases h1;cases h2
  exact b6d pins s σ H _ _ v u Q I rx ry ⟨_,_,rfl,rfl,k _ F H (C3.here s0 rfl)⟩
 ·cases h3
theorem a0Z:OpM X (compareOp .LtE) a2R:=by
 intro pins s σ H x y v u Q I rx ry h
 obtain⟨F,ra,rb,rz,s0,h1,h2,h3,k⟩:=h
 unfold a2R at h3
 split at h3
 ·cases h3;cases h1;cases h2
  exact c2a pins s σ H _ _ v u Q I rx ry ⟨_,_,rfl,rfl,k _ F H (C3.here s0 rfl)⟩
 ·cases h3;cases h1;cases h2
  obtain⟨t,rfl⟩:=rx
  obtain⟨t',rfl⟩:=ry
  exact PySem.P.le_str ⟨.bl _,H,I,rfl,k _ F H (C3.here s0 rfl)⟩
 ·cases h3
def a2Q(neg:Bool)(x y:f6):Option f6:=match x,y with
 | .val (.bool a),.val (.bool b)=>some (.val (.bool (if neg then !(a==b) else a==b)))
 |x,y=>c0E neg x y
theorem b7h{a b:Bool}{M:Model}{A:AL}{E:AA->AC->Prop}{s:AC}{Q:AA->AC->Prop}(h:Q (.bool (a==b)) s):AI M A (compareOp .Is (.bool a) (.bool b)) Q E s:=by
 refine wpAny_is_plain (by cases a<;>cases b<;>rfl) ?_
 have e:(Value.bool a==Value.bool b)=(a==b):=by cases a<;>cases b<;>rfl
 rw [e];exact h
theorem W3:OpM X (compareOp .Is) (a2Q false):=by
 intro pins s σ H x y v u Q I rx ry h
 obtain⟨F,ra,rb,rz,s0,h1,h2,h3,k⟩:=h
 unfold a2Q at h3
 split at h3
 ·cases h3;cases h1;cases h2;cases rx;cases ry
  exact b7h ⟨.bl _,H,I,rfl,k _ F H (C3.here s0 rfl)⟩
 ·exact b9i pins s σ H x y v u Q I rx ry ⟨F,_,_,rz,s0,h1,h2,h3,k⟩
def b2O:f6->f6->Option f6
 | .val (.str z),.val (.int k)=>if okC (fun k n=>0<=k/\k<=1000000/\n*k<=16777216) k z.length=true then some (.val (.str ⟨(Ab k.toNat z.cps.toList).flatten.toArray⟩)) else none
 | .ow (.lst ps),.val (.int k)=>if okC (fun k n=>0<=k/\k<=1000000/\n*k<=16777216) k ps.length=true then some (.own (Ab k.toNat ps).flatten) else none
 |x,y=>c0F x y
theorem a9f(xs:List Nat):∀(m:Nat) (acc:Array Nat),(Ab m xs.toArray).foldl (· ++·) acc=acc++(Ab m xs).flatten.toArray
 |0,acc=>by simp
 |m+1,acc=>by
  rw [AW,List.foldl_cons,a9f xs m,AW,List.flatten_cons]
  apply Array.ext'
  simp
theorem b9M{z:Str}{k:Int}(h0:0<=k):Txt.mul z k=⟨(Ab k.toNat z.cps.toList).flatten.toArray⟩:=by
 unfold Txt.mul
 by_cases h1:k<1
 ·have:k=0:=by lia
  subst this
  rfl
 ·rw [if_neg h1]
  by_cases h2:(k==1||z.length==0)=true
  ·rw [if_pos h2]
   rw [Bool.or_eq_true] at h2
   cases z with
   |mk a=>
    rcases h2 with h2|h2
    ·have:k=1:=by simpa using h2
     subst this
     show(⟨a⟩:Str)=_
     congr 1
     apply Array.ext'
     simp
    ·have ha:a.size=0:=by simpa [Str.length] using h2
     have:a= #[]:=Array.eq_empty_of_size_eq_zero ha
     subst this
     congr 1
     apply Array.ext'
     simp
  ·rw [if_neg h2]
   have e:z.cps=z.cps.toList.toArray:=by simp
   congr 1
   rw [e,a9f]
   simp
theorem a9Y{K:AE}{H:Hp}{ps:List PV}{xs:List V}(r:p4 K H ps xs):∀m:Nat,p4 K H (Ab m ps).flatten (Ab m xs).flatten
 |0=>rfl
 |m+1=>by
  rw [AW,AW,List.flatten_cons,List.flatten_cons]
  exact r.append (a9Y r m)
theorem b7C:OpM X (binaryOp .Mult) b2O:=by
 intro pins s σ H x y v u Q I rx ry h
 obtain⟨F,ra,rb,rz,s0,h1,h2,h3,k⟩:=h
 unfold b2O at h3
 split at h3
 ·rename_i z n
  split at h3
  ·rename_i c
   obtain⟨c0,c1,c2⟩:=a3O.mp c
   cases h3;cases h1;cases h2
   obtain⟨t,rfl⟩:=rx
   obtain⟨t',rfl⟩:=ry
   have hz:z.length*n.toNat<=AU:=by
    rw [sizeLine_eq]
    have:((z.length*n.toNat:Nat):Int)=z.length*n:=by rw [Int.natCast_mul,Int.toNat_of_nonneg c0]
    lia
   refine SB.mul ⟨?_,fun h4 h5 h6=> ?_,fun h4 h5=> ?_⟩ fun t' k'=>⟨.str _,H,I.tok _,⟨_,rfl⟩, ?_⟩
   ·have e1:¬n< -(2 ^ 63:Int):=by lia
    have e2:¬n>=2 ^ 63:=by lia
    simp [e1,e2]
    lia
   ·have h7:(2 ^ 63 - 1:Int)/ n<z.length:=h6
    have h8:(2 ^ 63 - 1:Int)<(z.length:Int)*n:=by
     have:=Int.lt_mul_of_ediv_lt (a:=(2 ^ 63 - 1:Int)) (b:=(z.length:Int)) (c:=n) (by lia) h7
     exact this
    lia
   ·unfold Builtin.Str.tooLong
    rw [decide_eq_false (by lia)]
   ·rw [b9M c0]
    exact k _ F H (C3.here s0 rfl)
  ·cases h3
 ·rename_i ps n
  split at h3
  ·rename_i c
   obtain⟨c0,c1,c2⟩:=a3O.mp c
   cases h3;cases h2
   obtain⟨a,xs,rfl,fa,hq,rl⟩:=h1
   have hlen:=rl.length
   have hz:xs.length*n.toNat<=AU:=by
    rw [sizeLine_eq,hlen]
    have:((ps.length*n.toNat:Nat):Int)=ps.length*n:=by rw [Int.natCast_mul,Int.toNat_of_nonneg c0]
    lia
   exact c04 pins s σ H _ _ v u Q I rx ry ⟨a,n,xs,rfl,rfl,hq,by lia,by lia,hz,fun p hp=>k _ _ _ (C3.lst s0 hp (a9Y rl _))⟩
  ·cases h3
 ·exact b7B pins s σ H x y v u Q I rx ry ⟨F,_,_,rz,s0,h1,h2,h3,k⟩
def b1z(x:f6):Option f6:=match x with
 | .val (.str z)=>if z.length<=AU then some (.own (z.cps.toList.map fun c=> .str ⟨#[c]⟩)) else none
 |x=>b69 x
theorem b6J(hc:X.calm=true):O7 X (.type "list") (rC1 X.K b1z):=by
 intro pins s σ H xs us Q I rv h
 obtain⟨F,x,rx,rz,e0,s0,h1,h2,k⟩:=h
 unfold b1z at h2
 split at h2
 ·rename_i z
  split at h2
  ·rename_i c
   cases h2
   cases h1
   subst e0
   obtain⟨u,rfl,t,rfl⟩:=a5Y rv
   refine call_list_str (I.ok.hd hc) z t (fun h' tk acc' c' kp e ia=> ?_) (by exact c)
   obtain⟨ia1,ia2⟩:=ia
   have hv:t7 (z.cps.toList.map fun c=>V.str ⟨#[c]⟩) acc'.toList:=by
    have key:∀(cs:List Nat) (us:List AA),us.length=cs.length->(∀(i:Nat) v,us[i]?=some v->∃c u,cs[i]?=some c/\v= .str ⟨#[c]⟩ u)->t7 (cs.map fun c=>V.str ⟨#[c]⟩) us:=by
     intro cs
     induction cs with
     |nil=>
      intro us h1 h2
      have:us=[]:=List.length_eq_zero_iff.mp h1
      subst this;exact .nil
     |cons c cs ih=>
      intro us h1 h2
      cases us with
      |nil=>cases h1
      |cons w us=>
       obtain⟨c',u,e1,e2⟩:=h2 0 w rfl
       simp at e1
       subst e1
       exact .cons ⟨u,e2⟩ (ih us (by simpa using h1) fun i v hv=>by simpa using h2 (i+1) v (by simpa using hv))
    refine key _ _ (by simpa using ia1) fun i v hv=> ?_
    have hv':acc'[i]?=some v:=by simpa using hv
    obtain⟨c,u,e1,e2⟩:=ia2 i v hv'
    exact⟨c,u,by simpa using e1,e2⟩
   have hlen:(z.cps.toList.map fun c=>V.str ⟨#[c]⟩).length<=AU:=by rw [Ae];simpa [Str.length] using c
   refine⟨.ref s.heap.objs.size,_,I.laid (t':=tk) kp (AZ _) (show R3 X.prog X.w _ h' _ (.lst (z.cps.toList.map fun c=>V.str ⟨#[c]⟩)) from⟨hlen,acc'.toList,c',hv,by rw [e]⟩),rfl,k _ _ _ (C3.lst s0 (I.hok.fresh (AZ _)) ?_)⟩
   have:∀cs:List Nat,p4 X.K F (cs.map fun c=>PyData.str ⟨#[c]⟩) (cs.map fun c=>V.str ⟨#[c]⟩):=by
    intro cs
    induction cs with
    |nil=>rfl
    |cons c cs ih=>exact⟨_,_,rfl,rfl,ih⟩
   exact this _
  ·cases h2
 ·exact b8H pins s σ H xs us Q I rv ⟨F,x,_,rz,e0,s0,h1,h2,k⟩
theorem p4.set{K:AE}{H:Hp}{p:PV}{v:V}(h:U6 K H p v):∀{ps:List PV} {xs:List V} (j:Nat),p4 K H ps xs->p4 K H (ps.set j p) (xs.set j v)
 |[],_,_,r=>by cases r;exact rfl
 |_::ps,_,0,⟨w,t,e,_,rl⟩=>by subst e;exact⟨v,t,rfl,h,rl⟩
 |q::ps,_,j+1,⟨w,t,e,hq,rl⟩=>by subst e;exact⟨w,_,rfl,hq,p4.set h j rl⟩
def b76(i:Nat)(ρ:g0)(p:PV)(r:f6):Option Fl:=match ρ[i]?,r with
 |some (some (.ow (.lst ps))),.val (.int z)=>(ixN ps.length z).bind fun j=>some (.nx (ρ.set i (some (.own (ps.set j p)))))
 |_,_=>none
def b4b(i:Nat)(mi mv:M):MS:=fun ρ=>((mv ρ).bind f6.toVal).bind fun p=>(mi ρ).bind (b76 i ρ p)
theorem b6T(i:Nat){x:Str}{p tp pos:Pos}{ie e:AF}{mi mv:M}(hx:PE X (.Name x p) (b3D i))(hi:EE X ie mi)(he:EE X e mv)
 (ha:∀v,assign (.Subscript (.Name x p) ie tp) X.env v=(do
  let ov<-holding [v] (eval (.Name x p) X.env)
  let iv<-holding [v,ov] (eval ie X.env)
  standAt tp
  holding [v,ov,iv] (setItem ov iv v)
  release [v,ov,iv] []):=by intro _;rfl)
 (hs:swapsWithSole [.Subscript (.Name x p) ie tp] e pos.line X.env=pure false:=by rfl) (hw:swappedStores [.Subscript (.Name x p) ie tp] e X.env=pure none:=by rfl)
 (h1:(assignEach [.Subscript (.Name x p) ie tp] X.env).map (·.2)=[assign (.Subscript (.Name x p) ie tp) X.env]:=by rfl):ES X (.Assign [.Subscript (.Name x p) ie tp] e pos) (b4b i mi mv):=
 L5 (b7M he (c1i hx hi b78 ha) hs hw h1) fun D σ H ⟨F0,H0,F,ρ,fl,so,e,fin⟩=>by
  obtain⟨q,e1,e⟩:=bind_some e
  obtain⟨r,e2,e3⟩:=bind_some e1
  obtain⟨ri,e4,e⟩:=bind_some e
  refine⟨F,ρ,r,so.e,e2,fun v F1 H1 o=> ?_⟩
  obtain⟨F2,o2⟩:=o.toVal e3
  have so2:=so.ext o2.x
  unfold b76 at e
  split at e
  ·rename_i ps z eo
   obtain⟨j,e5,e⟩:=bind_some e
   cases e
   obtain⟨w,hw1,a,xs,rfl,fa,ha',rl⟩:=so2.e.at_ i _ eo
   refine⟨.ref a,hw1,F2,ρ,_,so2.e,e4,fun u F3 H3 o3=> ?_⟩
   cases o3.rep
   have so3:=so2.ext o3.x
   have ha3:=o3.x.h _ _ ha'
   refine⟨a,xs,z,j,rfl,rfl,ha3,by rw [rl.length];exact e5, ?_⟩
   exact fin σ F3 _ (o2.x.f.trans o3.x.f) (so3.put eo hw1 (p4.set (U6.mono o3.x.f _ o2.rep) j (p4.mono o3.x.f _ rl)))
  ·cases e
end
theorem a3l:fillsNumberSlot (.type "tuple") "mul"=pure false:=
 PySem.fillsNumberSlot_seq (id:="tuple.__mul__") (r:=some (.builtin "tuple.__rmul__")) PySem.F.slot_tuple_mul.lookup (by decide+kernel) PySem.F.slot_tuple_rmul.lookup (by decide+kernel)
theorem a64:seqRepeat? (.type "tuple")=pure (some (.builtin "tuple.__mul__")):=by
 unfold seqRepeat?
 rw [PySem.seqSlot_of (T:="tuple") (name:="__mul__") (id:="tuple.__mul__") PySem.F.slot_tuple_mul.lookup (by decide+kernel),PySem.seqSlot_of (T:="tuple") (name:="__rmul__") (id:="tuple.__rmul__") PySem.F.slot_tuple_rmul.lookup (by decide+kernel)]
 rfl
theorem a4L(a:Int)(t:Tok)(l:AB)(items:Array AA)(n:Nat)(dd:Option AB)(sl:Array (Option AA)):Meets (Builtin.«int.__rmul__» ⟨[.int a t,.ref l],[]⟩) (fun _ R s=>s.heap.get? l=some {cls:= .type "tuple",dict:=dd,data:= .seq items n,slots:=sl}/\R (.ok (.ret Value.notImplemented)) s):=
 .of_wp fun prog w A R s h=>by obtain⟨hp,g,d,tk,os⟩:=s;obtain⟨hl,h⟩:=h;wp_walk;exact⟨_,rfl,h⟩
theorem b0d(l:AB)(items:Array AA)(n:Nat)(dd:Option AB)(sl:Array (Option AA))(x:Int)(u:Tok)(hc0:(decide (x< -(2 ^ 63))||decide (x>=2 ^ 63))=false)(hc1:(items.isEmpty||x==1)=false)(hc2:(decide (x<=0)||items.isEmpty)=false)(hc3:¬(items.size:Int)*x>(2 ^ 63 - 1)/ 8)(hc4:Builtin.Tuple.tupleTooMany ((items.size:Int)*x)=false)(hz:((Ab x.toNat items).foldl (· ++·) #[]).size<=AU):
 Meets (Builtin.«tuple.__mul__» ⟨[.ref l,.int x u],[]⟩) (fun _ R s=>s.heap.get? l=some {cls:= .type "tuple",dict:=dd,data:= .seq items n,slots:=sl}/\R (.ok (.ret (Value.ref s.heap.objs.size))) {s with heap:=s.heap.push {cls:=Value.type "tuple",data:=Data.seq ((Ab x.toNat items).foldl (· ++·) #[])},toks:=s.toks}):=
 .of_wp fun prog w A R s h=>by
  obtain⟨hp,g,d,tk,os⟩:=s;obtain⟨hl,h⟩:=h
  wp_walk
  have ht:IsTup hp l items:=⟨_,hl,rfl,n,rfl⟩
  rw [if_neg (by rw [hc0];exact Ao)]
  wp_walk
  rw [if_neg hc3]
  wp_walk
  exact⟨_,rfl,h⟩
section
variable {X:Cx}
theorem b9h:OpR X (binaryOp .Mult) (fun x y H Q=>∃a xs n,x= .ref a/\y= .int n/\SqT X.K H a xs/\xs≠[]/\2<=n/\n<=1000000/\xs.length*n.toNat<=AU/\∀p,H p=none->Q (.ref p) (upd H p (.tup (Ab n.toNat xs).flatten))):=by
 intro pins s σ H x y v u Q I rx ry h
 obtain⟨a,xs,n,rfl,rfl,hx,hne,h1,h2,hz,q⟩:=h
 cases rx
 obtain⟨t,rfl⟩:=ry
 obtain⟨its,r,ht,_⟩:=I.tuple hx
 have hlen:its.toArray.size=xs.length:=by rw [Aj];exact r.length.symm
 have hie:its.toArray.isEmpty=false:=by
  cases its with
  |nil=>exact absurd (r.nil_iff.mp rfl) hne
  |cons _ _=>rfl
 have hnew:List.foldl (fun x1 x2=>x1++x2) #[] (Ab n.toNat its.toArray)=(Ab n.toNat its).flatten.toArray:=by
  have:=a7D its n.toNat []
  rw [AQ] at this
  exact this
 have hc:((xs.length*n.toNat:Nat):Int)=(xs.length:Int)*n:=by rw [Int.natCast_mul,Int.toNat_of_nonneg (by lia)]
 have hsl:=sizeLine_eq
 obtain⟨⟨cls,dd,data,sl⟩,ho,hc',m,hd⟩:=id ht
 simp only at hc' hd
 subst hc' hd
 have hzz:(List.foldl (fun x1 x2=>x1++x2) #[] (Ab n.toNat its.toArray)).size<=AU:=by
  rw [hnew,Aj,b1O,Nat.mul_comm,<-r.length];exact hz
 refine wpAny_binaryOp_repeat_ref (T:="tuple") (U:="int") (by decide) ht.typeIs (fun s'=>typeIs_int s' n t) a3l F.fills_int_mul F.slot_int_rmul a64 F.slot_int_index.lookup
  (call_meets F.slot_int_rmul (typeIs_int s n t) F.entry_int_rmul (F.args_int_rmul_2 _ _) (a4L n t a its.toArray m dd sl)
   ⟨ho,rfl,ht.typeIs,call_meets PySem.F.slot_tuple_mul ht.typeIs PySem.F.entry_tuple_mul (PySem.F.args_tuple_mul_2 _ _) (b0d a its.toArray m dd sl n t ?_ ?_ ?_ ?_ ?_ hzz) ⟨ho, ?_⟩⟩)
 ·have e1:¬n< -(2 ^ 63:Int):=by lia
  have e2:¬n>=2 ^ 63:=by lia
  simp [e1,e2]
  lia
 ·rw [hie]
  have:n≠1:=by lia
  simp [this]
 ·rw [hie]
  have:¬n<=0:=by lia
  simp [this]
 ·rw [hlen,<-hc]
  lia
 ·rw [hlen,<-hc]
  unfold Builtin.Tuple.tupleTooMany
  rw [decide_eq_false (by lia)]
 ·rw [hnew]
  refine⟨.ref s.heap.objs.size,_,I.laid (t':=s.toks) (o:= .tup (Ab n.toNat xs).flatten) (fun b ob q=>An _ q) (AZ _) ?_,rfl,q _ (I.hok.fresh (AZ _))⟩
  exact⟨by rw [b1O,Nat.mul_comm];exact hz,_,r.rep n.toNat,IsTup.new _ _⟩
def V0:f6->f6->Option f6
 | .val (.tuple ps),.val (.int k)=>if okC (fun k n=>2<=k/\k<=1000000/\1<=n/\n*k<=16777216) k ps.length=true then some (.val (.tuple (Ab k.toNat ps).flatten)) else none
 |x,y=>b2O x y
theorem J3:OpM X (binaryOp .Mult) V0:=by
 intro pins s σ H x y v u Q I rx ry h
 obtain⟨F,ra,rb,rz,s0,h1,h2,h3,k⟩:=h
 unfold V0 at h3
 split at h3
 ·rename_i ps n
  split at h3
  ·rename_i c
   obtain⟨c0,c1,c2,c3⟩:=a3O.mp c
   cases h3;cases h2
   obtain⟨a,xs,rfl,hq,rl⟩:=h1
   have hlen:=rl.length
   have hz:xs.length*n.toNat<=AU:=by
    rw [sizeLine_eq,hlen]
    have:((ps.length*n.toNat:Nat):Int)=ps.length*n:=by rw [Int.natCast_mul,Int.toNat_of_nonneg (by lia)]
    lia
   refine b9h pins s σ H _ _ v u Q I rx ry ⟨a,xs,n,rfl,rfl,C4 s0 hq.sq, ?_,by lia,by lia,hz,fun p hp=>k _ _ _ (C3.tup s0 hp (a9Y rl _))⟩
   intro e
   rw [e] at hlen
   simp at hlen
   lia
  ·cases h3
 ·exact b7C pins s σ H x y v u Q I rx ry ⟨F,_,_,rz,s0,h1,h2,h3,k⟩
end
section
variable {prog:AK}{w:AJ}{A:AL}{E:AA->AC->Prop}{s:AC}
end
def b6r(h:Heap)(it:AB)(v:AA)(i:Int):Prop:=∃o,h.get? it=some o/\o.cls= .type "reversed"/\o.data= .fields #[v,rawInt i]
theorem b6r.typeIs{s:AC}{it:AB}{v:AA}{i:Int}(x:b6r s.heap it v i):s.TypeIs (.ref it) "reversed":=let ⟨o,ho,hc,_⟩:=x;⟨o,ho,hc⟩
theorem b6r.at{h h':Heap}{it:AB}{v:AA}{i:Int}(x:b6r h it v i)(e:∀o,h.get? it=some o->h'.get? it=some o):b6r h' it v i:=let ⟨o,ho,r⟩:=x;⟨o,e _ ho,r⟩
section
variable {prog:AK}{w:AJ}{A:AL}{E:AA->AC->Prop}{s:AC}{u:AA}{T gid:String}{fp:List AB}{n:Nat}{P:Nat->AA->Prop}{Sq:Heap->Prop}
end
section
variable {prog:AK}{w:AJ}{A:AL}{E:AA->AC->Prop}{s:AC}{u:AA}{T gid:String}{fp:List AB}{n:Nat}{P:Nat->AA->Prop}{Sq:Heap->Prop}
end
section
variable {prog:AK}{w:AJ}{A:AL}{E:AA->AC->Prop}{s:AC}
end
section
variable {X:Cx}
theorem p4.reverse{K:AE}{H:Hp}:∀{ps:List PV} {xs:List V},p4 K H ps xs->p4 K H ps.reverse xs.reverse
 |[],_,r=>by cases r;exact rfl
 |p::ps,_,⟨x,r,e,hp,t⟩=>by
  subst e
  rw [List.reverse_cons,List.reverse_cons]
  exact(p4.reverse t).append ⟨x,[],rfl,hp,rfl⟩
theorem t7.reverse:∀{xs:List V} {us:List AA},t7 xs us->t7 xs.reverse us.reverse
 |_,_,.nil=> .nil
 |_,_,.cons a b=>by
  rw [List.reverse_cons,List.reverse_cons]
  exact(t7.reverse b).append (.cons a .nil)
end
section
variable {X:Cx}
theorem p4.last{K:AE}{H:Hp}{ps:List PV}{xs:List V}{p:PV}(r:p4 K H ps xs)(h:ps.getLast?=some p):∃v,xs.getLast?=some v/\U6 K H p v:=by
 rw [List.getLast?_eq_getElem?] at h
 obtain⟨v,e,q⟩:=r.get h
 exact⟨v,by rw [List.getLast?_eq_getElem?,r.length];exact e,q⟩
theorem p4.dropLast{K:AE}{H:Hp}{ps:List PV}{xs:List V}(r:p4 K H ps xs):p4 K H ps.dropLast xs.dropLast:=by
 rw [List.dropLast_eq_take,List.dropLast_eq_take,r.length]
 exact r.take _
end
def b2o(kvs:List (List B0×PV))(k:List B0):Option PV:=(kvs.find? fun kv=>decide (kv.1=k)).map (·.2)
def c2g(kvs:List (List B0×PV))(k:List B0)(v:PV):List (List B0×PV):=
 if(kvs.any fun kv=>decide (kv.1=k))=true then kvs.map (fun kv=>if kv.1=k then(kv.1,v) else kv) else kvs++[(k,v)]
theorem S1.length{K:AE}{H:Hp}:∀{kvs:List (List B0×PV)} {ys:List (List B0×V)},S1 K H kvs ys->ys.length=kvs.length
 |[],_,h=>by cases h;rfl
 |(k,p)::r,_,⟨v,t,e,q,h⟩=>by subst e;rw [AV,AV,S1.length h]
theorem S1.any{K:AE}{H:Hp}{k:List B0}:∀{kvs:List (List B0×PV)} {ys:List (List B0×V)},S1 K H kvs ys->(ys.any fun kv=>decide (kv.1=k))=(kvs.any fun kv=>decide (kv.1=k))
 |[],_,h=>by cases h;rfl
 |(k',p)::r,_,⟨v,t,e,q,h⟩=>by subst e;rw [List.any_cons,List.any_cons,S1.any h]
theorem S1.val{K:AE}{H:Hp}{k:List B0}:∀{kvs:List (List B0×PV)} {ys:List (List B0×V)},S1 K H kvs ys->(∀p,b2o kvs k=some p->∃v,a4o ys k=some v/\U6 K H p v)/\(b2o kvs k=none->a4o ys k=none)
 |[],_,h=>by cases h;exact⟨fun p e=>(nomatch e),fun _=>rfl⟩
 |(k',p)::r,_,⟨v,t,e,q,h⟩=>by
  subst e
  by_cases c:k'=k
  ·have e1:b2o ((k',p)::r) k=some p:=by simp [b2o,List.find?_cons,c]
   have e2:a4o ((k',v)::t) k=some v:=a7l c
   rw [e1,e2]
   exact⟨fun p' e'=>(by cases e';exact⟨v,rfl,q⟩),fun e'=>(nomatch e')⟩
  ·have e1:b2o ((k',p)::r) k=b2o r k:=by simp [b2o,List.find?_cons,c]
   have e2:a4o ((k',v)::t) k=a4o t k:=a7k c
   rw [e1,e2]
   exact S1.val h
theorem S1.repl{K:AE}{H:Hp}{k:List B0}{p:PV}{v:V}(hp:U6 K H p v):∀{kvs:List (List B0×PV)} {ys:List (List B0×V)},S1 K H kvs ys->S1 K H (kvs.map fun kv=>if kv.1=k then(kv.1,p) else kv) (ys.map fun kv=>if kv.1=k then(kv.1,v) else kv)
 |[],_,h=>by cases h;exact rfl
 |(k',p')::r,_,⟨v',t,e,q,h⟩=>by
  subst e
  by_cases c:k'=k
  ·rw [AH,AH]
   simp only [if_pos c]
   exact⟨v,_,rfl,hp,S1.repl hp h⟩
  ·rw [AH,AH]
   simp only [if_neg c]
   exact⟨v',_,rfl,q,S1.repl hp h⟩
theorem S1.snoc{K:AE}{H:Hp}{k:List B0}{p:PV}{v:V}(hp:U6 K H p v):∀{kvs:List (List B0×PV)} {ys:List (List B0×V)},S1 K H kvs ys->S1 K H (kvs++[(k,p)]) (ys++[(k,v)])
 |[],_,h=>by cases h;exact⟨v,[],rfl,hp,rfl⟩
 |(k',p')::r,_,⟨v',t,e,q,h⟩=>by subst e;exact⟨v',_,rfl,q,S1.snoc hp h⟩
theorem S1.put{K:AE}{H:Hp}{k:List B0}{p:PV}{v:V}{kvs:List (List B0×PV)}{ys:List (List B0×V)}(r:S1 K H kvs ys)(hp:U6 K H p v):S1 K H (c2g kvs k p) (b0w ys k v):=by
 unfold c2g b0w
 rw [r.any]
 split
 ·exact r.repl hp
 ·exact r.snoc hp
theorem C3.dct{K:AE}{F H:Hp}{a:AB}(s:p5 F H)(n:H a=none):C3 K F H F (upd H a (.dT [])) (.ref a) (.dct []):=
 ⟨Ext.layH s n,⟨a,[],rfl,s.free n,w4,rfl⟩,fun _ _ _ e=>by cases e;exact n⟩
section
variable {X:Cx}
end
section
variable {prog:AK}{w:AJ}{A:AL}{E:AA->AC->Prop}{s:AC}
end
section
variable {X:Cx}{pins:List (AB×Obj)}{σ:L2.St}{H:Hp}{s:AC}{a:AB}{A:AL}{E:AA->AC->Prop}
end
section
variable {X:Cx}
end
theorem S1.isSome{K:AE}{H:Hp}{k:List B0}{kvs:List (List B0×PV)}{ys:List (List B0×V)}(r:S1 K H kvs ys):(a4o ys k).isSome=(b2o kvs k).isSome:=by
 cases hv:b2o kvs k with
 |none=>rw [(r.val (k:=k)).2 hv];rfl
 |some p=>
  obtain⟨v,e,_⟩:=(r.val (k:=k)).1 p hv
  rw [e];rfl
section
variable {X:Cx}
end
section
variable {prog:AK}{w:AJ}{A:AL}{E:AA->AC->Prop}{s:AC}
end
section
variable {X:Cx}
end
section
variable {X:Cx}
end
section
variable {prog:AK}{w:AJ}{A:AL}{E:AA->AC->Prop}{s:AC}
end
section
variable {prog:AK}{w:AJ}{A:AL}{E:AA->AC->Prop}{s:AC}
end
section
variable {X:Cx}
end
def S(l:List Nat):Str:=⟨l.toArray⟩
theorem c1I(a b:List Nat):S a++S b=S (a++b):=by
 show Str.append (S a) (S b)=_
 simp [Str.append,S]
theorem a1x(a:List Nat):(S a).length=a.length:=by simp [S,Str.length]
theorem a4b(a:List Nat):(S a).cps.toList=a:=by simp [S]
theorem c1K{a b:List Nat}(h:S a=S b):a=b:=by
 have:=congrArg (fun z:Str=>z.cps.toList) h
 simpa [S] using this
theorem c1J(a b:List Nat):(S a==S b)=(a==b):=by
 rw [Bool.eq_iff_iff]
 simp only [beq_iff_eq]
 exact⟨c1K,fun h=>by rw [h]⟩
def a1b(sep:List Nat):List (List Nat)->List Nat
 |[]=>[]
 |[x]=>x
 |x::y::r=>x++sep++a1b sep (y::r)
theorem b0S(sep:List Nat):∀(ls:List (List Nat)) (acc:List Nat),(ls.foldl (fun a p=>a++sep++p) acc)=if ls=[] then acc else acc++sep++a1b sep ls
 |[],acc=>rfl
 |[x],acc=>by simp [a1b]
 |x::y::r,acc=>by
  rw [List.foldl_cons,b0S sep (y::r)]
  simp [a1b]
theorem b4T(sep:List Nat):∀(ls:List (List Nat)) (acc:List Nat),(ls.map S).foldl (fun a (p:Str)=>a++(S sep).cps++p.cps) acc.toArray=(ls.foldl (fun a p=>a++sep++p) acc).toArray
 |[],acc=>rfl
 |x::r,acc=>by
  rw [AH,List.foldl_cons,List.foldl_cons]
  have:acc.toArray++(S sep).cps++(S x).cps=(acc++sep++x).toArray:=by simp [S]
  rw [this]
  exact b4T sep r (acc++sep++x)
theorem c0M(sep:List Nat)(ls:List (List Nat)):Txt.join (S sep) (ls.map S)=S (a1b sep ls):=by
 unfold Txt.join Builtin.Str.glued
 cases ls with
 |nil=>rfl
 |cons x r=>
  show(⟨((r.map S).foldl (fun acc (p:Str)=>acc++(S sep).cps++p.cps) (S x).cps)⟩:Str)=_
  rw [show(S x).cps=x.toArray from rfl,b4T,b0S]
  cases r with
  |nil=>rfl
  |cons y r=>rw [if_neg (by simp)];simp [S,a1b]
theorem b2R:∀ls:List (List Nat),a1b [] ls=ls.flatten
 |[]=>rfl
 |[x]=>by simp [a1b]
 |x::y::r=>by simp [a1b,b2R (y::r)]
theorem a8a:∀cs:List Nat,(cs.map fun c=>[c]).flatten=cs
 |[]=>rfl
 |c::cs=>by simp [a8a cs]
theorem b3S{α:Type}{xs:List α}{i:Int}(h:0<=i):L2.atI xs i=xs[i.toNat]?:=by
 unfold L2.atI L2.ixN
 rw [if_pos h]
 by_cases c:i<xs.length
 ·rw [if_pos c];rfl
 ·rw [if_neg c]
  have:xs.length<=i.toNat:=by lia
  rw [List.getElem?_eq_none_iff.mpr this];rfl
theorem b2B{α:Type}{xs:List α}{k:Nat}:L2.atI xs (k:Int)=xs[k]?:=by
 rw [b3S (by lia)];simp
theorem b66{l:List Nat}{i:Int}{c:Nat}(hl:l.length<=16777216)(h:L2.atI l i=some c):m9 (.val (.str (S l))) (.val (.int i))=some (.val (.str (S [c]))):=by
 have hs:(S l).length<=AU:=by rw [a1x,sizeLine_eq];exact hl
 unfold m9
 simp only [f6.rd,a4b,h,Ah,if_pos hs]
 rfl
theorem E7{l k:List Nat}(h:l.length+k.length<=16777216):u7 (.val (.str (S l))) (.val (.str (S k)))=some (.val (.str (S (l++k)))):=by
 rw [b62 (by rw [a1x,a1x,sizeLine_eq];exact h),c1I]
theorem b8W{i j:Int}(h: -18446744073709551616<i/\i<18446744073709551616):b2O (.val (.int i)) (.val (.int j))=some (.val (.int (i*j))):=c0G h
theorem a2T(i j:Int):b1A (.val (.int i)) (.val (.int j))=some (.val (.bool (decide (i<j)))):=Eq.trans rfl rfl
theorem a2S(i j:Int):a2R (.val (.int i)) (.val (.int j))=some (.val (.bool (decide (i<=j)))):=Eq.trans rfl rfl
theorem R6{i j:Int}(h: -18446744073709551616<i/\i<18446744073709551616):V0 (.val (.int i)) (.val (.int j))=some (.val (.int (i*j))):=(show _=b2O (.val (.int i)) (.val (.int j)) from rfl).trans (b8W h)
theorem b3Z(ps:List PV):b1z (.val (.tuple ps))=some (.own ps):=Eq.trans rfl rfl
theorem b7s{m:M}{ρ:g0}{l:List Nat}(h:m ρ=some (.val (.str (S l)))):a9t m ρ=some (l.map fun c=> .str (S [c])):=by
 unfold a9t
 rw [h,AD]
 show some ((S l).cps.toList.map _)=_
 rw [a4b]
 rfl
theorem b4c(i:Nat)(mi mv:M)(ρ:g0):b4b i mi mv ρ=((mv ρ).bind f6.toVal).bind fun p=>(mi ρ).bind (b76 i ρ p):=Eq.trans rfl rfl
def chK(g':f6->f6->Option f6)(mc:M)(ρ:g0)(y z:f6):Option f6:=(a9Z z).bind fun b=>if b=true then(mc ρ).bind fun w=>g' y w else some (.val (.bool false))
theorem l9(g g':f6->f6->Option f6)(ma mb mc:M)(ρ:g0):a2Y g g' ma mb mc ρ=(ma ρ).bind fun x=>(mb ρ).bind fun y=>(g x y).bind (chK g' mc ρ y):=Eq.trans rfl rfl
theorem a4e(g':f6->f6->Option f6)(mc:M)(ρ:g0)(y:f6):chK g' mc ρ y (.val (.bool true))=(mc ρ).bind fun w=>g' y w:=Eq.trans rfl rfl
theorem b2D(g':f6->f6->Option f6)(mc:M)(ρ:g0)(y:f6):chK g' mc ρ y (.val (.bool false))=some (.val (.bool false)):=Eq.trans rfl rfl
abbrev row(l:List Nat):PV:= .str (S l)
def c3b(rows:List (List Nat)):PV:= .tuple (rows.map row)
theorem b8Q(a b:List Nat):PyData.eqv (row a) (row b)=(a==b):=by
 show PyData.eqv (.str (S a)) (.str (S b))=_
 rw [show PyData.eqv (.str (S a)) (.str (S b))=(S a==S b) by simp only [PyData.eqv],c1J]
theorem b2I(a:List Nat)(n:Nat):C2 (row a) n=true:=by cases n<;>rfl
theorem b2M{body:MS}{tg:PV->g0->Option g0}{I:Nat->g0->Prop}:∀{ps:List PV} {ρ:g0} (k:Nat),(∀(i:Nat) p,ps[i]?=some p->∀ρ,I (k+i) ρ->∃ρ1 ρ2,tg p ρ=some ρ1/\(body ρ1=some (.nx ρ2)\/body ρ1=some (.ct ρ2))/\I (k+i+1) ρ2)->I k ρ->∃ρ',M4 body tg ps ρ=some (.nx ρ')/\I (k+ps.length) ρ'
 |[],ρ,k,_,h=>⟨ρ,rfl,h⟩
 |p::ps,ρ,k,s,h=>by
  obtain⟨ρ1,ρ2,h1,h2,h3⟩:=s 0 p rfl ρ h
  obtain⟨ρ',h4,h5⟩:=b2M (ps:=ps) (ρ:=ρ2) (k+1) (fun i q hq ρ hi=>by
   have e:k+1+i=k+(i+1):=by lia
   rw [e] at hi ⊢
   exact s (i+1) q (by simpa using hq) ρ hi) h3
  refine⟨ρ', ?_,by rw [AV];have e:k+(ps.length+1)=k+1+ps.length:=by lia
                   rw [e];exact h5⟩
  unfold M4
  rw [h1]
  show(body ρ1).bind _=_
  rcases h2 with h2|h2<;>rw [h2]<;>exact h4
theorem a0F{body:MS}{tg:PV->g0->Option g0}(I:Nat->g0->Prop){ps:List PV}{ρ:g0}(s:∀(i:Nat) p,ps[i]?=some p->∀ρ,I i ρ->∃ρ1 ρ2,tg p ρ=some ρ1/\(body ρ1=some (.nx ρ2)\/body ρ1=some (.ct ρ2))/\I (i+1) ρ2)(h:I 0 ρ):∃ρ',M4 body tg ps ρ=some (.nx ρ')/\I ps.length ρ':=by
 obtain⟨ρ',a,b⟩:=b2M (I:=I) 0 (fun i p hp ρ hi=>by rw [Nat.zero_add] at hi ⊢;exact s i p hp ρ hi) h
 rw [Nat.zero_add] at b
 exact⟨ρ',a,b⟩
theorem a1Q{body:MS}{tg:PV->g0->Option g0}{I:g0->Prop}{p:PV}{ρ ρ1 ρ2:g0}(h1:tg p ρ=some ρ1)(h2:body ρ1=some (.nx ρ2))(h3:I ρ2):∃ρ1 ρ2,tg p ρ=some ρ1/\(body ρ1=some (.nx ρ2)\/body ρ1=some (.ct ρ2))/\I ρ2:=⟨ρ1,ρ2,h1,.inl h2,h3⟩
theorem a66{lo hi:Int}{i:Nat}{p:PV}(h:(a1N lo hi)[i]?=some p):p= .int (lo+i)/\lo+i<hi:=by
 have hi':=(Aw.mp h).1
 rw [a91] at hi'
 rw [a90 hi'] at h
 cases h
 exact⟨rfl,by lia⟩
theorem a5w(n:Nat):a1N 0 (n:Int)=(Ac n).map fun k=> .int (k:Nat):=by
 unfold a1N
 have e:((n:Int) - 0).toNat=n:=by lia
 rw [e]
 exact List.map_congr_left fun k _=>by simp
theorem b55(k:Nat)(it:MI)(tg:PV->g0->Option g0)(c:MT)(elt:M)(ρ:g0):a4f k it tg c elt ρ=(it ρ).bind fun ps=>if ps.length<=AU then(a79 c elt tg (ρ++Ab k none) ps).bind fun r=>some (.own r) else none:=Eq.trans rfl rfl
theorem b0L{α:Type}{ι f:α->PV}{elt:M}{tg:PV->g0->Option g0}{ρ:g0}:∀{xs:List α},(∀x∈xs,∃ρ1,tg (ι x) ρ=some ρ1/\(elt ρ1).bind f6.toVal=some (f x))->a79 a4R elt tg ρ (xs.map ι)=some (xs.map f)
 |[],_=>rfl
 |x::xs,h=>by
  obtain⟨ρ1,h1,h2⟩:=h x Al
  rw [AH,AH]
  unfold a79
  rw [h1,AD]
  show((elt ρ1).bind f6.toVal).bind _=_
  rw [h2,AD,b0L fun y hy=>h y (Ak _ hy),AD]
theorem a0I{α:Type}{ι f:α->PV}{k:Nat}{it:MI}{elt:M}{tg:PV->g0->Option g0}{ρ:g0}(xs:List α)(h1:it ρ=some (xs.map ι))(h2:xs.length<=16777216)
 (h:∀x∈xs,∃ρ1,tg (ι x) (ρ++Ab k none)=some ρ1/\(elt ρ1).bind f6.toVal=some (f x)):a4f k it tg a4R elt ρ=some (.own (xs.map f)):=by
 rw [b55,h1,AD,if_pos (by rw [Ae,sizeLine_eq];exact h2),b0L h,AD]
theorem A7(m:M)(ρ:g0):T3 m ρ=((m ρ).bind f6.toVal).bind PyData.items?:=Eq.trans rfl rfl
theorem p3(m:M)(lo hi:MO)(ρ:g0):T4 m lo hi ρ=(m ρ).bind fun r=>(lo ρ).bind fun l=>(hi ρ).bind fun h=>gSl r l h:=Eq.trans rfl rfl
theorem B8(m:M)(ρ:g0):I0 m ρ=(m ρ).bind b40:=Eq.trans rfl rfl
theorem a0J(ρ:g0):a2e ρ=some none:=Eq.trans rfl rfl
theorem R7(i:Int):b40 (.val (.int i))=some (some i):=Eq.trans rfl rfl
theorem a2A{m:M}{ρ:g0}{r:f6}{ps:List PV}(h:m ρ=some r)(h2:PyData.items? r.rd=some ps):a0i m ρ=some ps:=by
 unfold a0i
 rw [h,AD,h2]
theorem b00{m:M}{ρ:g0}{n:Nat}(h:m ρ=some (.val (.int n)))(hn:n<4611686018427387904):a1z (b0 m f8) ρ=some ((Ac n).map fun k=> .int (k:Nat)):=by
 have e:b0 m f8 ρ=some [.int n]:=by rw [c9,h];rfl
 rw [Y2,e,AD,a2C (j:=(n:Int)) ⟨by lia,by lia⟩,a5w]
theorem a6b{sep:List Nat}{rows:List (List Nat)}{y:f6}(h:PyData.items? y.rd=some (rows.map row))(hl:(rows.map (·.length)).sum+rows.length*sep.length<=16777216):M5 (.val (.str (S sep))) y=some (.val (row (a1b sep rows))):=by
 have e1:a36 (rows.map row)=some (rows.map S):=by
  have:rows.map row=(rows.map S).map PyData.str:=by rw [At];rfl
  rw [this,b0b]
 have e2:((rows.map S).map (·.length))=rows.map (·.length):=by rw [At];exact List.map_congr_left fun a _=>a1x a
 unfold M5
 simp only [h,e1,AD,e2,Ae,a1x,if_pos hl,c0M]
theorem b31(ps:List PV):b1D (.bor ps)=some (.val (.tuple ps)):=Eq.trans rfl rfl
theorem A8{i:Nat}{m:M}{ρ:g0}{r:f6}{p:PV}{ps:List PV}(h1:m ρ=some r)(h2:r.toVal=some p)(h3:ρ[i]?=some (some (.own ps)))(h:ps.length<16777216):A1 i m ρ=some (.nx (ρ.set i (some (.own (ps++[p]))))):=by
 unfold A1
 rw [h1,AD,h2,AD,h3]
 simp only [sizeLine_eq,if_pos h]
theorem W1(p:f6)(ρ:g0):a1f 0 (some p::ρ)=some (.rt p):=Eq.trans rfl rfl
theorem W2(n:Nat)(r:Option f6)(ρ:g0):a1f (n+1) (r::ρ)=a1f n ρ:=Eq.trans rfl rfl
theorem a3f{ps:List PV}{n:Nat}(h:∀p∈ps,C2 p n=true):N6 ps n=true:=by
 induction ps with
 |nil=>rfl
 |cons p ps ih=>simp [N6,h p Al,ih fun q hq=>h q (Ak _ hq)]
theorem b8X(a b:List Nat):gNe (.val (row a)) (.val (row b))=some (.val (.bool (!(a==b)))):=by
 rw [b1B (x:= .val (row a)) (y:= .val (row b)) ⟨b2I a 50,b2I b 50⟩,b4s,b4s,b8Q]
def Df0(K:AE)(x:Str)(st:Stmt):Prop:=∃f fd,PySem.W.nsIn K mainGlobals x=some (some (.ref f))/\Fun K x x st f fd
def Df(K:AE)(mg:Str->Option AA)(x:Str)(st:Stmt):Prop:=∃f fd,Fun K x x st f fd/\mg x=some (.ref f)
theorem b6M{K:AE}{x:Str}{st:Stmt}{f:AB}{oc:AA}{od an:Option AB}{osl:Array (Option AA)}{kV doc pm cdv ct:AA}(a:PySem.W.nsIn K mainGlobals x=some (some (.ref f)))
 (l:K.lookup f=some ⟨oc,od,.func (PySem.W.fnOf x x (U0 st) (E5 st) (g8 st) .none kV doc pm an cdv ct),osl⟩) (c:PySem.W.codeIn K cdv x=true) (k:PySem.W.keepIn K (.ref f)=true):Df0 K x st:=⟨_,_,a,b3W l c k⟩
theorem Df0.to{K:AE}{h:Heap}{mg:Str->Option AA}{x:Str}{st:Stmt}(d:Df0 K x st)(X:K.In h)(G:h.Ns mainGlobals mg):Df K mg x st:=let ⟨f,fd,a,F⟩:=d;⟨f,fd,F,PySem.W.mg_of X G a⟩
theorem mkS{N P:List Str}{sc:Scope}(h1:sc.kind= .function:=by rfl)(h2:sc.isCoroutine=false:=by rfl)(h3:sc.isGenerator=false:=by rfl)(h4:N.Nodup:=by decide+kernel)(h5:N.take P.length=P:=by rfl)
 (h6:∀x∈P,sc.names.lookup x=some .local\/sc.names.lookup x=some .cell:=by decide+kernel) (h7:∀y∈sc.names,y.2≠.free:=by decide+kernel):j8 N P sc:=⟨h1,h2,h3,h4,h5,h6,h7⟩
section
variable {P:AK}{w:AJ}{K:AE}{mg:Str->Option AA}{base:Heap}
theorem k6{x:Str}{st:Stmt}{N ps:List Str}{k:Nat}{m:MS}(D:Df K mg x st)(S:j8 N ps (g8 st))
 (hi:∀(kV doc pm:AA) (an:Option AB) (cdv ct:AA) (us:List AA),us.length=ps.length->bindArgs (PySem.W.fnOf x x (U0 st) (E5 st) (g8 st) .none kV doc pm an cdv ct) ⟨us,[]⟩=pure (ps.zip us))
 (hb:∀(f:AB) (cdv:AA) (A:AL) (outer:List Env) (s:AC) (H:Hp) (E:XK),R9 k (A.deeper (envOfC x (g8 st) s.heap.objs.size f cdv))->ESs (a5H CX0 P w K mg base N x (g8 st) f cdv A outer s H E).nox (E5 st) m):
 i8 P w K mg base x ps (k+1) (k9 (N.length - ps.length) m):=
 let ⟨f,fd,F,hm⟩:=D
 ⟨f,fd,b6Y F S (hb f),hm,F.kp,F.binds hi⟩
theorem b83{fa:AB}{st:Stmt}{x:Str}{k:Nat}{g:List PV->Option f6}(D:Df K mg "law" st)(hfa:mg "law"=some (.ref fa))
 (hi:∀(kV doc pm:AA) (an:Option AB) (cdv ct v:AA),bindArgs (PySem.W.fnOf "law" "law" (U0 st) (E5 st) (g8 st) .none kV doc pm an cdv ct) ⟨[v],[]⟩=pure [(x,v)])
 (main:∀ns:List Int,ns.length<=63->g [.list (ns.map .int)]=some (.val (.bool true)))
 (H:∀(base:Heap) (f:AB) (fd:FuncData),K.In base->Fun K "law" "law" st f fd->a05 P w K mg base CX0 k f fd [x] (spP K 1 g)):
 ∃fd:FuncData,(∀(s:AC) (v:AA),BindsTo s fd ⟨[v],[]⟩ [(x,v)])/\∀base:Heap,K.In base->base.Ns mainGlobals mg->a05 P w K mg base CX0 k fa fd [x] (b3y K):=by
 obtain⟨f,fd,F,hm⟩:=D
 have e:=hfa.symm.trans hm
 cases e
 refine⟨fd,fun s v=> ?_,fun base kb _=>(H base _ fd kb F).imp (b84 main)⟩
 obtain⟨oc,od,kV,doc,pm,an,cdv,ct,osl,rfl,lk,hcd⟩:=F.ex
 exact .of_eq (hi kV doc pm an cdv ct v)
end
theorem el1{C:List AA->Prop}(h:∀a,C [a])(us:List AA)(e:us.length=1):C us:=by
 obtain⟨a,rfl⟩:=List.length_eq_one_iff.mp e
 exact h a
theorem elS{n:Nat}{us:List AA}(e:us.length=n+1):∃a t,us=a::t/\t.length=n:=by
 cases us with
 |nil=>cases e
 |cons a t=>exact⟨a,t,rfl,Nat.succ.inj e⟩
theorem el2{C:List AA->Prop}(h:∀a b,C [a,b])(us:List AA)(e:us.length=2):C us:=by
 obtain⟨a,t,rfl,z⟩:=elS e
 exact el1 (C:=fun t=>C (a::t)) (h a) t z
theorem el3{C:List AA->Prop}(h:∀a b c,C [a,b,c])(us:List AA)(e:us.length=3):C us:=by
 obtain⟨a,t,rfl,z⟩:=elS e
 exact el2 (C:=fun t=>C (a::t)) (h a) t z
theorem el4{C:List AA->Prop}(h:∀a b c d,C [a,b,c,d])(us:List AA)(e:us.length=4):C us:=by
 obtain⟨a,t,rfl,z⟩:=elS e
 exact el3 (C:=fun t=>C (a::t)) (h a) t z
section
variable {K:AE}{F:Hp}
end
section
variable {X:Cx}
end
section
variable {P:AK}{w:AJ}{K:AE}{mg:Str->Option AA}{base:Heap}
def Dm(K:AE)(x qual:Str)(st:Stmt)(f:AB):Prop:=PySem.W.isFn K (.ref f)=true/\∃fd,Fun K x qual st f fd
theorem c1R{x qual:Str}{st:Stmt}{f:AB}{oc:AA}{od an:Option AB}{osl:Array (Option AA)}{kV doc pm cdv ct:AA}
 (l:K.lookup f=some ⟨oc,od,.func (PySem.W.fnOf x qual (U0 st) (E5 st) (g8 st) .none kV doc pm an cdv ct),osl⟩) (c:PySem.W.codeIn K cdv qual=true) (k:PySem.W.keepIn K (.ref f)=true) (i:PySem.W.isFn K (.ref f)=true):Dm K x qual st f:=⟨i,_,b3W l c k⟩
end
section
variable {X:Cx}
end
def a8X(A:AL)(s:AC)(u v:AA)(b:Bool):Prop:=∀(prog:AK) (w:AJ) (E:AA->AC->Prop) (Q:AA->AC->Prop),Q (.bool b) s->AI (model prog w) A (richCompare .Lt u v) Q E s
section
open PySem.AutoSeq1 (wpAny_loadPart')
theorem b2k(l b:AB)(xs ys:Array AA)(n n2:Nat)(dd dd2:Option AB)(sl sl2:Array (Option AA))(e:Nat->Bool)(c:Bool):
 Meets (Builtin.«tuple.__lt__» ⟨[.ref l,.ref b],[]⟩)
  (fun A R s=>(s.heap.get? l=some {cls:= .type "tuple",dict:=dd,data:= .seq xs n,slots:=sl}/\s.heap.get? b=some {cls:= .type "tuple",dict:=dd2,data:= .seq ys n2,slots:=sl2})/\
   (∀j (h1:j<xs.size) (h2:j<ys.size),SeqAt.EqAt A.in1 s xs[j] ys[j] (e j))/\(∀j (h1:j<xs.size) (h2:j<ys.size),(∀k,k<j->e k=true)->e j=false->a8X A.in1 s xs[j] ys[j] c)/\
   ((∀k,k<min xs.size ys.size->e k=true)->c=decide (xs.size<ys.size))/\R (.ok (.ret (.bool c))) s):=
 .of_wp fun prog w A R s h=>by
  obtain⟨hp,g,d,tk,os⟩:=s
  obtain⟨⟨hl,hb⟩,he,hlt,hce,h⟩:=h
  have f2:=AutoSeq1.sub_tuple_tuple
  have hZ:(xs.toList.zip ys.toList).length=min xs.size ys.size:=by simp
  wp_walk using wpAny_loadPart' hl,wpAny_loadPart' hb,wpAny_forIn_list _ (fun C7 b s'=>b.1=none/\s'=⟨hp,g,d,tk,os⟩/\∃i,i<=min xs.size ys.size/\C7=(xs.toList.zip ys.toList).drop i/\∀k,k<i->e k=true) _
  case turn=>
   rintro⟨y,x⟩ C7 b s' ⟨hb',rfl,i,hi,hz,hR⟩
   have hlt':i<(xs.toList.zip ys.toList).length:=by
    rcases Nat.lt_or_ge i (xs.toList.zip ys.toList).length with h'|h'
    ·exact h'
    ·rw [List.drop_of_length_le h'] at hz;cases hz
   have hm:i<min xs.size ys.size:=by lia
   have h1:i<xs.size:=by lia
   have h2:i<ys.size:=by lia
   rw [List.drop_eq_getElem_cons hlt'] at hz
   injection hz with hyx hrest
   have hy:y=xs[i]:=by simpa using congrArg Prod.fst hyx
   have hx:x=ys[i]:=by simpa using congrArg Prod.snd hyx
   subst hy hx
   refine AG (he i h1 h2 prog w _ _ ?_)
   cases hq:e i with
   |true=>
    wp_walk
    exact⟨rfl,rfl,i+1,by lia,hrest,fun k hk=>by
     rcases Nat.lt_or_ge k i with h'|h'
     ·exact hR k h'
     ·rw [show k=i by lia];exact hq⟩
   |false=>
    have hl3:=hlt i h1 h2 hR hq
    show AI _ A.in1 (rule _>>=fun _=>richCompare .Lt xs[i] ys[i]>>=fun v=>ret v>>=fun q=>pure (ForInStep.done (some q,()))) _ _ _
    refine AG (wpAny_rule ?_)
    refine AG (hl3 prog w _ _ ?_)
    refine AG (Aa ?_)
    refine Aa ?_
    exact Aa ⟨_,rfl,h⟩
  case fin=>
   rintro⟨b1,b2⟩ s' ⟨hb',rfl,i,hi,hz,hR⟩
   simp only at hb'
   subst hb'
   have hge:min xs.size ys.size<=i:=by
    rcases Nat.lt_or_ge i (xs.toList.zip ys.toList).length with h'|h'
    ·rw [List.drop_eq_getElem_cons h'] at hz;cases hz
    ·lia
   wp_walk
   refine⟨_,rfl, ?_⟩
   rw [hce fun k hk=>hR k (by lia)] at h
   exact h
  case h=>
   exact⟨rfl,rfl,0,by lia,rfl,fun k hk=>by lia⟩
variable {A:AL}{s:AC}
theorem a8X.tuples{l b:AB}{xs ys:Array AA}{e:Nat->Bool}{c:Bool}(hl:s.heap.IsTuple l xs)(hb:s.heap.IsTuple b ys)(hu:A.units<cLine)
 (he:∀j (h1:j<xs.size) (h2:j<ys.size),SeqAt.EqAt A.in1 s xs[j] ys[j] (e j)) (hlt:∀j (h1:j<xs.size) (h2:j<ys.size),(∀k,k<j->e k=true)->e j=false->a8X A.in1 s xs[j] ys[j] c)
 (hce:(∀k,k<min xs.size ys.size->e k=true)->c=decide (xs.size<ys.size)):a8X A s (.ref l) (.ref b) c:=fun prog w E Q h=>by
 obtain⟨⟨c1,d1,t1,s1⟩,o1,e1,n1,k1⟩:=id hl
 obtain⟨⟨c2,d2,t2,s2⟩,o2,e2,n2,k2⟩:=id hb
 simp only at e1 k1 e2 k2
 subst e1 k1 e2 k2
 exact richCompare_meets_room (op:= .Lt) ⟨_,o1,rfl⟩ ⟨_,o2,rfl⟩ F.slot_tuple_lt F.entry_tuple_lt (F.args_tuple_lt_2 _ _) (b2k l b xs ys n1 n2 d1 d2 s1 s2 e c)
  ⟨⟨o1,o2⟩,he,hlt,hce,show Value.bool c≠Value.notImplemented/\Q (.bool c) s from⟨(fun x=>nomatch x),h⟩⟩ hu
theorem a8X.strs(a b:Str)(t u:Tok):a8X A s (.str a t) (.str b u) (decide (a.cps.toList<b.cps.toList)):=fun prog w E Q h=>lt_str h
end
section
variable {X:Cx}{pins:List (AB×Obj)}{σ:L2.St}{H:Hp}{s:AC}
end
section
variable {X:Cx}
end
section
variable {prog:AK}{w:AJ}{A:AL}{R:Result->AC->Prop}{I:AB}{fp wr:List AB}{n:Nat}{P:Nat->AA->Prop}{St:Nat->Heap->Prop}
end
section
variable {prog:AK}{w:AJ}{A:AL}{E:AA->AC->Prop}{s:AC}
end
section
variable {X:Cx}
end
end PU
namespace TS
open PySem PyProof.Rows
abbrev SM(α:Type):=StateT SortSt Sem α
def g(a:Array Keyed)(i:Nat):Keyed:=(a[i]?).getD (Value.none,Value.none)
theorem b7b{a:Array Keyed}{i:Nat}(h:i<a.size):a[i]?=some (g a i):=by
 unfold g;rw [getElem?_pos a i h];rfl
theorem c1Y{a:Array Keyed}{i:Nat}(h:i<a.size):g a i∈a.toList:=by
 have:=b7b h
 exact Array.mem_toList_iff.mpr (Array.mem_of_getElem? this)
theorem b33{a:Array Keyed}{i:Nat}(h:i<a.size):a.toList[i]?=some (g a i):=by
 rw [Array.getElem?_toList];exact b7b h
section
variable {prog:AK}{w:AJ}{A:AL}{E:AA->AC->Prop}{s:AC}
structure Cmp(prog:AK)(w:AJ)(A:AL)(E:AA->AC->Prop)(s:AC)(κ:SortKind)(S:Keyed->Prop)(R:Keyed->Keyed->Bool):Prop where
 lt:∀x y,S x->S y->∀(st:SortSt) (Q:Option Bool->SortSt->Prop),kindOf st=κ->Q (some (R x y)) st->wpS (model prog w) A E s (lt' x y) Q st
 tr:∀x y z,S x->S y->S z->R y x=false->R z y=false->R z x=false
 as:∀x y,S x->S y->R x y=true->R y x=false
variable {κ:SortKind}{S:Keyed->Prop}{R:Keyed->Keyed->Bool}
end
def Seg(R:Keyed->Keyed->Bool)(a:Array Keyed)(lo hi:Nat):Prop:=∀i j,lo<=i->i<=j->j<hi->R (g a j) (g a i)=false
def Fix(lo:Nat)(a b:Array Keyed):Prop:=∀i,i<lo->g b i=g a i
theorem Fix.refl{lo:Nat}{a:Array Keyed}:Fix lo a a:=fun _ _=>rfl
theorem Fix.trans{lo:Nat}{a b c:Array Keyed}(h:Fix lo a b)(k:Fix lo b c):Fix lo a c:=fun i hi=>(k i hi).trans (h i hi)
structure B(κ:SortKind)(a₀:Array Keyed)(st:SortSt):Prop where
 perm:(arrOf st).Perm a₀
 kind:kindOf st=κ
 failed:failedOf st=none
section
variable {prog:AK}{w:AJ}{A:AL}{E:AA->AC->Prop}{s:AC}
variable {κ:SortKind}{S:Keyed->Prop}{R:Keyed->Keyed->Bool}{a₀:Array Keyed}
theorem B.size{st:SortSt}(h:B κ a₀ st):(arrOf st).size=a₀.size:=h.perm.size_eq
theorem B.set{st:SortSt}(h:B κ a₀ st){xs:Array Keyed}(hp:xs.Perm (arrOf st)):B κ a₀ (setArr st xs):=⟨hp.trans h.perm,h.kind,h.failed⟩
theorem B.sg{st:SortSt}(h:B κ a₀ st)(hS:∀p∈a₀.toList,S p){i:Nat}(hi:i<a₀.size):S (g (arrOf st) i):=
 hS _ ((Array.perm_iff_toList_perm.mp h.perm).mem_iff.mp (c1Y (by rw [h.size];exact hi)))
def up(lo a nrem:Nat):SM (Option (Option Nat)×Nat):=
 forIn [a:nrem] ((none,a):Option (Option Nat)×Nat) fun _ c=>do
  let t<-ltAt' (lo+c.2) (lo+c.2 - 1)
  match t with
  |some b=>if b=true then pure (.done (none,c.2)) else pure (.yield (none,c.2+1))
  |_=>pure (.done (some none,c.2))
def dn(lo n nrem:Nat):SM (Option (Option Nat)×Nat×Nat):=
 forIn [n:nrem] ((none,n,0):Option (Option Nat)×Nat×Nat) fun _ c=>do
  let t<-ltAt' (lo+c.2.1) (lo+c.2.1 - 1)
  match t with
  |some b=>
   if b=true then
    if c.2.2>0 then do
     reverseSlice' (lo+c.2.1 - (c.2.2+1)) (lo+c.2.1)
     pure (.yield (none,c.2.1+1,0))
    else pure (.yield (none,c.2.1+1,0))
   else do
    let t<-ltAt' (lo+c.2.1 - 1) (lo+c.2.1)
    match t with
    |some b=>if b=true then pure (.done (none,c.2.1,c.2.2)) else pure (.yield (none,c.2.1+1,c.2.2+1))
    |_=>pure (.done (some none,c.2.1,c.2.2))
  |_=>pure (.done (some none,c.2.1,c.2.2))
end
def le(R:Keyed->Keyed->Bool)(x y:Keyed):Prop:=R y x=false
def Mg(R:Keyed->Keyed->Bool)(W out la lb:List Keyed):Prop:=(out++la).Pairwise (le R)/\(out++lb).Pairwise (le R)/\(out++(la++lb)).Perm W
section
variable {R:Keyed->Keyed->Bool}{W out la lb xs:List Keyed}
theorem Mg.takeA(h:Mg R W out (xs++la) lb)(k:∀x∈xs,∀y∈lb,le R x y):Mg R W (out++xs) la lb:=by
 obtain⟨h1,h2,h3⟩:=h
 have e1:=List.pairwise_append.mp (show((out++xs)++la).Pairwise (le R) by rw [List.append_assoc];exact h1)
 have e2:=List.pairwise_append.mp h2
 refine⟨by rw [List.append_assoc];exact h1,List.pairwise_append.mpr ⟨e1.1,e2.2.1,fun x hx y hy=> ?_⟩,by rw [List.append_assoc,<-List.append_assoc xs];exact h3⟩
 rcases Av.mp hx with hx|hx
 ·exact e2.2.2 x hx y hy
 ·exact k x hx y hy
theorem Mg.swap(h:Mg R W out la lb):Mg R W out lb la:=⟨h.2.1,h.1,(List.Perm.append_left out List.perm_append_comm).trans h.2.2⟩
theorem Mg.takeB(h:Mg R W out la (xs++lb))(k:∀x∈xs,∀y∈la,le R x y):Mg R W (out++xs) la lb:=(h.swap.takeA k).swap
def b0i(R:Keyed->Keyed->Bool)(W r:List Keyed):Prop:=r.Pairwise (le R)/\r.Perm W
theorem Mg.doneB(h:Mg R W out la []):b0i R W (out++la):=⟨h.1,by have:=h.2.2;rwa [Ad] at this⟩
theorem Mg.doneA(h:Mg R W out [] lb):b0i R W (out++lb):=⟨h.2.1,h.2.2⟩
theorem Mg.last{x:Keyed}(h:Mg R W out [x] lb)(k:∀y∈lb,le R y x):b0i R W ((out++lb)++[x]):=by
 obtain⟨h1,h2,h3⟩:=h
 have e1:=List.pairwise_append.mp h1
 refine⟨List.pairwise_append.mpr ⟨h2,e1.2.1,fun y hy z hz=> ?_⟩, ?_⟩
 ·cases List.mem_singleton.mp hz
  rcases Av.mp hy with hy|hy
  ·exact e1.2.2 y hy x (List.mem_singleton.mpr rfl)
  ·exact k y hy
 ·rw [List.append_assoc]
  exact(List.Perm.append_left out List.perm_append_comm).trans h3
end
theorem a5s{a:Array Keyed}{i:Nat}(h:i<a.size):a.toList.drop i=g a i::a.toList.drop (i+1):=by
 have h':i<a.toList.length:=h
 rw [List.drop_eq_getElem_cons h']
 congr 1
 have:=b33 h
 rw [Ax h'] at this
 exact Option.some.inj this
theorem a9v{a:Array Keyed}{i:Nat}{x:Keyed}(h:x∈a.toList.drop i):∃j,i<=j/\j<a.size/\x=g a j:=by
 obtain⟨k,hk,e⟩:=List.mem_iff_getElem.mp h
 have hk':i+k<a.size:=by rw [List.length_drop] at hk;have:a.toList.length=a.size:=rfl;lia
 refine⟨i+k,by lia,hk', ?_⟩
 have e2:=b33 hk'
 rw [List.getElem_drop] at e
 rw [Ax (show i+k<a.toList.length from hk')] at e2
 exact e.symm.trans (Option.some.inj e2)
theorem a4S{a:Array Keyed}{i k:Nat}{x:Keyed}(h:x∈(a.toList.drop i).take k)(hk:i+k<=a.size):∃j,j<k/\x=g a (i+j):=by
 obtain⟨q,hq,e⟩:=List.mem_iff_getElem.mp h
 rw [List.length_take,List.length_drop] at hq
 rw [List.getElem_take,List.getElem_drop] at e
 refine⟨q,by lia, ?_⟩
 have hk':i+q<a.size:=by lia
 have e2:=b33 hk'
 rw [Ax (show i+q<a.toList.length from hk')] at e2
 exact e.symm.trans (Option.some.inj e2)
theorem Z8(a:Array Keyed)(i j:Nat):(a.extract i j).toList=(a.toList.drop i).take (j - i):=by
 rw [Array.toList_extract,List.extract_eq_take_drop]
theorem a8K{a:Array Keyed}{i:Nat}:(a.extract i a.size).toList=a.toList.drop i:=by
 rw [Z8,List.take_of_length_le]
 rw [List.length_drop];exact AZ _
section
variable {prog:AK}{w:AJ}{A:AL}{E:AA->AC->Prop}{s:AC}
variable {κ:SortKind}{S:Keyed->Prop}{R:Keyed->Keyed->Bool}
structure Sm(st st':SortSt):Prop where
 k:kindOf st'=kindOf st
 a:arrOf st'=arrOf st
 p:pendingOf st'=pendingOf st
 f:failedOf st'=failedOf st
theorem Sm.refl{st:SortSt}:Sm st st:=⟨rfl,rfl,rfl,rfl⟩
def rs(a b o:Array Keyed)(i j:Nat):Array Keyed:=o++a.extract i a.size++b.extract j b.size
def D(R:Keyed->Keyed->Bool)(a b o:Array Keyed)(i j:Nat):Prop:=Mg R (a.toList++b.toList) o.toList (a.toList.drop i) (b.toList.drop j)
structure Two(S:Keyed->Prop)(R:Keyed->Keyed->Bool)(a b:Array Keyed):Prop where
 Sa:∀i,i<a.size->S (g a i)
 Sb:∀i,i<b.size->S (g b i)
 sa:Seg R a 0 a.size
 sb:Seg R b 0 b.size
 pa:0<a.size
 pb:0<b.size
 lo:∀i,i<a.size->le R (g b 0) (g a i)
 hi:∀j,j<b.size->le R (g b j) (g a (a.size - 1))
theorem D.takeAk(C:Cmp prog w A E s κ S R){a b o:Array Keyed}{i j k:Nat}(T:Two S R a b)(h:D R a b o i j)(hk:i+k<=a.size)(hj:j<b.size)(q:∀l,l<k->le R (g a (i+l)) (g b j)):
 D R a b (o++a.extract i (i+k)) (i+k) j:=by
 unfold D at h ⊢
 rw [Array.toList_append,Z8,show i+k - i=k by lia]
 refine Mg.takeA (by rw [<-List.drop_drop,List.take_append_drop];exact h) fun x hx y hy=> ?_
 obtain⟨l,hl,rfl⟩:=a4S hx hk
 obtain⟨m,hm,hm2,rfl⟩:=a9v hy
 exact C.tr _ (g b j) _ (T.Sa _ (by lia)) (T.Sb _ hj) (T.Sb _ hm2) (q l hl) (T.sb j m (by lia) hm hm2)
theorem D.takeBk(C:Cmp prog w A E s κ S R){a b o:Array Keyed}{i j k:Nat}(T:Two S R a b)(h:D R a b o i j)(hk:j+k<=b.size)(hi:i<a.size)(q:∀l,l<k->le R (g b (j+l)) (g a i)):
 D R a b (o++b.extract j (j+k)) i (j+k):=by
 unfold D at h ⊢
 rw [Array.toList_append,Z8,show j+k - j=k by lia]
 refine Mg.takeB (by rw [<-List.drop_drop,List.take_append_drop];exact h) fun x hx y hy=> ?_
 obtain⟨l,hl,rfl⟩:=a4S hx hk
 obtain⟨m,hm,hm2,rfl⟩:=a9v hy
 exact C.tr _ (g a i) _ (T.Sb _ (by lia)) (T.Sa _ hi) (T.Sa _ hm2) (q l hl) (T.sa i m (by lia) hm hm2)
theorem a9U{o a:Array Keyed}{i:Nat}(h:i<a.size):o.push (g a i)=o++a.extract i (i+1):=by
 apply Array.toList_inj.mp
 rw [Array.toList_push,Array.toList_append,Z8,a5s h,show i+1 - i=1 by lia]
 rfl
theorem D.takeA(C:Cmp prog w A E s κ S R){a b o:Array Keyed}{i j:Nat}(T:Two S R a b)(h:D R a b o i j)(hi:i<a.size)(hj:j<b.size)(q:le R (g a i) (g b j)):D R a b (o.push (g a i)) (i+1) j:=by
 rw [a9U hi]
 exact h.takeAk C T (by lia) hj fun l hl=>by rw [show i+l=i by lia];exact q
theorem D.takeB(C:Cmp prog w A E s κ S R){a b o:Array Keyed}{i j:Nat}(T:Two S R a b)(h:D R a b o i j)(hi:i<a.size)(hj:j<b.size)(q:le R (g b j) (g a i)):D R a b (o.push (g b j)) i (j+1):=by
 rw [a9U hj]
 exact h.takeBk C T (by lia) hi fun l hl=>by rw [show j+l=j by lia];exact q
theorem D.done{a b o:Array Keyed}{i j:Nat}(h:D R a b o i j)(e:i=a.size\/j=b.size):b0i R (a.toList++b.toList) (rs a b o i j).toList:=by
 unfold rs
 rw [Array.toList_append,Array.toList_append,a8K,a8K]
 unfold D at h
 have nil:∀c:Array Keyed,c.toList.drop c.size=[]:=fun c=>List.drop_eq_nil_of_le (AZ _)
 rcases e with rfl|rfl
 ·rw [nil] at h ⊢;rw [Ad];exact h.doneA
 ·rw [nil] at h ⊢;rw [Ad];exact h.doneB
theorem D.last{a b o:Array Keyed}{i j:Nat}(T:Two S R a b)(h:D R a b o i j)(e:i+1=a.size):b0i R (a.toList++b.toList) (rs b a o j i).toList:=by
 unfold rs
 rw [Array.toList_append,Array.toList_append,a8K,a8K]
 unfold D at h
 have e1:a.toList.drop i=[g a (a.size - 1)]:=by
  rw [a5s (by lia),e,show i=a.size - 1 by lia]
  congr 1
  exact List.drop_eq_nil_of_le (AZ _)
 rw [e1] at h ⊢
 exact h.last fun y hy=>by
  obtain⟨m,hm,hm2,rfl⟩:=a9v hy
  exact T.hi m hm2
section
variable {a b o:Array Keyed}{st st':SortSt}{i j mg u v x₀ x:Nat}
end
section
variable {a b:Array Keyed}{st st':SortSt}{x₀ x mg:Nat}
end
end
def Mh(R:Keyed->Keyed->Bool)(W out la lb:List Keyed):Prop:=(la++out).Pairwise (le R)/\(lb++out).Pairwise (le R)/\((la++lb)++out).Perm W
section
variable {R:Keyed->Keyed->Bool}{W out la lb xs:List Keyed}
theorem Mh.swap(h:Mh R W out la lb):Mh R W out lb la:=⟨h.2.1,h.1,(List.Perm.append_right out List.perm_append_comm).trans h.2.2⟩
theorem Mh.takeA(h:Mh R W out (la++xs) lb)(k:∀x∈xs,∀y∈lb,le R y x):Mh R W (xs++out) la lb:=by
 obtain⟨h1,h2,h3⟩:=h
 have e1:=List.pairwise_append.mp (show(la++(xs++out)).Pairwise (le R) by rw [<-List.append_assoc];exact h1)
 have e2:=List.pairwise_append.mp h2
 refine⟨by rw [<-List.append_assoc];exact h1,List.pairwise_append.mpr ⟨e2.1,e1.2.1,fun y hy x hx=> ?_⟩, ?_⟩
 ·rcases Av.mp hx with hx|hx
  ·exact k x hx y hy
  ·exact e2.2.2 y hy x hx
 ·refine List.Perm.trans ?_ h3
  rw [<-List.append_assoc]
  refine List.Perm.append_right out ?_
  rw [List.append_assoc,List.append_assoc]
  exact List.Perm.append_left la List.perm_append_comm
theorem Mh.takeB(h:Mh R W out la (lb++xs))(k:∀x∈xs,∀y∈la,le R y x):Mh R W (xs++out) la lb:=(h.swap.takeA k).swap
theorem Mh.doneB(h:Mh R W out la []):b0i R W (la++out):=⟨h.1,by have:=h.2.2;rwa [Ad] at this⟩
theorem Mh.doneA(h:Mh R W out [] lb):b0i R W (lb++out):=⟨h.2.1,h.2.2⟩
theorem Mh.first{x:Keyed}(h:Mh R W out la [x])(k:∀y∈la,le R x y):b0i R W ([x]++(la++out)):=by
 obtain⟨h1,h2,h3⟩:=h
 have e2:=List.pairwise_append.mp h2
 refine⟨List.pairwise_append.mpr ⟨e2.1,h1,fun y hy z hz=> ?_⟩, ?_⟩
 ·cases List.mem_singleton.mp hy
  rcases Av.mp hz with hz|hz
  ·exact k z hz
  ·exact e2.2.2 x (List.mem_singleton.mpr rfl) z hz
 ·rw [<-List.append_assoc]
  exact(List.Perm.append_right out List.perm_append_comm).trans h3
end
theorem a9w{a:Array Keyed}{n:Nat}{x:Keyed}(hn:n<=a.size)(h:x∈a.toList.take n):∃j,j<n/\x=g a j:=by
 obtain⟨j,hj,e⟩:=a4S (i:=0) (k:=n) (a:=a) (x:=x) (by rwa [List.drop_zero]) (by lia)
 exact⟨j,hj,by rwa [Nat.zero_add] at e⟩
theorem b0c{a:Array Keyed}{m n:Nat}(h:m<=n):a.toList.take n=a.toList.take m++(a.extract m n).toList:=by
 rw [Z8,<-List.take_add,show m+(n - m)=n by lia]
theorem a6F(a:Array Keyed)(n:Nat):(a.extract 0 n).toList=a.toList.take n:=by
 rw [Z8,List.drop_zero,Nat.sub_zero]
section
variable {prog:AK}{w:AJ}{A:AL}{E:AA->AC->Prop}{s:AC}
variable {κ:SortKind}{S:Keyed->Prop}{R:Keyed->Keyed->Bool}
def rh(a b o:Array Keyed)(i j:Nat):Array Keyed:=a.extract 0 i++b.extract 0 j++o.reverse
def H(R:Keyed->Keyed->Bool)(a b o:Array Keyed)(i j:Nat):Prop:=Mh R (a.toList++b.toList) o.toList.reverse (a.toList.take i) (b.toList.take j)
theorem H.takeAk(C:Cmp prog w A E s κ S R){a b o:Array Keyed}{i j m:Nat}(T:Two S R a b)(h:H R a b o i j)(hi:i<=a.size)(hm:m<=i)(hj:j<=b.size)(h0:0<j)(q:∀l,m<=l->l<i->le R (g b (j - 1)) (g a l)):
 H R a b (o++(a.extract m i).reverse) m j:=by
 unfold H at h ⊢
 rw [b0c hm] at h
 rw [Array.toList_append,Array.toList_reverse,List.reverse_append,List.reverse_reverse]
 refine Mh.takeA h fun x hx y hy=> ?_
 rw [Z8] at hx
 obtain⟨l,hl,rfl⟩:=a4S hx (by lia)
 obtain⟨k,hk,rfl⟩:=a9w hj hy
 exact C.tr _ (g b (j - 1)) _ (T.Sb _ (by lia)) (T.Sb _ (by lia)) (T.Sa _ (by lia)) (T.sb k (j - 1) (by lia) (by lia) (by lia)) (q _ (by lia) (by lia))
theorem H.takeBk(C:Cmp prog w A E s κ S R){a b o:Array Keyed}{i j m:Nat}(T:Two S R a b)(h:H R a b o i j)(hj:j<=b.size)(hm:m<=j)(hi:i<=a.size)(h0:0<i)(q:∀l,m<=l->l<j->le R (g a (i - 1)) (g b l)):
 H R a b (o++(b.extract m j).reverse) i m:=by
 unfold H at h ⊢
 rw [b0c hm] at h
 rw [Array.toList_append,Array.toList_reverse,List.reverse_append,List.reverse_reverse]
 refine Mh.takeB h fun x hx y hy=> ?_
 rw [Z8] at hx
 obtain⟨l,hl,rfl⟩:=a4S hx (by lia)
 obtain⟨k,hk,rfl⟩:=a9w hi hy
 exact C.tr _ (g a (i - 1)) _ (T.Sa _ (by lia)) (T.Sa _ (by lia)) (T.Sb _ (by lia)) (T.sa k (i - 1) (by lia) (by lia) (by lia)) (q _ (by lia) (by lia))
theorem b3l{o a:Array Keyed}{i:Nat}(h:i<a.size):o.push (g a i)=o++(a.extract i (i+1)).reverse:=by
 rw [a9U h]
 congr 1
 apply Array.toList_inj.mp
 rw [Array.toList_reverse,Z8,a5s h,show i+1 - i=1 by lia]
 rfl
theorem H.takeA(C:Cmp prog w A E s κ S R){a b o:Array Keyed}{i j:Nat}(T:Two S R a b)(h:H R a b o i j)(hi:i<=a.size)(hi0:0<i)(hj:j<=b.size)(h0:0<j)(q:le R (g b (j - 1)) (g a (i - 1))):H R a b (o.push (g a (i - 1))) (i - 1) j:=by
 rw [b3l (by lia),show i - 1+1=i by lia]
 exact h.takeAk C T hi (by lia) hj h0 fun l h1 h2=>by rw [show l=i - 1 by lia];exact q
theorem H.takeB(C:Cmp prog w A E s κ S R){a b o:Array Keyed}{i j:Nat}(T:Two S R a b)(h:H R a b o i j)(hj:j<=b.size)(hj0:0<j)(hi:i<=a.size)(h0:0<i)(q:le R (g a (i - 1)) (g b (j - 1))):H R a b (o.push (g b (j - 1))) i (j - 1):=by
 rw [b3l (by lia),show j - 1+1=j by lia]
 exact h.takeBk C T hj (by lia) hi h0 fun l h1 h2=>by rw [show l=j - 1 by lia];exact q
theorem H.done{a b o:Array Keyed}{i j:Nat}(h:H R a b o i j)(e:i=0\/j=0):b0i R (a.toList++b.toList) (rh a b o i j).toList:=by
 unfold rh
 rw [Array.toList_append,Array.toList_append,a6F,a6F,Array.toList_reverse]
 unfold H at h
 rcases e with rfl|rfl
 ·rw [List.take_zero] at h ⊢;exact h.doneA
 ·rw [List.take_zero] at h ⊢;rw [Ad];exact h.doneB
theorem H.first{a b o:Array Keyed}{i j:Nat}(T:Two S R a b)(h:H R a b o i j)(hi:i<=a.size)(e:j=1):b0i R (a.toList++b.toList) (rh b a o j i).toList:=by
 unfold rh
 rw [Array.toList_append,Array.toList_append,a6F,a6F,Array.toList_reverse]
 unfold H at h
 subst e
 have e1:b.toList.take 1=[g b 0]:=by
  have:=a5s (a:=b) T.pb
  rw [List.drop_zero] at this
  rw [this];rfl
 rw [e1] at h ⊢
 rw [List.append_assoc]
 exact h.first fun y hy=>by
  obtain⟨m,hm,rfl⟩:=a9w hi hy
  exact T.lo m (by lia)
section
variable {a b o:Array Keyed}{st st':SortSt}{i j mg u v x₀ x:Nat}
end
section
variable {a b:Array Keyed}{st st':SortSt}{x₀ x mg:Nat}
end
end
def sp(r:Array Keyed)(d:Nat)(a:Array Keyed):Array Keyed:=r.toList.zipIdx.foldl (fun a (p,j)=>a.setIfInBounds (d+j) p) a
section
variable {prog:AK}{w:AJ}{A:AL}{E:AA->AC->Prop}{s:AC}
variable {κ:SortKind}{S:Keyed->Prop}{R:Keyed->Keyed->Bool}{a₀:Array Keyed}
end
def Cov(R:Keyed->Keyed->Bool)(a:Array Keyed):List (Nat×Nat×Nat)->Nat->Nat->Prop
 |[],f,t=>f=t
 |(p,n,_)::r,f,t=>p=f/\1<=n/\Seg R a p (p+n)/\Cov R a r (p+n) t
section
variable {R:Keyed->Keyed->Bool}{a b:Array Keyed}
theorem Cov.le:∀{l:List (Nat×Nat×Nat)} {f t:Nat},Cov R a l f t->f+l.length<=t
 |[],f,t,h=>by have:f=t:=h;rw [Af];lia
 |(p,n,e)::r,f,t,h=>by
  obtain⟨h1,h2,_,h4⟩:=h
  have:=h4.le
  rw [AV];lia
theorem Cov.same:∀{l:List (Nat×Nat×Nat)} {f t:Nat},Cov R a l f t->(∀j,f<=j->j<t->g b j=g a j)->Cov R b l f t
 |[],f,t,h,_=>h
 |(p,n,e)::r,f,t,h,k=>by
  obtain⟨h1,h2,h3,h4⟩:=h
  have:=h4.le
  refine⟨h1,h2,fun i j hi hij hj=> ?_,h4.same fun j h5 h6=>k j (by lia) h6⟩
  rw [k i (by lia) (by lia),k j (by lia) (by lia)]
  exact h3 i j hi hij hj
theorem Cov.split:∀{l m:List (Nat×Nat×Nat)} {f t:Nat},Cov R a (l++m) f t->∃u,Cov R a l f u/\Cov R a m u t
 |[],m,f,t,h=>⟨f,rfl,h⟩
 |(p,n,e)::r,m,f,t,h=>by
  obtain⟨h1,h2,h3,h4⟩:=h
  obtain⟨u,h5,h6⟩:=h4.split
  exact⟨u,⟨h1,h2,h3,h5⟩,h6⟩
theorem Cov.join:∀{l m:List (Nat×Nat×Nat)} {f u t:Nat},Cov R a l f u->Cov R a m u t->Cov R a (l++m) f t
 |[],m,f,u,t,h,k=>by have:f=u:=h;subst this;exact k
 |(p,n,e)::r,m,f,u,t,h,k=>⟨h.1,h.2.1,h.2.2.1,h.2.2.2.join k⟩
end
section
variable {prog:AK}{w:AJ}{A:AL}{E:AA->AC->Prop}{s:AC}
variable {κ:SortKind}{S:Keyed->Prop}{R:Keyed->Keyed->Bool}{a₀:Array Keyed}
end
open PySem PySem.Spec PyProof.Rows
section
variable {prog:AK}{w:AJ}{A:AL}{E:AA->AC->Prop}{s:AC}
variable {κ:SortKind}{S:Keyed->Prop}{R:Keyed->Keyed->Bool}
end
open PySem PySem.Spec PyProof.Rows L2 PU
section
variable {prog:AK}{w:AJ}{A:AL}{E:AA->AC->Prop}{s:AC}
variable {κ:SortKind}{S:Keyed->Prop}{R:Keyed->Keyed->Bool}
end
end TS
namespace PU
open PySem PySem.Spec PyProof.Rows L2
section
variable {α:Type}{lt:α->α->Bool}
end
open PySem PySem.Spec PyProof.Rows L2 PySem.W
theorem b37:∀{a b:B0},kV a=kV b->a=b
 | .inl _,.inl _,h=>by cases h;rfl
 | .inr _,.inr _,h=>by cases h;rfl
 | .inl _,.inr _,h=>nomatch h
 | .inr _,.inl _,h=>nomatch h
theorem a8P:∀{a b:List B0},a.map kV=b.map kV->a=b
 |[],[],_=>rfl
 |[],_::_,h=>nomatch h
 |_::_,[],h=>nomatch h
 |x::a,y::b,h=>by
  rw [AH,AH] at h
  obtain⟨h1,h2⟩:=List.cons.inj h
  rw [b37 h1,a8P h2]
def b5E(h:Heap)(u:AA)(k:List B0):Prop:=∃(a:AB) (o:Obj) (xs:Array AA) (n:Nat),u= .ref a/\h.get? a=some o/\o.cls= .type "tuple"/\o.data= .seq xs n/\t7 (k.map kV) xs.toList
theorem b5E.inj{h:Heap}{u:AA}{k j:List B0}(a:b5E h u k)(b:b5E h u j):k=j:=by
 obtain⟨a1,o1,x1,n1,rfl,g1,_,d1,v1⟩:=a
 obtain⟨a2,o2,x2,n2,e2,g2,_,d2,v2⟩:=b
 cases e2
 rw [g1] at g2;cases g2
 rw [d1] at d2;cases d2
 exact a8P (v1.inj v2)
theorem b5E.keep{h h':Heap}{u:AA}{k:List B0}(a:b5E h u k)(kp:∀b o,h.get? b=some o->h'.get? b=some o):b5E h' u k:=
 let ⟨a1,o1,x1,n1,e,g1,c,d1,v1⟩:=a;⟨a1,o1,x1,n1,e,kp _ _ g1,c,d1,v1⟩
section
variable {prog:AK}{w:AJ}{A:AL}{E:AA->AC->Prop}{s:AC}
end
section
variable {prog:AK}{w:AJ}{A:AL}{E:AA->AC->Prop}{s:AC}
end
section
variable {X:Cx}{pins:List (AB×Obj)}{σ:L2.St}{F H:Hp}{s:AC}
end
section
variable {X:Cx}
end
section
variable {X:Cx}
end
def a8S(i:Nat)(m:M):MS:=fun ρ=>(m ρ).bind fun r=>match r with
 | .ow (.lst qs)=>match ρ[i]? with
   |some (some (.ow (.lst ps)))=>if ps.length+qs.length<=AU then some (.nx (ρ.set i (some (.own (ps++qs))))) else none
   |_=>none
 |_=>none
section
variable {X:Cx}
theorem b5R(i:Nat){x:Str}{p apos cpos pos:Pos}{e:AF}{m:M}(hx:PE X (.Name x p) (b3D i))(ha:EE X e m)
 (hbase:attributeBase (.Name x p) "extend" X.env (eval (.Name x p) X.env)=eval (.Name x p) X.env:=by rfl)
 (hfew:((backTo cpos (AM [e] X.env)).all (fun x=> !x.1)&&(backToKw cpos (keywordEach [] X.env)).all (fun x=>x.1.isSome)
  && decide ([e].length+([]:List Keyword).length+(if([]:List Keyword).isEmpty then 0 else 1)<30))=true:=by rfl)
 (hline:(apos.endLine==cpos.line)=true:=by rfl) (hs:AM [e] X.env=(false,eval e X.env)::AM [] X.env:=by rfl) (hplain:(backTo cpos (AM [] X.env)).any (·.1)=false:=by rfl)
 (hsw:swapsWith (.Call (.Attribute (.Name x p) "extend" apos) [e] [] cpos) none pos.line X.env=pure false:=by rfl):
 ES X (.Expr (.Call (.Attribute (.Name x p) "extend" apos) [e] [] cpos) pos) (a8S i m):=
 L5 (b19 (b3h PySem.F.plainAttrs_list PySem.F.slot_list_extend PySem.F.type_list_extend b58 hx (J7 ha a0K hs) hbase hfew hline hs hplain) hsw) fun D σ H ⟨F0,H0,F,ρ,fl,so,e,fin⟩=>by
  obtain⟨r,e1,e⟩:=bind_some e
  split at e
  ·rename_i qs
   split at e
   ·rename_i ps eo
    split at e
    ·rename_i c
     cases e
     obtain⟨v,h1,a,xs,rfl,fa,ha',rl⟩:=so.e.at_ i _ eo
     refine⟨.ref a,h1,.inl ⟨rfl,xs,SqL.of ha'⟩,F,ρ,_,so.e,e1,fun w F1 H1 o=> ?_⟩
     obtain⟨b,zs,rfl,fb,hb,rb⟩:=o.rep
     have so2:=so.ext o.x
     refine⟨a,b,xs,zs,rfl,rfl,o.x.h _ _ ha',hb,by rw [rl.length,rb.length];exact c, ?_⟩
     exact fin σ F1 _ o.x.f (so2.put eo h1 ((p4.mono o.x.f _ rl).append rb))
    ·cases e
   ·cases e
  ·cases e
end
def b2x(h:Heap)(d:AB)(es:Array DictEntry)(ep:Nat):Prop:=∃o,h.get? d=some o/\o.ExactDict/\o.data= .dict es ep
section
variable {prog:AK}{w:AJ}{A:AL}{E:AA->AC->Prop}{s:AC}{it d:AB}{i ep:Nat}{es:Array DictEntry}
theorem b2x.type(h:b2x s.heap d es ep):s.TypeIs (.ref d) "dict":=let ⟨o,ho,hc,_⟩:=h;⟨o,ho,hc.1⟩
theorem b2x.at{h h':Heap}(x:b2x h d es ep)(e:∀o,h.get? d=some o->h'.get? d=some o):b2x h' d es ep:=let ⟨o,ho,r⟩:=x;⟨o,e _ ho,r⟩
end
end PU
namespace TS
open PySem PySem.Spec PyProof.Rows L2 PU
section
variable {prog:AK}{w:AJ}{A:AL}{E:AA->AC->Prop}{s:AC}
variable {κ:SortKind}{S:Keyed->Prop}{R:Keyed->Keyed->Bool}
end
end TS
namespace PU
open PySem PySem.Spec PyProof.Rows L2 PySem.W
section
variable {prog:AK}{w:AJ}{A:AL}{E:AA->AC->Prop}{s:AC}
end
section
variable {X:Cx}
end
open PySem PySem.Spec PyProof.Rows L2
section
variable {X:Cx}{pins:List (AB×Obj)}{σ:L2.St}{H:Hp}{s:AC}{a b:AB}{kvs:List (List B0×V)}{k:List B0}{v:V}{r:AA}{A:AL}{E:AA->AC->Prop}
end
section
variable {X:Cx}
end
mutual
def nl:PV->Bool
 | .list _=>false
 | .tuple ps=>nlL ps
 | .dict ((.tuple _,_)::_)=>false
 | .dict ((.str _,.bool false)::_)=>false
 | .dict ((.str _,.int _)::_)=>false
 |_=>true
def nlL:List PV->Bool
 |[]=>true
 |p::ps=>nl p && nlL ps
end
section
variable {K:AE}{F:Hp}{a:AB}{xs:List V}
end
section
variable {X:Cx}
end
section
variable {X:Cx}
end
section
variable {X:Cx}
end
section
variable {X:Cx}{tg:AF}
end
section
variable {prog:AK}{w:AJ}{A:AL}{E:AA->AC->Prop}{s:AC}
end
theorem b9I{K:AE}{H:Hp}{a D:AB}{xs:List V}{kvs kvs':List (List B0×V)}(e:H D=some (.dT kvs))(h:SqT K H a xs):SqT K (upd H D (.dT kvs')) a xs:=by
 rcases h with(h|⟨o,h⟩)|h
 ·exact .inl (.inl (by rw [l7 (b24 h e (fun z=>nomatch z))];exact h))
 ·exact .inl (.inr ⟨o,by rw [l7 (b24 h e (fun z=>nomatch z))];exact h⟩)
 ·exact .inr h
def c0h(K:AE)(H:Hp)(p:List B0×V)(x:V):Prop:=∃a b,x= .ref a/\SqT K H a [.ref b,p.2]/\H b=some (.tup (p.1.map kV))
theorem c0h.upd{K:AE}{H:Hp}{D:AB}{kvs kvs':List (List B0×V)}(e:H D=some (.dT kvs)){p:List B0×V}{x:V}(h:c0h K H p x):c0h K (upd H D (.dT kvs')) p x:=
 let ⟨a,b,h1,h2,h3⟩:=h
 ⟨a,b,h1,b9I e h2,by rw [l7 (b24 h3 e (fun z=>nomatch z))];exact h3⟩
section
variable {X:Cx}{pins:List (AB×Obj)}{σ:L2.St}{A:AL}{R:Result->AC->Prop}
end
section
variable {X:Cx}
end
section
variable {X:Cx}
end
section
variable {X:Cx}
end
open Builtin Builtin.Str
section
variable {prog:AK}{w:AJ}{A:AL}{E:AA->AC->Prop}{s:AC}{x y:Str}{t u:Tok}{Q:AA->AC->Prop}
end
section
variable {X:Cx}
def b1C(x:f6):Option f6:=match x with
 | .val (.int i)=>if i.natAbs.log2<1920 then some (.val (.str (AY (toString i)))) else none
 |_=>none
theorem a7z:O7 X (.type "str") (rC1 X.K b1C):=by
 intro pins s σ H xs us Q I rv h
 obtain⟨F,x,rx,rz,rfl,s0,h1,h2,k⟩:=h
 obtain⟨u,rfl,ru⟩:=a5Y rv
 unfold b1C at h2
 split at h2
 ·rename_i i
  split at h2
  ·rename_i c
   cases h2
   cases h1
   obtain⟨t,rfl⟩:=ru
   exact PySem.P.str_of_int c ⟨.str _,H,I.tok _,⟨_,rfl⟩,k _ F H (C3.here s0 rfl)⟩
  ·cases h2
 ·cases h2
def b4W(x:f6):Option f6:=match x with
 | .val (.str z)=>if z.length<=640 then(PySem.intText? z).map fun n=> .val (.int n) else none
 |_=>none
theorem b8G:O7 X (.type "int") (rC1 X.K b4W):=by
 intro pins s σ H xs us Q I rv h
 obtain⟨F,x,rx,rz,rfl,s0,h1,h2,k⟩:=h
 obtain⟨u,rfl,ru⟩:=a5Y rv
 unfold b4W at h2
 split at h2
 ·rename_i z
  split at h2
  ·rename_i c
   cases hn:PySem.intText? z with
   |none=>rw [hn] at h2;cases h2
   |some n=>
    rw [hn] at h2
    cases h2
    cases h1
    obtain⟨t,rfl⟩:=ru
    exact PySem.W.KIN.call_text hn c ⟨.int n,H,I.tok _,⟨_,rfl⟩,k _ F H (C3.here s0 rfl)⟩
  ·cases h2
 ·cases h2
end
structure Chg(fs ex:List AB)(h h':Heap):Prop where
 keep:∀b o,h.get? b=some o->b∉fs->b∉ex->h'.get? b=some o
 slot:∀b o,h.get? b=some o->b∈fs->b∉ex->∃sl,h'.get? b=some {o with slots:=sl}
 size:h.objs.size<=h'.objs.size
structure ExT(h:Heap)(e C T:AB)(fl:AA)(dd:Option AB):Prop where
 obj:∃oe vs,h.get? e=some oe/\oe.cls= .ref C/\oe.data= .fields vs/\vs[1]?=some (.ref T)/\oe.dict=dd
 ne:T≠e
 tb:∃oT ts,h.get? T=some oT/\oT.data= .fields ts/\ts[3]?=some fl
def Ex0(h:Heap)(e C:AB)(dd:Option AB):Prop:=∃oe vs,h.get? e=some oe/\oe.cls= .ref C/\oe.data= .fields vs/\vs[1]?=some .none/\oe.dict=dd
theorem b5Q(f:Array AA->Array AA)(o:Obj):(Obj.mapFields f o).dict=o.dict:=by
 obtain⟨c,d,dt,sl⟩:=o
 cases dt<;>rfl
section
variable {M:Model}{A:AL}{E:AA->AC->Prop}{s:AC}{base:Heap}{env:Env}{outer:List Env}{L e C:AB}{dd:Option AB}
theorem b03{oe:Obj}{vs:Array AA}{head:AA}{hadNext:Bool}{Q:Unit->AC->Prop}(hfr:A.frames=some (env::outer))(hl:s.heap.FunFrames base (env::outer))(hf:env.frame=some L)
 (he:s.heap.get? e=some oe) (hc:oe.cls= .ref C) (hd:oe.data= .fields vs) (hdn:oe.dict=dd) (hsz:1<vs.size)
 (k:∀T h',s.heap.objs.size<=T->ExT h' e C T (rawInt L) dd->Chg ((env::outer).filterMap (·.frame)) [e] s.heap h'->Q () {s with heap:=h'}):
 AI M A (do let a<-frameOf env;let pl<-entryPlaceOf L hadNext;let b<-EntryCells.newEntry head a .none (rawInt L) .none pl;setField (.ref e) 1 b) Q E s:=by
 have hef:e∉(env::outer).filterMap (·.frame):=fun hm=>by
  obtain⟨_,o,ho,hnf⟩:=hl.mem hm
  rw [he] at ho
  cases ho
  exact hnf vs hd
 refine AG (wpAny_frameOf_fun hfr hl hf fun h₁ hs₁=> ?_)
 refine AG (wpAny_entryPlaceOf fun pl hpl=> ?_)
 unfold EntryCells.newEntry newFields
 refine AG (wpAny_newObj_type ?_ (hpl.sizeOk5 _ _ _ _ _))
 generalize hT:({cls:= .type "traceback",dict:=none,data:= .fields ([head,.ref L,.none,rawInt L,.none]++(if pl.isEmpty then Ab 6 Value.none else pl)).toArray}:Obj)=oT
 have he₁:h₁.get? e=some oe:=(hs₁.2.1 e hef).trans he
 have he₂:=An (h:=h₁) oT he₁
 have hTe:h₁.objs.size≠e:=Nat.ne_of_gt (Ag he₁)
 have hd₃:=Obj.data_mapFields hd (·.setIfInBounds 1 (Value.ref h₁.objs.size))
 have he₃:=Heap.get?_update_self (Obj.mapFields (·.setIfInBounds 1 (Value.ref h₁.objs.size))) he₂ (Obj.isFreed_of_fields hd₃)
 have oth:∀b o,b≠e->h₁.get? b=some o->((h₁.push oT).update e (Obj.mapFields (·.setIfInBounds 1 (Value.ref h₁.objs.size)))).get? b=some o:=fun b o hb hbo=>by
  rw [Heap.get?_update_other _ _ (Ne.symm hb)]
  exact An _ hbo
 have hT3:((h₁.push oT).update e (Obj.mapFields (·.setIfInBounds 1 (Value.ref h₁.objs.size)))).get? h₁.objs.size=some oT:=by
  rw [Heap.get?_update_other _ _ (Ne.symm hTe)]
  exact Az h₁ (by rw [<-hT];rfl)
 refine wpAny_setField he₂ hd hsz (k h₁.objs.size _ (Nat.le_of_eq hs₁.1.symm) ⟨⟨_,_,he₃,(Obj.cls_mapFields _ _).trans hc,hd₃,by simp [hsz],(b5Q _ _).trans hdn⟩,hTe,oT,_,hT3,by rw [<-hT], ?_⟩ ⟨fun b o hb hbf hbe=> ?_,fun b o hb hbf hbe=> ?_, ?_⟩)
 ·rcases hpl with rfl|⟨_,_,_,_,_,_,_,rfl⟩<;>simp
 ·exact oth b o (fun z=>hbe (by rw [z];exact List.mem_singleton.mpr rfl)) ((hs₁.2.1 b hbf).trans hb)
 ·obtain⟨sl,hs⟩:=hs₁.2.2 b o hb
  exact⟨sl,oth b _ (fun z=>hbe (by rw [z];exact List.mem_singleton.mpr rfl)) hs⟩
 ·rw [Heap.size_update,Heap.size_push,hs₁.1];lia
theorem b4g{Q:Unit->AC->Prop}(hfr:A.frames=some (env::outer))(hl:s.heap.FunFrames base (env::outer))(hf:env.frame=some L)(x:Ex0 s.heap e C dd)
 (k:∀T h',s.heap.objs.size<=T->ExT h' e C T (rawInt L) dd->Chg ((env::outer).filterMap (·.frame)) [e] s.heap h'->Q () {s with heap:=h'}):AI M A (noteFrame (.ref e) env) Q E s:=by
 obtain⟨oe,vs,he,hc,hd,h1,hdn⟩:=x
 unfold noteFrame
 simp only [hf]
 refine AG (wpAny_field he hd h1 ?_)
 rw [if_neg (by decide)]
 exact b03 hfr hl hf he hc hd hdn (Array.getElem?_eq_some_iff.mp h1).1 k
theorem a9d{fl:AA}{T:AB}{Q:Unit->AC->Prop}(x:ExT s.heap e C T fl dd)(fr:Option AB)(k:∀h',ExT h' e C T (fr.elim .none fun f=>rawInt f) dd->Chg [] [T] s.heap h'->h'.objs.size=s.heap.objs.size->Q () {s with heap:=h'}):AI M A (setFlight (.ref e) fr) Q E s:=by
 obtain⟨⟨oe,vs,he,hc,hd,h1,hdn⟩,hne,oT,ts,hT,hdT,h3⟩:=x
 have hsz:=(Array.getElem?_eq_some_iff.mp h3).1
 unfold setFlight
 refine AG (wpAny_field he hd h1 ?_)
 rw [if_pos (show(Value.ref T !=Value.none)=true from by simp)]
 refine wpAny_setField hT hdT hsz (k _ ⟨⟨oe,vs, ?_,hc,hd,h1,hdn⟩,hne,_,_,Heap.get?_update_self _ hT (Obj.isFreed_of_fields (Obj.data_mapFields hdT _)),Obj.data_mapFields hdT _,by simp [hsz]⟩ ⟨fun b o hb _ hbe=> ?_,(fun b o _ hb=>nomatch hb), ?_⟩ ?_)
 ·rw [Heap.get?_update_other _ _ hne];exact he
 ·rw [Heap.get?_update_other _ _ (fun z=>hbe (by rw [<-z];exact List.mem_singleton.mpr rfl))];exact hb
 ·rw [Heap.size_update];exact AZ _
 ·rw [Heap.size_update]
theorem Chg.trans{fs ex ex':List AB}{h h1 h2:Heap}(x:Chg fs ex h h1)(y:Chg fs ex' h1 h2):Chg fs (ex++ex') h h2 where
 keep:=fun b o e hf hx=>y.keep b o (x.keep b o e hf fun z=>hx (BE _ z)) hf fun z=>hx (Ay _ z)
 slot:=fun b o e hf hx=>by
  obtain⟨sl,e1⟩:=x.slot b o e hf fun z=>hx (BE _ z)
  obtain⟨sl2,e2⟩:=y.slot b {o with slots:=sl} e1 hf fun z=>hx (Ay _ z)
  exact⟨sl2,e2⟩
 size:=Nat.le_trans x.size y.size
theorem Chg.more{fs fs' ex ex':List AB}{h h':Heap}(x:Chg fs ex h h')(hf:∀b∈fs,b∈fs')(he:∀b∈ex,b∈ex'):Chg fs' ex' h h' where
 keep:=fun b o e h1 h2=>x.keep b o e (fun z=>h1 (hf b z)) fun z=>h2 (he b z)
 slot:=fun b o e h1 h2=>by
  by_cases hb:b∈fs
  ·exact x.slot b o e hb fun z=>h2 (he b z)
  ·exact⟨o.slots,x.keep b o e hb fun z=>h2 (he b z)⟩
 size:=x.size
theorem Chg.funs{fs ex:List AB}{h h':Heap}{l:List Env}(x:Chg fs ex h h')(hl:h.FunFrames base l)(hx:∀b∈ex,∀o,h.get? b=some o->∃vs,o.data= .fields vs):h'.FunFrames base l:=
 hl.of_keeps fun b o hb hnf=>by
  have hbx:b∉ex:=fun z=>by
   obtain⟨vs,hd⟩:=hx b z o hb
   exact hnf vs hd
  by_cases hbf:b∈fs
  ·obtain⟨sl,e⟩:=x.slot b o hb hbf hbx
   exact⟨_,e,rfl⟩
  ·exact⟨o,x.keep b o hb hbf hbx,rfl⟩
theorem b08{fl:AA}{T:AB}{Q:Unit->AC->Prop}(hfr:A.frames=some (env::outer))(hl:s.heap.FunFrames base (env::outer))(hf:env.frame=some L)(x:ExT s.heap e C T fl dd)(hne:fl≠rawInt L)
 (k:∀T' h',s.heap.objs.size<=T'->ExT h' e C T' (rawInt L) dd->Chg ((env::outer).filterMap (·.frame)) [T,e] s.heap h'->Q () {s with heap:=h'}):AI M A (noteFrame (.ref e) env) Q E s:=by
 obtain⟨⟨oe,vs,he,hc,hd,h1,hdn⟩,hTe,oT,ts,hT,hdT,h3⟩:=x
 have hsz:=(Array.getElem?_eq_some_iff.mp h3).1
 unfold noteFrame
 simp only [hf]
 refine AG (wpAny_field he hd h1 ?_)
 rw [if_pos (show(Value.ref T !=Value.none)=true from by simp)]
 refine AG (wpAny_field hT hdT h3 ?_)
 rw [if_neg (by simpa using hne)]
 refine AG (wpAny_setField hT hdT hsz ?_)
 have c1:Chg ((env::outer).filterMap (·.frame)) [T] s.heap (s.heap.update T (Obj.mapFields (·.setIfInBounds 3 Value.none))):=⟨fun b o hb _ hbe=>by
  rw [Heap.get?_update_other _ _ (fun z=>hbe (by rw [<-z];exact List.mem_singleton.mpr rfl))];exact hb,fun b o hb _ hbe=>⟨o.slots,by
  rw [Heap.get?_update_other _ _ (fun z=>hbe (by rw [<-z];exact List.mem_singleton.mpr rfl))];exact hb⟩,by rw [Heap.size_update];exact AZ _⟩
 have hl':=c1.funs hl fun b hb o ho=>by
  rw [List.mem_singleton.mp hb,hT] at ho
  cases ho
  exact⟨ts,hdT⟩
 refine b03 (s:={s with heap:=s.heap.update T (Obj.mapFields (·.setIfInBounds 3 Value.none))}) hfr hl' hf (by rw [Heap.get?_update_other _ _ hTe];exact he) hc hd hdn (Array.getElem?_eq_some_iff.mp h1).1 fun T' h' hT' x' c'=>k T' h' ?_ x' (c1.trans c')
 have:(s.heap.update T (Obj.mapFields (·.setIfInBounds 3 Value.none))).objs.size=s.heap.objs.size:=Heap.size_update ..
 rw [<-this];exact hT'
end
def CX1(P:AK)(w:AJ):CXT:=fun outer H s E e s'=>∃a C T dd H',e= .ref a/\s'.os=s.os/\AllBare s'.gens/\Un (frs outer) [] H H' s.heap s'.heap/\HOk P w H' s'.heap/\
 s.heap.get? a=none/\s.heap.get? T=none/\H' a=none/\H' T=none/\ExT s'.heap a C T .none dd/\E (.ref C) dd H'
theorem ExT.thereT{h:Heap}{e C T:AB}{fl:AA}{dd:Option AB}(x:ExT h e C T fl dd):∃o,h.get? T=some o:=let ⟨o,_,h1,_⟩:=x.tb;⟨o,h1⟩
theorem b1G{P:AK}{w:AJ}{H:Hp}{h h':Heap}{fs ex:List AB}(x:HOk P w H h)(c:Chg fs ex h h')(hf:∀b∈fs,H b=none)(he:∀b∈ex,H b=none):HOk P w H h':=fun a o e=>
 (x a o e).stay (fun b u hb q=>by
  have hn:∃z,H b=some z:=by
   rcases hb with rfl|hb
   ·exact⟨_,e⟩
   ·exact⟨_,hb⟩
  obtain⟨z,hz⟩:=hn
  exact c.keep b u q (fun m=>by rw [hf b m] at hz;cases hz) fun m=>by rw [he b m] at hz;cases hz) (fun _ q=>q) fun _ _ q=>q
theorem b8l{fs ex fs':List AB}{H H1:Hp}{h h1 h2:Heap}(u:Un fs [] H H1 h h1)(c:Chg fs' ex h1 h2)(hfs:∀b∈fs',b∈fs\/h.objs.size<=b)(hex:∀b∈ex,h.get? b=none):Un fs [] H H1 h h2 where
 keep:=fun b o e hn hf hx=>by
  have hlt:b<h.objs.size:=Ag e
  refine c.keep b o (u.keep b o e hn hf hx) (fun m=> ?_) fun m=>by rw [hex b m] at e;cases e
  rcases hfs b m with h|h
  ·exact hf h
  ·exact Nat.lt_irrefl _ (Aq hlt h)
 slot:=fun b o e hn hf hx=>by
  have hlt:b<h.objs.size:=Ag e
  obtain⟨sl,e1⟩:=u.slot b o e hn hf hx
  by_cases hb:b∈fs'
  ·obtain⟨sl2,e2⟩:=c.slot b {o with slots:=sl} e1 hb fun m=>by rw [hex b m] at e;cases e
   exact⟨sl2,e2⟩
  ·exact⟨sl,c.keep b _ e1 hb fun m=>by rw [hex b m] at e;cases e⟩
 free:=u.free
 there:=fun b o e hx=>by
  obtain⟨o1,e1⟩:=u.there b o e hx
  by_cases hb:b∈ex
  ·rw [hex b hb] at e;cases e
  ·by_cases hb2:b∈fs'
   ·obtain⟨sl,e2⟩:=c.slot b o1 e1 hb2 hb
    exact⟨_,e2⟩
   ·exact⟨_,c.keep b o1 e1 hb2 hb⟩
 tups:=u.tups
 frzs:=u.frzs
 tbls:=u.tbls
section
variable {P:AK}{w:AJ}{K:AE}{mg:Str->Option AA}{base:Heap}{N:List Str}{qual:Str}{scope:Scope}{f:AB}{cd:AA}{A:AL}{outer:List Env}{s:AC}{H:Hp}{E:XK}
theorem a1e{pins:List (AB×Obj)}{σ:L2.St}{H2:Hp}{s2:AC}{a C:AB}{dd:Option AB}(I:l8 (a5H (CX1 P w) P w K mg base N qual scope f cd A outer s H E) pins σ H2 s2)(x:Ex0 s2.heap a C dd)(ha:s.heap.get? a=none)(hn:H2 a=none)(hE:E (.ref C) dd H2):
 (a5H (CX1 P w) P w K mg base N qual scope f cd A outer s H E).xe (.ref a) s2:=by
 show AI (model P w) _ (leaving (envOfC qual scope s.heap.objs.size f cd) (.ref a)) _ _ s2
 unfold leaving
 have hfree:∀b∈(envOfC qual scope s.heap.objs.size f cd::outer).filterMap (·.frame),H2 b=none:=I.stkFree
 refine AG (b4g I.ok.frames I.stack rfl x fun T h1 hT x1 c1=> ?_)
 refine a9d x1 none fun h2 x2 c2 _=> ?_
 have hTn:H2 T=none:=I.hok.fresh hT
 have c:Chg ((envOfC qual scope s.heap.objs.size f cd::outer).filterMap (·.frame)) ([a]++[T]) s2.heap h2:=c1.trans (c2.more (fun b hb=>nomatch hb) fun b hb=>hb)
 have hsz:s.heap.objs.size<=s2.heap.objs.size:=I.sz
 have hex:∀b∈[a]++[T],s.heap.get? b=none:=fun b hb=>by
  rcases Av.mp hb with h|h<;>rw [List.mem_singleton.mp h]
  ·exact ha
  ·exact Heap.get?_none_of_le (Nat.le_trans hsz hT)
 refine⟨a,C,T,dd,H2,rfl,I.os,I.bare,b8l I.base c (fun b hb=> ?_) hex,b1G I.hok c hfree fun b hb=> ?_,ha,Heap.get?_none_of_le (Nat.le_trans hsz hT),hn,hTn,x2,hE⟩
 ·rcases Am.mp (I.stkSub b hb) with h|h
  ·exact .inr (by rw [h];exact I.ok.above)
  ·exact .inl h
 ·rcases Av.mp hb with h|h<;>rw [List.mem_singleton.mp h]
  ·exact hn
  ·exact hTn
theorem b39:a8Y (CX1 P w) (a5H (CX1 P w) P w K mg base N qual scope f cd A outer s H E) E:=by
 intro pins σ H1 s1 e s' I h
 obtain⟨a,C,T,dd,H2,rfl,ho,hb,un,hok,ha,hT,hn,hTn,x,hE⟩:=h
 have J:l8 (a5H (CX1 P w) P w K mg base N qual scope f cd A outer s H E) pins σ H2 s':=I.call' (ch:=[]) ho un hok hb fun b z=>nomatch z
 show AI (model P w) _ (leaving (envOfC qual scope s.heap.objs.size f cd) (.ref a)) _ _ s'
 unfold leaving
 have hfree:∀b∈(envOfC qual scope s.heap.objs.size f cd::outer).filterMap (·.frame),H2 b=none:=J.stkFree
 refine AG (b08 J.ok.frames J.stack rfl x (by simp [rawInt]) fun T' h1 hT' x1 c1=> ?_)
 refine a9d x1 none fun h2 x2 c2 _=> ?_
 have hTn':H2 T'=none:=J.hok.fresh hT'
 have c:Chg ((envOfC qual scope s.heap.objs.size f cd::outer).filterMap (·.frame)) ([T,a]++[T']) s'.heap h2:=c1.trans (c2.more (fun b hb=>nomatch hb) fun b hb=>hb)
 have hsz:s.heap.objs.size<=s'.heap.objs.size:=J.sz
 have back:∀b,s1.heap.get? b=none->s.heap.get? b=none:=fun b hb=>by
  cases h:s.heap.get? b with
  |none=>rfl
  |some o=>
   obtain⟨o',e⟩:=I.base.there b o h (fun z=>nomatch z)
   rw [hb] at e;cases e
 have mem:∀b∈[T,a]++[T'],b=T\/b=a\/b=T':=fun b hb=>by simpa using hb
 obtain⟨oT,hoT⟩:=x.thereT
 refine⟨a,C,T',dd,H2,rfl,J.os,J.bare,b8l J.base c (fun b hb=> ?_) (fun b hb=> ?_),b1G J.hok c hfree fun b hb=> ?_,back a ha,Heap.get?_none_of_le (Nat.le_trans hsz hT'),hn,hTn',x2,hE⟩
 ·rcases Am.mp (J.stkSub b hb) with h|h
  ·exact .inr (by rw [h];exact J.ok.above)
  ·exact .inl h
 ·rcases mem b hb with rfl|rfl|rfl
  ·exact back _ hT
  ·exact back _ ha
  ·exact Heap.get?_none_of_le (Nat.le_trans hsz hT')
 ·rcases mem b hb with rfl|rfl|rfl
  ·exact hTn
  ·exact hn
  ·exact hTn'
end
theorem b3L{P:AK}{w:AJ}{H:Hp}{h:Heap}{a:AB}:∀{o:HO},R3 P w H h a o->∃ob,h.get? a=some ob
 | .lst _,⟨_,_,_,_,e⟩=>⟨_,e⟩
 | .tup _,⟨_,_,_,o,e,_⟩=>⟨_,e⟩
 | .dK _,⟨_,_,_,_,o,_,_,e,_⟩=>⟨_,e⟩
 | .dT _,⟨_,_,_,_,o,_,_,e,_⟩=>⟨_,e⟩
 | .set _ _,⟨o,_,_,_,e,_⟩=>⟨_,e⟩
 | .ins _ _ _,⟨_,_,_,e,_⟩=>⟨_,e⟩
 | .own _,⟨_,e⟩=>⟨_,e⟩
 | .xd _,⟨_,⟨_,_,_,e,_⟩,_⟩=>⟨_,e⟩
 | .rng _ _,⟨_,_,_,e⟩=>⟨_,e⟩
 | .frz _ _,⟨e,_⟩=>⟨_,e⟩
 | .tbl _,e=>⟨_,e⟩
 | .met _ _,e=>⟨_,e⟩
 | .ext _,⟨_,e,_⟩=>e
def a9x:List AA:=[.type "ValueError",.type "Exception",.type "BaseException",.type "object"]
def b5G(C:AB)(h:Heap):Prop:=∃tl N nm q bs hdct sn sub ab col dd k0 k1 k2 k3 k5,
 h.get? C=some (excClassObj nm q C N bs tl hdct sn sub ab col dd k0 k1 k2 k3 k5 "ValueError.__new__")/\OwnTail h a9x tl
def b6y(C:AB)(h:Heap):Prop:=∃tl N nm q bs hdct sn sub ab col dd k0 k1 k2 k3 k5 mN,
 h.get? C=some (excClassObj nm q C N bs tl hdct sn sub ab col dd k0 k1 k2 k3 k5 "ValueError.__new__")/\h.Ns N mN/\mN "__init__"=none/\OwnTail h a9x tl
theorem b6y.base{C:AB}{h:Heap}(x:b6y C h):b5G C h:=let ⟨tl,N,nm,q,bs,hdct,sn,sub,ab,col,dd,k0,k1,k2,k3,k5,_,h1,_,_,T⟩:=x;⟨tl,N,nm,q,bs,hdct,sn,sub,ab,col,dd,k0,k1,k2,k3,k5,h1,T⟩
section
variable {X:Cx}{x:Str}{C:AB}{np cpos pos:Pos}{e₀:AF}{C7:List AF}{t:TA}{W:Hp->Prop}
theorem b7N(hc:X.calm=true)(hx0:X.ex=[])(hg:Gl X x)(hm:X.mg x=some (.ref C))(hX:b6y C X.base)(ha:PA X (e₀::C7) t)
 (hxe:∀(pins:List (AB×Obj)) (σ:L2.St) (H:Hp) (s:AC) (a:AB),l8 X pins σ H s->Ex0 s.heap a C none->X.s₀.heap.get? a=none->H a=none->W H->X.xe (.ref a) s)
 (he:AM (e₀::C7) X.env=(false,eval e₀ X.env)::AM C7 X.env:=by rfl) (hplain:(backTo cpos (AM C7 X.env)).any (·.1)=false:=by rfl) (hdb:(x==("__debug__":Str))=false:=by decide):
 PS X (.Raise (some (.Call (.Name x np) (e₀::C7) [] cpos)) none pos) (fun _ σ H=>t σ H fun vs H1=>vs.length<=AU/\W H1):=by
 intro pins s σ H D I h
 obtain⟨tl,N,nm,q,bs,hdct,sn,sub,ab,col,dd,k0,k1,k2,k3,k5,mN,hC,hN,hni,T⟩:=hX
 have FB:=F.excBase_ValueError
 refine wpAny_Raise_call_subT (C:=C) (nm:=nm) (q:=q) (N:=N) (bs:=bs) (bm:=tl) (hdct:=hdct) (sn:=sn) (sub:=sub) (ab:=ab) (col:=col) (dd:=dd) (k0:=k0) (k1:=k1) (k2:=k2) (k3:=k3) (k5:=k5)
  FB (mN:=mN) (T.hasType FB.hasBase) (I.ok.hd hc) (by rw [he];show(false||(backTo cpos (AM C7 X.env)).any (·.1))=false;rw [hplain];rfl) hni (a5u I hg hm ⟨rfl, ?_⟩ hdb)
 have hA:=ha cpos pins s σ H _ I h
 rw [he] at hA ⊢
 refine Calls.evalArgs_plain (U5 hA fun us s2 ⟨vs,H2,I2,r2,hl,q2⟩=>⟨rfl,by rw [<-r2.length];exact hl,I2.bk _ _ hC,hN.keeps I2.bk,T.keeps I2.bk,fun h' a hmk=> ?_⟩)
 obtain⟨tt,h1,_,_⟩:=hmk.there
 have hn:H2 a=none:=by
  cases h:H2 a with
  |none=>rfl
  |some o=>
   obtain⟨ob,e⟩:=b3L (I2.hok a o h)
   rw [hmk.new] at e;cases e
 have h0:X.s₀.heap.get? a=none:=by
  cases h:X.s₀.heap.get? a with
  |none=>rfl
  |some o=>
   obtain⟨o',e⟩:=I2.base.there a o h (fun z=>by rw [hx0] at z;cases z)
   rw [hmk.new] at e;cases e
 have I3:l8 X pins σ H2 {s2 with heap:=h'}:=I2.kept (t':=s2.toks) hmk.keeps
 exact hxe pins σ H2 {s2 with heap:=h'} a I3 ⟨_,_,h1,rfl,rfl,rfl,rfl⟩ h0 hn q2
end
theorem b9N{fs ex0 ex fs':List AB}{H H1:Hp}{h h1 h2:Heap}(u:Un fs ex0 H H1 h h1)(c:Chg fs' ex h1 h2)(hfs:∀b∈fs',b∈fs\/h.objs.size<=b)(hex:∀b∈ex,h.get? b=none):Un fs ex0 H H1 h h2 where
 keep:=fun b o e hn hf hx=>by
  have hlt:b<h.objs.size:=Ag e
  refine c.keep b o (u.keep b o e hn hf hx) (fun m=> ?_) fun m=>by rw [hex b m] at e;cases e
  rcases hfs b m with h|h
  ·exact hf h
  ·exact Nat.lt_irrefl _ (Aq hlt h)
 slot:=fun b o e hn hf hx=>by
  obtain⟨sl,e1⟩:=u.slot b o e hn hf hx
  by_cases hb:b∈fs'
  ·obtain⟨sl2,e2⟩:=c.slot b {o with slots:=sl} e1 hb fun m=>by rw [hex b m] at e;cases e
   exact⟨sl2,e2⟩
  ·exact⟨sl,c.keep b _ e1 hb fun m=>by rw [hex b m] at e;cases e⟩
 free:=u.free
 there:=fun b o e hx=>by
  obtain⟨o1,e1⟩:=u.there b o e hx
  by_cases hb:b∈ex
  ·rw [hex b hb] at e;cases e
  ·by_cases hb2:b∈fs'
   ·obtain⟨sl,e2⟩:=c.slot b o1 e1 hb2 hb
    exact⟨_,e2⟩
   ·exact⟨_,c.keep b o1 e1 hb2 hb⟩
 tups:=u.tups
 frzs:=u.frzs
 tbls:=u.tbls
theorem Chg.any{fs ex:List AB}{h h':Heap}(c:Chg fs ex h h'){b:AB}{o:Obj}(e:h.get? b=some o)(hb:b∉ex):∃sl,h'.get? b=some {o with slots:=sl}:=by
 by_cases hf:b∈fs
 ·exact c.slot b o e hf hb
 ·exact⟨o.slots,c.keep b o e hf hb⟩
section
variable {X:Cx}{pins:List (AB×Obj)}{σ:L2.St}{H:Hp}{s:AC}
theorem l8.chg{h':Heap}{ex:List AB}(I:l8 X pins σ H s)(c:Chg (frs X.stack) ex s.heap h')(h0:∀b∈ex,X.s₀.heap.get? b=none)(hn:∀b∈ex,H b=none)
 (hL:∀b∈ex,b≠X.env.locals) (hc:∀b∈ex,∀x z,X.env.cells.lookup x=some z->z≠b) (hp:∀b∈ex,∀p∈X.pn++pins,p.1≠b):l8 X pins σ H {s with heap:=h'} where
 ok:=I.ok
 os:=I.os
 bare:=I.bare
 base:=b9N I.base c (fun b hb=>by
  rcases Am.mp (I.stkSub b hb) with h|h
  ·exact .inr (by rw [h];exact I.ok.above)
  ·exact .inl h) h0
 loc:=by
  obtain⟨m,⟨o,es,ep,ho,hd,r⟩,hm⟩:=I.loc
  obtain⟨sl,e⟩:=c.any ho fun z=>hL _ z rfl
  refine⟨m,⟨_,es,ep,e,hd,r⟩,fun i x v h1 h2 h3=> ?_⟩
  obtain⟨u,ru,hk⟩:=hm i x v h1 h2 h3
  refine⟨u,ru, ?_⟩
  rcases hk with hk|⟨hk,z,hz,oz,hoz,hdz⟩
  ·exact .inl hk
  ·obtain⟨sl2,e2⟩:=c.any hoz fun m=>hc _ m x z hz rfl
   exact .inr ⟨hk,z,hz,_,e2,hdz⟩
 cell:=fun x z hz=>by
  obtain⟨v,oz,hoz,hdz⟩:=I.cell x z hz
  obtain⟨sl2,e2⟩:=c.any hoz fun m=>hc _ m x z hz rfl
  exact⟨v,_,e2,hdz⟩
 free:=I.free
 freeC:=I.freeC
 pin:=fun p hpm=>by
  obtain⟨h1,h2,h3,h4,h5⟩:=I.pin p hpm
  refine⟨c.keep _ _ h1 (fun m=> ?_) fun m=>hp _ m p hpm rfl,h2,h3,h4,h5⟩
  rcases Am.mp (I.stkSub _ m) with h|h
  ·exact h3 h
  ·exact h4 h
 hok:=b1G I.hok c (fun b hb=>I.stkFree b hb) hn
 len:=I.len
end
structure XT where
 cls:Str
 fs:List (PV×PV)
def XF(K:AE)(F:Hp)(fs:List (PV×PV))(dd:Option AB):Prop:=(fs=[]/\dd=none)\/∃d vs,dd=some d/\F d=some (.xd vs)/\fs≠[]/\a4r K F fs vs
theorem XF.mono{K:AE}{F F':Hp}{fs:List (PV×PV)}{dd:Option AB}(s:p5 F F')(h:XF K F fs dd):XF K F' fs dd:=by
 rcases h with h|⟨d,vs,e,q,n,r⟩
 ·exact .inl h
 ·exact .inr ⟨d,vs,e,s _ _ q,n,a4r.mono s _ r⟩
inductive FX where
 |fl (f:Fl)|rz (c:XT) (ρ:g0)
abbrev MX:=g0->Option FX
def b8z(K:AE)(mg:Str->Option AA)(E:L2.St->XK)(F0 H0 F:Hp)(σ0:L2.St)(D:a0w):FX->Prop
 | .fl f=>Fin K F0 H0 F D f
 | .rz c ρ=>∃C,mg c.cls=some (.ref C)/\∀σ dd F' H',p5 F F'->SOk K F0 H0 F' H' σ ρ->XF K F' c.fs dd->E σ (.ref C) dd H'
theorem b8z.later{K:AE}{mg:Str->Option AA}{E:L2.St->XK}{F0 H0 F F1:Hp}{σ0 σ1:L2.St}{D:a0w}(s:p5 F F1):∀{fx:FX},b8z K mg E F0 H0 F σ0 D fx->b8z K mg E F0 H0 F1 σ1 D fx
 | .fl _,h=>Fin.later s h
 | .rz _ _,⟨C,h1,h2⟩=>⟨C,h1,fun σ a F' H' s' so hn=>h2 σ a F' H' (s.trans s') so hn⟩
def tMX(K:AE)(mg:Str->Option AA)(E:L2.St->XK)(m:MX):TS:=fun D σ H=>∃F0 H0 F ρ fx,SOk K F0 H0 F H σ ρ/\m ρ=some fx/\b8z K mg E F0 H0 F σ D fx
abbrev EX(X:Cx)(E:L2.St->XK)(st:Stmt)(m:MX):Prop:=PS X st (tMX X.K X.mg E m)
abbrev EXs(X:Cx)(E:L2.St->XK)(st:List Stmt)(m:MX):Prop:=PSs X st (tMX X.K X.mg E m)
def a5J(m:MS):MX:=fun ρ=>(m ρ).map .fl
def a6S(m n:MX):MX:=fun ρ=>(m ρ).bind fun fx=>match fx with
 | .fl (.nx ρ')=>n ρ'
 |f=>some f
def b4e(c:MT)(m n:MX):MX:=fun ρ=>(c ρ).bind fun b=>if b=true then m ρ else n ρ
def b23(c:Str)(ma:MA):MX:=fun ρ=>(ma ρ).bind fun ps=>if ps.length<=AU then some (.rz ⟨c,[]⟩ ρ) else none
section
variable {X:Cx}{E:L2.St->XK}
theorem c0c{m:MS}{D:a0w}{σ:L2.St}{H:Hp}(h:tMX X.K X.mg E (a5J m) D σ H):tMS X.K m D σ H:=by
 obtain⟨F0,H0,F,ρ,fx,so,e,fin⟩:=h
 unfold a5J at e
 cases hm:m ρ with
 |none=>rw [hm] at e;cases e
 |some f=>rw [hm] at e;cases e;exact⟨F0,H0,F,ρ,f,so,hm,fin⟩
theorem c1U{st:Stmt}{m:MS}(h:ES X st m):EX X E st (a5J m):=L5 h fun _ _ _ q=>c0c q
theorem c0A{st:List Stmt}{m:MS}(h:ESs X st m):EXs X E st (a5J m):=a8U h fun _ _ _ q=>c0c q
theorem a2v{st:Stmt}{m:MX}(h:EX X E st m):EXs X E [st] m:=b5k h
theorem a14{st:Stmt}{C7:List Stmt}{m n:MX}(h1:EX X E st m)(h2:EXs X E C7 n):EXs X E (st::C7) (a6S m n):=
 a8U (b3j h1 h2) fun D σ H ⟨F0,H0,F,ρ,fx,so,e,fin⟩=>by
  obtain⟨f1,e1,e⟩:=bind_some e
  cases f1 with
  |rz c ρ1=>cases e;exact⟨F0,H0,F,ρ,.rz c ρ1,so,e1,fin⟩
  |fl f=>
   cases f with
   |nx ρ'=>exact⟨F0,H0,F,ρ,.fl (.nx ρ'),so,e1,fun σ' F' H' s so'=>⟨F0,H0,F',ρ',fx,so',e,fin.later s⟩⟩
   |rt r=>cases e;exact⟨F0,H0,F,ρ,_,so,e1,fin⟩
   |bk r=>cases e;exact⟨F0,H0,F,ρ,_,so,e1,fin⟩
   |ct r=>cases e;exact⟨F0,H0,F,ρ,_,so,e1,fin⟩
theorem b2K{c:AF}{a b:List Stmt}{mc:MT}{m n:MX}{pos:Pos}(hc:ET X c mc)(ha:EXs X E a m)(hb:EXs X E b n):EX X E (.If c a b pos) (b4e mc m n):=
 L5 (b96 hc ha hb) fun D σ H ⟨F0,H0,F,ρ,fx,so,e,fin⟩=>by
  obtain⟨b,e1,e⟩:=bind_some e
  refine⟨F,ρ,b,so.e,e1,fun F1 H1 x=> ?_⟩
  cases b with
  |true=>exact b1K ⟨F0,H0,F1,ρ,fx,so.ext x,e,fin.later x.f⟩
  |false=>exact b1J ⟨F0,H0,F1,ρ,fx,so.ext x,e,fin.later x.f⟩
end
def spX(K:AE)(mg:Str->Option AA)(n:Nat)(g:List PV->Option (f6 ⊕ XT)):Sp:=fun vs H Q E=>∃F ps r,p5 F H/\p4 K F ps vs/\ps.length=n/\g ps=some r/\(match r with
 | .inl r=>∀v F' H',C3 K F H F' H' v r->Q v H'
 | .inr c=>∃C,mg c.cls=some (.ref C)/\∀dd F' H',Ext F H F' H'->XF K F' c.fs dd->E (.ref C) dd H')
def Z0(CX:CXT)(X:Cx)(E:L2.St->XK):Prop:=∀(pins:List (AB×Obj)) (σ:L2.St) (H:Hp) (s:AC) (e:AA) (s':AC),l8 X pins σ H s->CX X.stack H s (E σ) e s'->X.xe e s'
section
variable {X:Cx}{E:L2.St->XK}{CX:CXT}
theorem b3i{k:Nat}{f:AB}{fd:FuncData}{ps:List Str}{sp:Sp}{x:Str}{p pos:Pos}{e:AF}{es:List AF}{t:TA}(F:a05 X.prog X.w X.K X.mg X.base CX k f fd ps sp)(hr:R9 k X.A)(hg:Gl X x)(hm:X.mg x=some (.ref f))(hk:PySem.W.keepIn X.K (.ref f)=true)(hb:a39 X.K fd ps [])(hx:Z0 CX X E)
 (ha:PA X (e::es) t) (hdb:(x==("__debug__":Str))=false:=by decide) (he:AM (e::es) X.env=(false,eval e X.env)::AM es X.env:=by rfl) (hpl:(backTo pos (AM es X.env)).any (·.1)=false:=by rfl):
 PE X (.Call (.Name x p) (e::es) [] pos) (fun σ H Q=>t σ H fun vs H1=>sp vs H1 Q (E σ)):=by
 intro pins s σ H Q I h
 refine wpAny_Call_Name_kw (a5u I hg hm ?_ hdb)
 refine PySem.W.callWith_K (h₀:=X.base) I.ok.mod.kin hk (U5 (ha pos pins s σ H _ I h) fun us s1 ⟨vs,H1,I1,r,q⟩=>⟨I1.kIn, ?_⟩) he hpl
 have hl:(us++[]).length=ps.length:=by rw [Ad,<-r.length];exact F.len _ _ _ _ q
 have hb':=hb s1 us I1.kIn hl
 rw [Ad] at hb'
 refine wpAny_call (codeAny_mono (F.run X.A X.stack s1 H1 ⟨us,[]⟩ us vs Q (E σ) hr I1.env0 hb' r q) fun r s' hq=> ?_)
 cases r with
 |error e=>exact hx pins σ H1 s1 e s' I1 hq
 |ok fl=>
  cases fl with
  |ret u=>exact I1.after hq
  |next=>exact False.elim hq
  |brk=>exact False.elim hq
  |cont=>exact False.elim hq
def b0K(g:List PV->Option (f6 ⊕ XT))(m:MA):g0->Option (f6 ⊕ XT):=fun ρ=>(m ρ).bind g
def a4h(i:Nat)(g:List PV->Option (f6 ⊕ XT))(m:MA):MX:=fun ρ=>(b0K g m ρ).bind fun r=>match r with
 | .inl r=>if r.nb=true then some (.fl (.nx (ρ.set i (some r)))) else none
 | .inr c=>some (.rz c ρ)
def b02(g:List PV->Option (f6 ⊕ XT))(m:MA):MX:=fun ρ=>(b0K g m ρ).bind fun r=>match r with
 | .inl _=>some (.fl (.nx ρ))
 | .inr c=>some (.rz c ρ)
theorem b4F{n:Nat}{g:List PV->Option (f6 ⊕ XT)}{m:MA}{F0 H0 F H:Hp}{σ:L2.St}{ρ:g0}{Q:VK}{r:f6 ⊕ XT}(so:SOk X.K F0 H0 F H σ ρ)(hn:∀ρ ps,m ρ=some ps->ps.length=n)(e:b0K g m ρ=some r)
 (k:match r with
  | .inl r=>∀v F' H',C3 X.K F H F' H' v r->Q v H'
  | .inr c=>∃C,X.mg c.cls=some (.ref C)/\∀dd F' H',Ext F H F' H'->XF X.K F' c.fs dd->E σ (.ref C) dd H'):
 tMA X.K m σ H fun vs H1=>spX X.K X.mg n g vs H1 Q (E σ):=by
 obtain⟨qs,e1,e2⟩:=bind_some e
 refine⟨F,ρ,qs,so.e,e1,fun vs F1 H1 x rl=>⟨F1,qs,r,x.fh,rl,hn _ _ e1,e2, ?_⟩⟩
 cases r with
 |inl r=>exact fun v F2 H2 o=>k v F2 H2 (C3.trans x o)
 |inr c=>
  obtain⟨C,h1,h2⟩:=k
  exact⟨C,h1,fun a F2 H2 y hn=>h2 a F2 H2 (x.trans y) hn⟩
theorem c0y{k n i:Nat}{f:AB}{fd:FuncData}{ps:List Str}{g:List PV->Option (f6 ⊕ XT)}{x y:Str}{p pos pos' pos2:Pos}{e:AF}{es:List AF}{m:MA}(hN:X.N.Nodup)
 (G:a05 X.prog X.w X.K X.mg X.base CX k f fd ps (spX X.K X.mg n g)) (hr:R9 k X.A) (hg:Gl X x) (hm:X.mg x=some (.ref f)) (hk:PySem.W.keepIn X.K (.ref f)=true) (hb:a39 X.K fd ps []) (hx:Z0 CX X E) (hn:∀ρ ps,m ρ=some ps->ps.length=n) (ha:EA X (e::es) m)
 (hi:X.N[i]?=some y:=by rfl) (hy:Loc X.env.scope y:=by exact Or.inl rfl) (hs:swapsWith (.Call (.Name x p) (e::es) [] pos) (some (.Name y pos')) pos2.line X.env=pure false:=by rfl) (hf:X.fn y=true\/X.env.scope.names.lookup y=some .local:=by first|exact .inl rfl|exact .inr rfl|assumption)
 (hdb:(x==("__debug__":Str))=false:=by decide) (he:AM (e::es) X.env=(false,eval e X.env)::AM es X.env:=by rfl) (hpl:(backTo pos (AM es X.env)).any (·.1)=false:=by rfl):
 EX X E (.Assign [.Name y pos'] (.Call (.Name x p) (e::es) [] pos) pos2) (a4h i g m):=
 L5 (b7P hN hi hy (b3i (E:=E) G hr hg hm hk hb hx ha hdb he hpl) hs hf) fun D σ H ⟨F0,H0,F,ρ,fx,so,e,fin⟩=>by
  obtain⟨r,e1,e⟩:=bind_some e
  refine b4F so hn e1 ?_
  cases r with
  |inl r=>
   have e:(if r.nb=true then some (FX.fl (.nx (ρ.set i (some r)))) else none)=some fx:=e
   split at e
   ·rename_i c
    cases e
    exact fun v F' H' o=>fin _ F' H' o.x.f (so.set o c i)
   ·cases e
  |inr c=>
   cases e
   obtain⟨C,h1,h2⟩:=fin
   exact⟨C,h1,fun a F' H' y hn=>h2 σ a F' H' y.f (so.ext y) hn⟩
theorem c0z{k n:Nat}{f:AB}{fd:FuncData}{ps:List Str}{g:List PV->Option (f6 ⊕ XT)}{x:Str}{p pos pos2:Pos}{e:AF}{es:List AF}{m:MA}
 (G:a05 X.prog X.w X.K X.mg X.base CX k f fd ps (spX X.K X.mg n g)) (hr:R9 k X.A) (hg:Gl X x) (hm:X.mg x=some (.ref f)) (hk:PySem.W.keepIn X.K (.ref f)=true) (hb:a39 X.K fd ps []) (hx:Z0 CX X E) (hn:∀ρ ps,m ρ=some ps->ps.length=n) (ha:EA X (e::es) m)
 (hs:swapsWith (.Call (.Name x p) (e::es) [] pos) none pos2.line X.env=pure false:=by rfl)
 (hdb:(x==("__debug__":Str))=false:=by decide) (he:AM (e::es) X.env=(false,eval e X.env)::AM es X.env:=by rfl) (hpl:(backTo pos (AM es X.env)).any (·.1)=false:=by rfl):
 EX X E (.Expr (.Call (.Name x p) (e::es) [] pos) pos2) (b02 g m):=
 L5 (b19 (b3i (E:=E) G hr hg hm hk hb hx ha hdb he hpl) hs) fun D σ H ⟨F0,H0,F,ρ,fx,so,e,fin⟩=>by
  obtain⟨r,e1,e⟩:=bind_some e
  refine b4F so hn e1 ?_
  cases r with
  |inl r=>cases e;exact fun v F' H' o=>fin σ F' H' o.x.f (so.ext o.x)
  |inr c=>
   cases e
   obtain⟨C,h1,h2⟩:=fin
   exact⟨C,h1,fun a F' H' y hn=>h2 σ a F' H' y.f (so.ext y) hn⟩
theorem a4E{E1:XK}{x:Str}{C:AB}{np cpos pos:Pos}{e₀:AF}{C7:List AF}{m:MA}(hc:X.calm=true)(hx0:X.ex=[])(hg:Gl X x)(hm:X.mg x=some (.ref C))(hX:b6y C X.base)(ha:EA X (e₀::C7) m)
 (hxe:∀(pins:List (AB×Obj)) (σ:L2.St) (H:Hp) (s:AC) (a:AB),l8 X pins σ H s->Ex0 s.heap a C none->X.s₀.heap.get? a=none->H a=none->E1 (.ref C) none H->X.xe (.ref a) s)
 (he:AM (e₀::C7) X.env=(false,eval e₀ X.env)::AM C7 X.env:=by rfl) (hplain:(backTo cpos (AM C7 X.env)).any (·.1)=false:=by rfl) (hdb:(x==("__debug__":Str))=false:=by decide):
 EX X (fun _=>E1) (.Raise (some (.Call (.Name x np) (e₀::C7) [] cpos)) none pos) (b23 x m):=
 L5 (b7N (W:=fun H=>E1 (.ref C) none H) hc hx0 hg hm hX ha hxe he hplain hdb) fun D σ H ⟨F0,H0,F,ρ,fx,so,e,fin⟩=>by
  obtain⟨qs,e1,e⟩:=bind_some e
  split at e
  ·rename_i c
   cases e
   obtain⟨C',h1,h2⟩:=fin
   rw [hm] at h1
   cases h1
   refine⟨F,ρ,qs,so.e,e1,fun vs F1 H1 y rl=>⟨by rw [rl.length];exact c,h2 σ none F1 H1 y.f (so.ext y) (.inl ⟨rfl,rfl⟩)⟩⟩
  ·cases e
end
def b6i(n:Nat)(body:MX)(ps:List PV):Option (f6 ⊕ XT):=(body (ps.map (fun p=>some (f6.val p))++Ab n none)).bind fun fx=>match fx with
 | .fl (.rt r)=>some (.inl r)
 | .fl (.nx _)=>some (.inl (.val .none))
 | .rz c _=>some (.inr c)
 |_=>none
theorem c0C{P:AK}{w:AJ}{K:AE}{mg:Str->Option AA}{base:Heap}{x qual:Str}{st:Stmt}{f:AB}{fd:FuncData}{N ps:List Str}{k:Nat}{m:MX}(F:Fun K x qual st f fd)(S:j8 N ps (g8 st))
 (hb:∀(cdv:AA) (A:AL) (outer:List Env) (s:AC) (H:Hp) (E:XK),R9 k (A.deeper (envOfC qual (g8 st) s.heap.objs.size f cdv))->EXs (a5H (CX1 P w) P w K mg base N qual (g8 st) f cdv A outer s H E) (fun _=>E) (E5 st) m):
 a05 P w K mg base (CX1 P w) (k+1) f fd ps (spX K mg ps.length (b6i (N.length - ps.length) m)):=by
 obtain⟨oc,od,kV,doc,pm,an,cdv,ct,osl,rfl,lk,hcd⟩:=F.ex
 refine b9Z lk hcd S (fun vs H Q E h=> ?_) fun A outer s H vs Q E hr h=> ?_
 ·obtain⟨_,qs,_,_,r,h2,_⟩:=h
  rw [r.length,h2]
 ·obtain⟨F1,qs,r,s1,rl,hl,e,k⟩:=h
  refine⟨_,hb cdv A outer s H E hr, ?_⟩
  unfold b6i at e
  obtain⟨fx,e1,e2⟩:=bind_some e
  have hv:vs.length=ps.length:=by rw [rl.length,hl]
  refine⟨F1,H,F1,_,fx, ?_,e1, ?_⟩
  ·have:=b3B (N.length - ps.length) s1 rl
   unfold L2.a5X
   rw [hv]
   exact this
  ·cases fx with
   |rz c ρ1=>
    cases e2
    obtain⟨C,h1,h2⟩:=k
    exact⟨C,h1,fun _ a F' H' _ so' hn=>h2 a F' H' so'.x hn⟩
   |fl f=>
    cases f with
    |rt q=>cases e2;exact fun v F' H' o=>k v F' H' o
    |nx ρ=>cases e2;exact fun σ' F' H' _ so=>k .non F' H' (C3.val so.x rfl)
    |bk ρ=>cases e2
    |ct ρ=>cases e2
def a7p(P:AK)(w:AJ)(K:AE)(mg:Str->Option AA)(base:Heap)(x:Str)(ps:List Str)(k:Nat)(g:List PV->Option (f6 ⊕ XT)):Prop:=
 ∃f fd,a05 P w K mg base (CX1 P w) k f fd ps (spX K mg ps.length g)/\mg x=some (.ref f)/\PySem.W.keepIn K (.ref f)=true/\a39 K fd ps []
def left(g:List PV->Option (f6 ⊕ XT))(ps:List PV):Option f6:=(g ps).bind fun r=>match r with
 | .inl r=>some r
 | .inr _=>none
section
variable {X:Cx}
theorem c08:a8Y (CX1 X.prog X.w) X E0:=fun _ _ _ _ _ _ _ h=>by
 obtain⟨_,_,_,_,_,_,_,_,_,_,_,_,_,_,_,h⟩:=h
 exact False.elim h
theorem b8M{k k':Nat}{ps:List Str}{g:List PV->Option (f6 ⊕ XT)}{x:Str}{p pos:Pos}{e:AF}{es:List AF}{m:MA}
 (d:a7p X.prog X.w X.K X.mg X.base x ps k g) (hr:R9 k' X.A) (hk:k<=k') (hg:Gl X x) (hn:∀ρ qs,m ρ=some qs->qs.length=ps.length) (ha:EA X (e::es) m)
 (hdb:(x==("__debug__":Str))=false:=by decide) (he:AM (e::es) X.env=(false,eval e X.env)::AM es X.env:=by rfl) (hpl:(backTo pos (AM es X.env)).any (·.1)=false:=by rfl):
 EE X (.Call (.Name x p) (e::es) [] pos) (k4 (left g) m):=by
 obtain⟨f,fd,G,h1,h2,h3⟩:=d
 refine J4 (b5i G (hr.mono hk) hg h1 h2 h3 .nil c08 ha hdb he hpl) fun σ H Q ⟨F,ρ,r,he,hm,k⟩=> ?_
 obtain⟨qs,e1,hm⟩:=bind_some hm
 obtain⟨r',e2,hm⟩:=bind_some hm
 cases r' with
 |inr c=>cases hm
 |inl r'=>
  cases hm
  refine⟨F,ρ,qs,he,e1,fun vs F1 H1 x rl=> ?_⟩
  show spX X.K X.mg ps.length g (vs++[]) H1 Q E0
  rw [Ad]
  exact⟨F1,qs,.inl r,x.fh,rl,hn _ _ e1,e2,fun v F2 H2 o=>k v F2 H2 (C3.trans x o)⟩
end
def byT(w:AJ):Bool:=w.params.followText "set-order"
def b5B(prog:AK)(w:AJ)(h:Heap)(a:AB)(es:Array (Int×AA))(ep:Nat):Prop:=
 ∃o t,h.get? a=some o/\o.ExactSet/\o.data= .set es ep t/\ElemsOf (a8T prog w) es.toList/\es.size<scanBound/\t.fits es.size=true/\t.led= !byT w/\(es.size≠0->t.plain=false)
def sOf:AA->Str
 | .str x _=>x
 |_=>⟨#[]⟩
abbrev b94(es:Array (Int×AA)):List Str:=es.toList.map fun e=>sOf e.2
structure TxE(es:Array (Int×AA))(zs:List Str):Prop where
 all:∀e∈es.toList,∃x t,e.2= .str x t
 nd:(b94 es).Nodup
 mem:∀x,x∈b94 es↔x∈zs
theorem b5B.at'{prog:AK}{w:AJ}{h h':Heap}{a:AB}{es:Array (Int×AA)}{ep:Nat}(x:b5B prog w h a es ep)(e:∀o,h.get? a=some o->h'.get? a=some o):b5B prog w h' a es ep:=
 let ⟨o,t,ho,r⟩:=x;⟨o,t,e _ ho,r⟩
section
variable {prog:AK}{w:AJ}{A:AL}{E:AA->AC->Prop}{s:AC}
theorem TxE.perm{es es':Array (Int×AA)}{zs:List Str}(p:es'.toList.Perm es.toList)(T:TxE es zs):TxE es' zs where
 all:=fun e he=>T.all e (p.mem_iff.mp he)
 nd:=((p.map _).nodup_iff).mpr T.nd
 mem:=fun x=>((p.map _).mem_iff).trans (T.mem x)
end
end PU
set_option maxHeartbeats 3200000
namespace PU
open PySem PySem.Spec PyProof.Rows L2 PySem.W
section
variable {prog:AK}{w:AJ}{A:AL}{E:AA->AC->Prop}{s:AC}
end
end PU
set_option maxHeartbeats 1000000
namespace PU
open PySem PySem.Spec PyProof.Rows L2 PySem.W
def b2w(h:Heap)(it:AB)(first:AA)(i:Nat)(a:AB)(n ep:Nat):Prop:=∃o,h.get? it=some o/\o.cls= .type "set_iterator"/\o.data= .fields #[first,.int i 0,.ref a,.int n 0,.int ep 0]
theorem b2w.typeIs{s:AC}{it:AB}{first:AA}{i:Nat}{a:AB}{n ep:Nat}(x:b2w s.heap it first i a n ep):s.TypeIs (.ref it) "set_iterator":=let ⟨o,ho,hc,_⟩:=x;⟨o,ho,hc⟩
theorem b2w.at'{h h':Heap}{it:AB}{first:AA}{i:Nat}{a:AB}{n ep:Nat}(x:b2w h it first i a n ep)(e:∀o,h.get? it=some o->h'.get? it=some o):b2w h' it first i a n ep:=let ⟨o,ho,r⟩:=x;⟨o,e _ ho,r⟩
section
variable {prog:AK}{w:AJ}{A:AL}{E:AA->AC->Prop}{s:AC}{it a:AB}{i ep:Nat}{es:Array (Int×AA)}
theorem b5B.typeIs(x:b5B prog w s.heap a es ep):s.TypeIs (.ref a) "set":=let ⟨o,_,ho,hc,_⟩:=x;⟨o,ho,hc.1⟩
end
section
variable {prog:AK}{w:AJ}{A:AL}{E:AA->AC->Prop}{s:AC}{it a:AB}{i ep:Nat}{es:Array (Int×AA)}
end
section
variable {prog:AK}{w:AJ}{A:AL}{E:AA->AC->Prop}{s:AC}{a:AB}{ep:Nat}{es:Array (Int×AA)}
end
section
variable {prog:AK}{w:AJ}{A:AL}{E:AA->AC->Prop}{s:AC}{a:AB}{ep:Nat}{es:Array (Int×AA)}
end
section
variable {X:Cx}{pins:List (AB×Obj)}{σ:L2.St}{H:Hp}{s:AC}
end
open PySem PySem.Spec PyProof.Rows L2
section
variable {X:Cx}
end
mutual
def nd:PV->Bool
 | .list ps=>ndL ps
 | .tuple ps=>ndL ps
 | .dict ((.tuple _,_)::_)=>false
 | .dict ((.str _,.bool false)::_)=>false
 | .dict ((.str _,.int _)::_)=>false
 |_=>true
def ndL:List PV->Bool
 |[]=>true
 |p::ps=>nd p && ndL ps
end
section
variable {K:AE}{F:Hp}{a:AB}{xs:List (List B0×V)}
end
section
variable {X:Cx}
end
section
variable {prog:AK}{w:AJ}{K:Type}[DecidableEq K]{kd:KeyKind prog w K}{A:AL}{E:AA->AC->Prop}{s:AC}
end
section
variable {X:Cx}{pins:List (AB×Obj)}{σ:L2.St}{H:Hp}{s:AC}{a:AB}{kvs:List (List B0×V)}{A:AL}{E:AA->AC->Prop}
end
section
variable {X:Cx}{o i:AF}{td ty:TE}
end
section
variable {X:Cx}
end
theorem C3.txt{K:AE}{F H:Hp}{a:AB}(s:p5 F H)(n:H a=none):C3 K F H F (upd H a (.dK [])) (.ref a) (.ow (.txt [])):=
 ⟨Ext.layH s n,⟨a,[],rfl,s.free n,w4,rfl⟩,fun _ _ _ e=>by cases e;exact n⟩
section
variable {X:Cx}
end
abbrev ItO(f0:AA)(f1:Bool)(d:AB)(i n ep:Nat)(ok ov:AA):Obj:={cls:= .type "dict_itemiterator",dict:=none,data:= .fields #[f0,.bool f1,.ref d,.int i 0,.int n 0,.int ep 0,ok,ov],slots:= #[]}
def ItA(h:Heap)(it d:AB)(i n ep:Nat):Prop:=∃f0 f1 ok ov,h.get? it=some (ItO f0 f1 d i n ep ok ov)/\((f0= .none/\f1=false)\/∃a o,f0=rawInt (a:Nat)/\h.get? a=some o/\a≠it)
theorem ItA.at'{h h':Heap}{it d:AB}{i n ep:Nat}(x:ItA h it d i n ep)(e:∀b o,h.get? b=some o->h'.get? b=some o):ItA h' it d i n ep:=by
 obtain⟨f0,f1,ok,ov,h1,h2⟩:=x
 refine⟨f0,f1,ok,ov,e _ _ h1, ?_⟩
 rcases h2 with h2|⟨a,o,h2,h3,h4⟩
 ·exact .inl h2
 ·exact .inr ⟨a,o,h2,e _ _ h3,h4⟩
section
variable {prog:AK}{w:AJ}{K:Type}[DecidableEq K]{knd:KeyKind prog w K}{A:AL}{E:AA->AC->Prop}{s:AC}
end
section
variable {prog:AK}{w:AJ}{A:AL}{E:AA->AC->Prop}{s:AC}
def b3M(h:Heap)(lo:Nat)(v:AA)(kv:B0×AA):Prop:=∃a key,v= .ref a/\lo<=a/\b7l kv.1 key=true/\h.get? a=some {cls:= .type "tuple",data:= .seq #[key,kv.2]}
theorem b3M.keep{h h':Heap}{lo:Nat}{v:AA}{kv:B0×AA}(x:b3M h lo v kv)(e:∀b o,lo<=b->(∀xs n,o.data= .seq xs n->o.cls= .type "tuple"->h.get? b=some o->h'.get? b=some o)):b3M h' lo v kv:=
 let ⟨a,key,r,l,k,g⟩:=x;⟨a,key,r,l,k,e a _ l _ _ rfl rfl g⟩
end
end PU
namespace TS
open PySem PySem.Spec PyProof.Rows L2 PU
section
variable {prog:AK}{w:AJ}{A:AL}{E:AA->AC->Prop}{s:AC}
variable {κ:SortKind}{S:Heap->Keyed->Prop}{R:Heap->Keyed->Keyed->Bool}
end
end TS
namespace PU
open PySem PySem.Spec PyProof.Rows L2 PySem.W
section
variable {X:Cx}{pins:List (AB×Obj)}{σ:L2.St}{H H':Hp}{s:AC}{h':Heap}
theorem l8.many{t':Nat}(I:l8 X pins σ H s)(k:∀b u,s.heap.get? b=some u->h'.get? b=some u)(old:∀b,b<s.heap.objs.size->H' b=H b)(new:∀b o,s.heap.objs.size<=b->H' b=some o->R3 X.prog X.w H' h' b o):
 l8 X pins σ H' {s with heap:=h',toks:=t'}:=by
 have tr:∀b o,H b=some o->H' b=some o:=fun b o e=>by rw [old b (I.hok.lt e)];exact e
 refine I.un ⟨fun b u q _ _ _=>k b u q,fun b u q _ _ _=>⟨u.slots,k b u q⟩,fun b u q n _=>by rw [old b (Ag q)];exact n,fun b u q _=>⟨u,k b u q⟩,fun b xs q=>tr b _ q,fun b u xs q=>tr b _ q,fun b ps q=>⟨#[],by rw [tr b _ q];simp⟩⟩ fun b o e=> ?_
 rcases Nat.lt_or_ge b s.heap.objs.size with hb|hb
 ·rw [old b hb] at e
  exact(I.hok b o e).stay (fun c v _ q=>k c v q) (fun c q=>tr c _ q) fun c xs q=>tr c _ q
 ·exact new b o hb e
end
section
variable {X:Cx}
end
section
variable {X:Cx}
end
open PySem PySem.Spec PyProof.Rows L2
section
variable {X:Cx}{pins:List (AB×Obj)}{σ:L2.St}{H:Hp}{s:AC}{a:AB}{kvs:List (B0×V)}{k:B0}{v:V}{u r:AA}{A:AL}{E:AA->AC->Prop}
end
theorem b8f{K:AE}{H:Hp}{a D:AB}{xs:List V}{kvs kvs':List (B0×V)}(e:H D=some (.dK kvs))(h:SqT K H a xs):SqT K (upd H D (.dK kvs')) a xs:=by
 rcases h with(h|⟨o,h⟩)|h
 ·exact .inl (.inl (by rw [l7 (b24 h e (fun z=>nomatch z))];exact h))
 ·exact .inl (.inr ⟨o,by rw [l7 (b24 h e (fun z=>nomatch z))];exact h⟩)
 ·exact .inr h
def b6t(K:AE)(H:Hp)(p:B0×V)(x:V):Prop:=∃a,x= .ref a/\SqT K H a [kV p.1,p.2]
theorem b6t.upd{K:AE}{H:Hp}{D:AB}{kvs kvs':List (B0×V)}(e:H D=some (.dK kvs)){p:B0×V}{x:V}(h:b6t K H p x):b6t K (upd H D (.dK kvs')) p x:=
 let ⟨a,h1,h2⟩:=h
 ⟨a,h1,b8f e h2⟩
section
variable {X:Cx}{pins:List (AB×Obj)}{σ:L2.St}{A:AL}{R:Result->AC->Prop}
end
section
variable {X:Cx}
end
section
variable {X:Cx}
end
abbrev tv(kvs:List (List B0×PV)):PV:= .dict (kvs.map fun kv=>(PyData.tuple (kv.1.map kP),kv.2))
section
variable {X:Cx}
end
mutual
def nk:PV->Bool
 | .list ps=>nkL ps
 | .tuple ps=>nkL ps
 | .dict _=>false
 |_=>true
def nkL:List PV->Bool
 |[]=>true
 |p::ps=>nk p && nkL ps
end
section
variable {K:AE}{F:Hp}{a:AB}{xs:List (B0×V)}
end
section
variable {X:Cx}
end
structure ZA(z TI TO i1 i2:AB):Prop where
 TIz:TI≠z
 TOz:TO≠z
 i1z:i1≠z
 i2z:i2≠z
 TITO:TI≠TO
 TIi1:TI≠i1
 TIi2:TI≠i2
 TOi1:TO≠i1
 TOi2:TO≠i2
 i12:i1≠i2
section
variable {prog:AK}{w:AJ}{A:AL}{E:AA->AC->Prop}{s:AC}{z TI TO i1 i2:AB}{n1 n2 i:Nat}{P1 P2:Nat->AA->Prop}{St1 St2:Nat->Heap->Prop}{a b:AA}
theorem a7W{Q:AA->AC->Prop}(D:ZA z TI TO i1 i2)(D1:∀A',A'.handled=none->Draws prog w A' i1 [i1] n1 P1 St1)(D2:∀A',A'.handled=none->Draws prog w A' i2 [i2] n2 P2 St2)(hh:A.handled=none)
 (hz:IsZip s.heap z TI TO .none) (hTI:IsPair s.heap TI (.ref i1) (.ref i2)) (hTO:IsPair s.heap TO a b) (h1:St1 i s.heap) (h2:St2 i s.heap) (l1:i<n1) (l2:i<n2)
 (hQ:∀x y h' tk,P1 i x->P2 i y->IsZip h' z TI TO (rawInt s.heap.objs.size)->IsPair h' TO x y->St1 (i+1) h'->St2 (i+1) h'->IsPair h' s.heap.objs.size x y->h'.objs.size=s.heap.objs.size+1->
  (∀c o,c≠z->c≠TO->c≠i1->c≠i2->s.heap.get? c=some o->h'.get? c=some o)->Q (.ref s.heap.objs.size) {s with heap:=h',toks:=tk}):
 AI (model prog w) A (Builtin.«zip.__next__» ⟨[.ref z],[]⟩) (fun fin s'=>∃v,fin= .done (.ret v)/\Q v s') E s:=by
 show AI _ _ (field (.ref z) 2>>=_) _ _ _
 refine AG (wpAny_field hz rfl (x:= .bool false) rfl ?_)
 show AI _ _ (field (.ref z) 3>>=_) _ _ _
 refine AG (wpAny_field hz rfl (x:= .ref TI) rfl ?_)
 refine AG (wpAny_seqItems hTI rfl ?_)
 show AI _ _ (Builtin.SmallTypes.ownedTupleIsFree (.ref z)>>=_) _ _ _
 refine AG ?_
 unfold Builtin.SmallTypes.ownedTupleIsFree
 refine AG (wpAny_field hz rfl (x:= .none) rfl (Aa ?_))
 simp only [if_true]
 refine AG (wpAny_rule ?_)
 refine AG (wpAny_field hz rfl (x:= .ref TO) rfl ?_)
 refine AG (wpAny_setField_rec hz (by simp) fun h₁ hz₁ hs₁=> ?_)
 replace hz₁:IsZip h₁ z TI TO .ellipsis:=hz₁
 refine AG ?_
 simp only [List.zipIdx_cons,List.zipIdx_nil,List.forIn_cons,List.forIn_nil]
 have f1:∀{x:AB} {h h':Heap} {i},x≠i1->Heap.SameBut x h h'->St1 i h->St1 i h':=fun n k st=>(D1 A hh).frame _ _ _ st fun b hb o e=>by
  have hb:b=i1:=by simpa using hb
  exact k.extBut _ _ (by rw [hb];exact Ne.symm n) e
 have f2:∀{x:AB} {h h':Heap} {i},x≠i2->Heap.SameBut x h h'->St2 i h->St2 i h':=fun n k st=>(D2 A hh).frame _ _ _ st fun b hb o e=>by
  have hb:b=i2:=by simpa using hb
  exact k.extBut _ _ (by rw [hb];exact Ne.symm n) e
 refine AG (AG (wpAny_onRaise ?_))
 show AI _ _ (Builtin.SmallTypes.nextOf (.ref i1)>>=_) _ _ _
 refine AG ((D1 _ hh).item i _ _ _ l1 (f1 D.i1z.symm hs₁ h1) fun x h₂ tk₂ px h1₂ hs₂=>Aa ?_)
 have hTO₂:IsPair h₂ TO a b:=hs₂.extBut _ _ D.TOi1 (hs₁.extBut _ _ D.TOz hTO)
 refine AG (wpAny_seqItems hTO₂ rfl ?_)
 refine AG (wpAny_updateSeq_pair hTO₂ fun h₃ hTO₃ hs₃=> ?_)
 replace hTO₃:IsPair h₃ TO x b:=hTO₃
 refine AG (wpAny_letGo (Aa ?_))
 refine AG (AG (wpAny_onRaise ?_))
 show AI _ _ (Builtin.SmallTypes.nextOf (.ref i2)>>=_) _ _ _
 refine AG ((D2 _ hh).item i _ _ _ l2 (f2 D.TOi2 hs₃ (f2 D.i12 hs₂ (f2 D.i2z.symm hs₁ h2))) fun y h₄ tk₄ py h2₄ hs₄=>Aa ?_)
 have hTO₄:IsPair h₄ TO x b:=hs₄.extBut _ _ D.TOi2 hTO₃
 refine AG (wpAny_seqItems hTO₄ rfl ?_)
 refine AG (wpAny_updateSeq_pair hTO₄ fun h₅ hTO₅ hs₅=> ?_)
 replace hTO₅:IsPair h₅ TO x y:=hTO₅
 refine AG (wpAny_letGo (Aa (Aa ?_)))
 refine AG (wpAny_seqItems hTO₅ rfl ?_)
 refine AG (wpAny_newTuple ?_)
 have hsz:h₅.objs.size=s.heap.objs.size:=by rw [hs₅.1,hs₄.1,hs₃.1,hs₂.1,hs₁.1]
 have hz₅:IsZip h₅ z TI TO .ellipsis:=hs₅.extBut _ _ D.TOz.symm (hs₄.extBut _ _ D.i2z.symm (hs₃.extBut _ _ D.TOz.symm (hs₂.extBut _ _ D.i1z.symm hz₁)))
 have hk₅:∀c o,c≠z->c≠TO->c≠i1->c≠i2->s.heap.get? c=some o->h₅.get? c=some o:=fun c o c1 c2 c3 c4 e=>
  hs₅.extBut _ _ c2 (hs₄.extBut _ _ c4 (hs₃.extBut _ _ c2 (hs₂.extBut _ _ c3 (hs₁.extBut _ _ c1 e))))
 have h1₅:St1 (i+1) h₅:=f1 D.TOi1 hs₅ (f1 D.i12.symm hs₄ (f1 D.TOi1 hs₃ h1₂))
 have h2₅:St2 (i+1) h₅:=f2 D.TOi2 hs₅ h2₄
 have hzlt:z<h₅.objs.size:=Ag hz₅
 have hTOlt:TO<h₅.objs.size:=Ag hTO₅
 have hi1lt:i1<h₅.objs.size:=by obtain⟨_,e⟩:=(D1 A hh).live _ _ h1₅;exact Ag e
 have hi2lt:i2<h₅.objs.size:=by obtain⟨_,e⟩:=(D2 A hh).live _ _ h2₅;exact Ag e
 show AI _ _ (Builtin.SmallTypes.ownedTupleHandOut (.ref z) (.ref h₅.objs.size)>>=_) _ _ _
 refine AG ?_
 unfold Builtin.SmallTypes.ownedTupleHandOut
 have hz₆:IsZip (h₅.push {cls:= .type "tuple",data:= .seq #[x,y]}) z TI TO .ellipsis:=An _ hz₅
 refine AG (wpAny_setField_rec hz₆ (by simp) fun h₇ hz₇ hs₇=> ?_)
 replace hz₇:IsZip h₇ z TI TO (rawInt h₅.objs.size):=hz₇
 refine wpAny_setField_rec hz₇ (by simp) fun h₈ hz₈ hs₈=> ?_
 replace hz₈:IsZip h₈ z TI TO (rawInt h₅.objs.size):=hz₈
 have up:∀c o,c≠z->h₅.get? c=some o->h₈.get? c=some o:=fun c o c1 e=>hs₈.extBut _ _ c1 (hs₇.extBut _ _ c1 (An _ e))
 have hT₈:IsPair h₈ h₅.objs.size x y:=hs₈.extBut _ _ (Nat.ne_of_gt hzlt) (hs₇.extBut _ _ (Nat.ne_of_gt hzlt) (Az _ rfl))
 have hz8:h₈.objs.size=h₅.objs.size+1:=by rw [hs₈.1,hs₇.1,Heap.size_push]
 rw [hsz] at hz₈ hT₈ hz8
 refine Aa ⟨_,rfl, ?_⟩
 show Q (.ref h₅.objs.size) _
 rw [hsz]
 refine hQ x y h₈ _ px py hz₈ (up _ _ D.TOz hTO₅) ?_ ?_ hT₈ hz8 fun c o c1 c2 c3 c4 e=>up c o c1 (hk₅ c o c1 c2 c3 c4 e)
 ·refine(D1 A hh).frame _ _ _ h1₅ fun b hb o e=>up b o ?_ e
  rw [List.mem_singleton.mp hb]
  exact D.i1z
 ·refine(D2 A hh).frame _ _ _ h2₅ fun b hb o e=>up b o ?_ e
  rw [List.mem_singleton.mp hb]
  exact D.i2z
theorem b0f{Q:PySem.Fin->AC->Prop}(D:ZA z TI TO i1 i2)(D1:∀A',A'.handled=none->Draws prog w A' i1 [i1] n1 P1 St1)(D2:∀A',A'.handled=none->Draws prog w A' i2 [i2] n2 P2 St2)(hh:A.handled=none)
 (hz:IsZip s.heap z TI TO .none) (hTI:IsPair s.heap TI (.ref i1) (.ref i2)) (hTO:IsPair s.heap TO a b) (h1:St1 i s.heap) (h2:St2 i s.heap) (l1:i<=n1) (l2:i<=n2) (hend:i=n1\/i=n2)
 (hE:∀h' e tk,(∀c o,c≠z->c≠TO->c≠i1->c≠i2->s.heap.get? c=some o->h'.get? c=some o)->(∃o,h'.get? e=some o/\o.cls= .type "StopIteration")->E (.ref e) {s with heap:=h',toks:=tk}):
 AI (model prog w) A (Builtin.«zip.__next__» ⟨[.ref z],[]⟩) Q E s:=by
 show AI _ _ (field (.ref z) 2>>=_) _ _ _
 refine AG (wpAny_field hz rfl (x:= .bool false) rfl ?_)
 show AI _ _ (field (.ref z) 3>>=_) _ _ _
 refine AG (wpAny_field hz rfl (x:= .ref TI) rfl ?_)
 refine AG (wpAny_seqItems hTI rfl ?_)
 show AI _ _ (Builtin.SmallTypes.ownedTupleIsFree (.ref z)>>=_) _ _ _
 refine AG ?_
 unfold Builtin.SmallTypes.ownedTupleIsFree
 refine AG (wpAny_field hz rfl (x:= .none) rfl (Aa ?_))
 simp only [if_true]
 refine AG (wpAny_rule ?_)
 refine AG (wpAny_field hz rfl (x:= .ref TO) rfl ?_)
 refine AG (wpAny_setField_rec hz (by simp) fun h₁ hz₁ hs₁=> ?_)
 replace hz₁:IsZip h₁ z TI TO .ellipsis:=hz₁
 refine AG ?_
 simp only [List.zipIdx_cons,List.zipIdx_nil,List.forIn_cons,List.forIn_nil]
 have f1:∀{x:AB} {h h':Heap} {i},x≠i1->Heap.SameBut x h h'->St1 i h->St1 i h':=fun n k st=>(D1 A hh).frame _ _ _ st fun b hb o e=>by
  have hb:b=i1:=by simpa using hb
  exact k.extBut _ _ (by rw [hb];exact Ne.symm n) e
 have f2:∀{x:AB} {h h':Heap} {i},x≠i2->Heap.SameBut x h h'->St2 i h->St2 i h':=fun n k st=>(D2 A hh).frame _ _ _ st fun b hb o e=>by
  have hb:b=i2:=by simpa using hb
  exact k.extBut _ _ (by rw [hb];exact Ne.symm n) e
 refine AG (AG (wpAny_onRaise ?_))
 show AI _ _ (Builtin.SmallTypes.nextOf (.ref i1)>>=_) _ _ _
 by_cases hx:i=n1
 ·subst hx
  refine AG ((D1 _ hh).done _ _ _ (f1 D.i1z.symm hs₁ h1) fun h₂ e hs₂ he=> ?_)
  obtain⟨oe,hoe,hce⟩:=he
  have hz₂:IsZip h₂ z TI TO .ellipsis:=hs₂ _ _ D.i1z.symm hz₁
  have hez:e≠z:=fun x=>by subst x;rw [hz₂] at hoe;cases hoe;simp at hce
  exact wpAny_setField_rec hz₂ (by simp) fun h₃ _ hs₃=>hE h₃ e _ (fun c o c1 _ c3 _ x=>hs₃.extBut _ _ c1 (hs₂ _ _ c3 (hs₁.extBut _ _ c1 x))) ⟨oe,hs₃.extBut _ _ hez hoe,hce⟩
 ·have hy:i=n2:=hend.resolve_left hx
  subst hy
  refine AG ((D1 _ hh).item i _ _ _ (Nat.lt_of_le_of_ne l1 hx) (f1 D.i1z.symm hs₁ h1) fun x h₂ tk₂ px h1₂ hs₂=>Aa ?_)
  have hTO₂:IsPair h₂ TO a b:=hs₂.extBut _ _ D.TOi1 (hs₁.extBut _ _ D.TOz hTO)
  refine AG (wpAny_seqItems hTO₂ rfl ?_)
  refine AG (wpAny_updateSeq_pair hTO₂ fun h₃ hTO₃ hs₃=> ?_)
  refine AG (wpAny_letGo (Aa ?_))
  refine AG (AG (wpAny_onRaise ?_))
  show AI _ _ (Builtin.SmallTypes.nextOf (.ref i2)>>=_) _ _ _
  refine AG ((D2 _ hh).done _ _ _ (f2 D.TOi2 hs₃ (f2 D.i12 hs₂ (f2 D.i2z.symm hs₁ h2))) fun h₄ e hs₄ he=> ?_)
  obtain⟨oe,hoe,hce⟩:=he
  have hz₄:IsZip h₄ z TI TO .ellipsis:=hs₄ _ _ D.i2z.symm (hs₃.extBut _ _ D.TOz.symm (hs₂.extBut _ _ D.i1z.symm hz₁))
  have hez:e≠z:=fun x=>by subst x;rw [hz₄] at hoe;cases hoe;simp at hce
  exact wpAny_setField_rec hz₄ (by simp) fun h₅ _ hs₅=>hE h₅ e _ (fun c o c1 c2 c3 c4 x=>hs₅.extBut _ _ c1 (hs₄ _ _ c4 (hs₃.extBut _ _ c2 (hs₂.extBut _ _ c3 (hs₁.extBut _ _ c1 x))))) ⟨oe,hs₅.extBut _ _ hez hoe,hce⟩
theorem a7S{Q:Option AA->AC->Prop}(D:ZA z TI TO i1 i2)(D1:∀A',A'.handled=none->Draws prog w A' i1 [i1] n1 P1 St1)(D2:∀A',A'.handled=none->Draws prog w A' i2 [i2] n2 P2 St2)(hh:A.handled=none)
 (hz:IsZip s.heap z TI TO .none) (hTI:IsPair s.heap TI (.ref i1) (.ref i2)) (hTO:IsPair s.heap TO a b) (h1:St1 i s.heap) (h2:St2 i s.heap) (l1:i<n1) (l2:i<n2)
 (hQ:∀x y h' tk,P1 i x->P2 i y->IsZip h' z TI TO (rawInt s.heap.objs.size)->IsPair h' TO x y->St1 (i+1) h'->St2 (i+1) h'->IsPair h' s.heap.objs.size x y->h'.objs.size=s.heap.objs.size+1->
  (∀c o,c≠z->c≠TO->c≠i1->c≠i2->s.heap.get? c=some o->h'.get? c=some o)->Q (some (.ref s.heap.objs.size)) {s with heap:=h',toks:=tk}):
 AI (model prog w) A (pyNext (.ref z)) Q E s:=by
 have hT:s.TypeIs (.ref z) "zip":=⟨_,hz,rfl⟩
 unfold pyNext
 exact AG (wpAny_attempt (wpAny_callSpecial?_slot (name:=AY "__next__") hT F.slot_zip_next
  (wpAny_call_entry F.slot_zip_next hT F.entry_zip_next
   (a7W D D1 D2 hh hz hTI hTO h1 h2 l1 l2 fun x y h' tk p1 p2 a1 a2 a3 a4 a5 a6 a7=>Aa (hQ x y h' tk p1 p2 a1 a2 a3 a4 a5 a6 a7)) (F.args_zip_next_1 _))))
theorem a8E{Q:Option AA->AC->Prop}(D:ZA z TI TO i1 i2)(D1:∀A',A'.handled=none->Draws prog w A' i1 [i1] n1 P1 St1)(D2:∀A',A'.handled=none->Draws prog w A' i2 [i2] n2 P2 St2)(hh:A.handled=none)
 (hz:IsZip s.heap z TI TO .none) (hTI:IsPair s.heap TI (.ref i1) (.ref i2)) (hTO:IsPair s.heap TO a b) (h1:St1 i s.heap) (h2:St2 i s.heap) (l1:i<=n1) (l2:i<=n2) (hend:i=n1\/i=n2)
 (hQ:∀h' tk,(∀c o,c≠z->c≠TO->c≠i1->c≠i2->s.heap.get? c=some o->h'.get? c=some o)->Q none {s with heap:=h',toks:=tk}):AI (model prog w) A (pyNext (.ref z)) Q E s:=by
 have hT:s.TypeIs (.ref z) "zip":=⟨_,hz,rfl⟩
 unfold pyNext
 refine AG (wpAny_attempt (wpAny_callSpecial?_slot (name:=AY "__next__") hT F.slot_zip_next
  (wpAny_call_entry F.slot_zip_next hT F.entry_zip_next (b0f D D1 D2 hh hz hTI hTO h1 h2 l1 l2 hend fun h' e tk hk he=> ?_) (F.args_zip_next_1 _))))
 obtain⟨o,ho,hc⟩:=he
 refine AG (wpAny_isInstance (T:="StopIteration") (b:=true) ⟨o,ho,hc⟩ isSubtype_stop ?_)
 exact Aa (hQ _ _ hk)
end
theorem l8.turnedTupN{X:Cx}{pins:List (AB×Obj)}{σ:L2.St}{H:Hp}{s:AC}{h':Heap}{t':Nat}{ch:List AB}{xs:List V}(I:l8 X pins σ H s)(f:∀b∈ch,a7r X pins H b)
 (k:∀b o,b∉ch->s.heap.get? b=some o->h'.get? b=some o) (new:R3 X.prog X.w (upd H s.heap.objs.size (.tup xs)) h' s.heap.objs.size (.tup xs)):
 l8 X pins σ (upd H s.heap.objs.size (.tup xs)) {s with heap:=h',toks:=t'}:=by
 have hn:H s.heap.objs.size=none:=I.hok.fresh (AZ _)
 have nb:∀b u,H b=some u->b∉ch:=fun b u q z=>by rw [(f b z).1] at q;cases q
 refine I.step (g':=s.gens) (d':=s.drawn) (ch:=ch) (fun b hb=>⟨(f b hb).2.2.2.1,(f b hb).2.1,(f b hb).2.2.2.2.1,(f b hb).2.2.2.2.2⟩) (fun b o _ _ hc q _=>k b o hc q) (fun b o _ _ hc q _=>⟨o.slots,k b o hc q⟩)
  (fun b o _ q n=>by rw [l7 (Ar (Ag q))];exact n) (fun b o hc q=>⟨o,k b o hc q⟩)
  (fun b xs q=>by rw [l7 (m4 q hn)];exact q) (fun b o u q=>by rw [l7 (m4 q hn)];exact q) (fun b ps q=>⟨#[],by rw [l7 (m4 q hn),q];simp⟩) (fun m hm=> ?_) (fun b u q=> ?_) I.bare
 ·obtain⟨o,es,ep,ho,r⟩:=hm
  exact⟨o,es,ep,k _ o (fun z=>(f _ z).2.1 rfl) ho,r⟩
 ·by_cases hb:b=s.heap.objs.size
  ·subst hb
   rw [w4] at q
   cases q
   exact new
  ·rw [l7 hb] at q
   refine(I.hok b u q).stay (fun c v hc y=>k c v ?_ y) (fun c y=>by rw [l7 (m4 y hn)];exact y) fun c ys y=>by rw [l7 (m4 y hn)];exact y
   rcases hc with z|z
   ·rw [z];exact nb b u q
   ·exact nb c _ z
theorem l8.turnedN{X:Cx}{pins:List (AB×Obj)}{σ:L2.St}{H:Hp}{s:AC}{h':Heap}{t':Nat}{ch:List AB}(I:l8 X pins σ H s)(f:∀b∈ch,a7r X pins H b)
 (k:∀b o,b∉ch->s.heap.get? b=some o->h'.get? b=some o):l8 X pins σ H {s with heap:=h',toks:=t'}:=by
 have nb:∀b u,H b=some u->b∉ch:=fun b u q z=>by rw [(f b z).1] at q;cases q
 refine I.step (g':=s.gens) (d':=s.drawn) (ch:=ch) (fun b hb=>⟨(f b hb).2.2.2.1,(f b hb).2.1,(f b hb).2.2.2.2.1,(f b hb).2.2.2.2.2⟩) (fun b o _ _ hc q _=>k b o hc q) (fun b o _ _ hc q _=>⟨o.slots,k b o hc q⟩)
  (fun _ _ _ _ n=>n) (fun b o hc q=>⟨o,k b o hc q⟩) (fun _ _ e=>e) (fun _ _ _ e=>e) (fun b ps e=>⟨#[],by rw [e];simp⟩) (fun m hm=> ?_) (fun b u q=> ?_) I.bare
 ·obtain⟨o,es,ep,ho,r⟩:=hm
  exact⟨o,es,ep,k _ o (fun z=>(f _ z).2.1 rfl) ho,r⟩
 ·refine(I.hok b u q).stay (fun c v hc y=>k c v ?_ y) (fun _ y=>y) fun _ _ y=>y
  rcases hc with z|z
  ·rw [z];exact nb b u q
  ·exact nb c _ z
theorem b6G:bootBuiltins "zip"=some (.type "zip"):=by decide+kernel
theorem c1D(n:Nat):ZA (n+4) (n+2) (n+3) n (n+1):=by
 exact⟨(by lia:(n+2:Nat)≠n+4),(by lia:(n+3:Nat)≠n+4),(by lia:(n:Nat)≠n+4),(by lia:(n+1:Nat)≠n+4),(by lia:(n+2:Nat)≠n+3),(by lia:(n+2:Nat)≠n),(by lia:(n+2:Nat)≠n+1),
  (by lia:(n+3:Nat)≠n),(by lia:(n+3:Nat)≠n+1),(by lia:(n:Nat)≠n+1)⟩
section
variable {X:Cx}
end
section
variable {prog:AK}{w:AJ}{K:Type}[DecidableEq K]{knd:KeyKind prog w K}{A:AL}{E:AA->AC->Prop}{s:AC}
end
section
variable {X:Cx}
end
section
variable {X:Cx}{tg:AF}
end
end PU
set_option maxHeartbeats 3200000
namespace PU
open PySem PySem.Spec PyProof.Rows L2 PySem.W
section
variable {prog:AK}{w:AJ}{A:AL}{E:AA->AC->Prop}{s:AC}
end
end PU
set_option maxHeartbeats 1000000
namespace PU
open PySem PySem.Spec PyProof.Rows L2
section
variable {X:Cx}
def b98(X:Cx):List V->Hp->VK->Prop:=fun xs H Q=>∃(a:AB) (zs:List Str),xs=[.ref a]/\H a=some (.lst (zs.map V.str))/\zs.length+1<4096/\∀p es ep,H p=none->TxE es zs->es.size<=zs.length->Q (.ref p) (upd H p (.ext fun h=>b5B X.prog X.w h p es ep))
end
section
variable {X:Cx}
end
section
variable {X:Cx}
def a4M:List PV->Option (List Int)
 |[]=>some []
 | .int i::r=>(a4M r).map (i::·)
 |_=>none
theorem a9l{K:AE}{F:Hp}:∀{ps:List PV} {is:List Int} {xs:List V},a4M ps=some is->p4 K F ps xs->xs=is.map V.int
 |[],_,_,h,r=>by cases h;cases r;rfl
 |p::ps,is,xs,h,⟨v,vs,e,rv,rt⟩=>by
  subst e
  cases p with
  |int z=>
   cases hs:a4M ps with
   |none=>simp [a4M,hs] at h
   |some is'=>
    have h:is=z::is':=by simpa [a4M,hs] using h.symm
    subst h
    have e1:=a9l hs rt
    cases rv
    rw [e1];rfl
  |_=>simp [a4M] at h
end
section
variable {X:Cx}
theorem u3{st:List Stmt}:ESs X st (fun _=>none):=fun pins s σ H D I h=>by
 obtain⟨F0,H0,F,ρ,fl,so,e,fin⟩:=h
 cases e
def B3(x y z:f6):Option f6:=match x,y,z with
 | .val (.str a),.val (.str b),.val (.int i)=>some (.val (.bool (fromIndex a.length i+b.length<=a.length && Builtin.Str.subAt a b (fromIndex a.length i))))
 |_,_,_=>none
def m3(g:f6->f6->f6->Option f6)(a b c:M):M:=fun ρ=>(a ρ).bind fun x=>(b ρ).bind fun y=>(c ρ).bind fun z=>g x y z
theorem b59:MtR X "str.startswith" (fun x xs H Q=>∃F y z rx ry rz r,xs=[y,z]/\p5 F H/\Z1 X.K F H x rx/\Z1 X.K F H y ry/\Z1 X.K F H z rz/\B3 rx ry rz=some r/\∀v F' H',C3 X.K F H F' H' v r->Q v H'):=by
 intro pins s σ H x xs v us Q I rx rv h
 obtain⟨F,y,z,ra,rb,rc,r,rfl,s0,h1,h2,h3,h4,k⟩:=h
 cases rv with
 |cons ru rv=>
  cases rv with
  |cons ru2 rv=>
   cases rv
   unfold B3 at h4
   split at h4
   ·rename_i a b i
    cases h4
    cases h1
    cases h2
    cases h3
    obtain⟨t,rfl⟩:=rx
    obtain⟨t2,rfl⟩:=ru
    obtain⟨t3,rfl⟩:=ru2
    exact call_gives PySem.F.slot_str_startswith (typeIs_str _ _ _) PySem.F.entry_str_startswith (PySem.F.args_str_startswith_3 _ _ _) (gives_str_startswith_from a b i t t2 t3) ⟨.bl _,H,I,rfl,k _ F H (C3.here s0 rfl)⟩
   ·cases h4
theorem a0E{o e f:AF}{m n l:M}{apos cpos:Pos}(ho:EE X o m)(ha:EE X e n)(hb:EE X f l)
 (hbase:attributeBase o "startswith" X.env (eval o X.env)=eval o X.env:=by rfl)
 (hfew:((backTo cpos (AM [e,f] X.env)).all (fun x=> !x.1)&&(backToKw cpos (keywordEach [] X.env)).all (fun x=>x.1.isSome)
  && decide ([e,f].length+([]:List Keyword).length+(if([]:List Keyword).isEmpty then 0 else 1)<30))=true:=by rfl)
 (hline:(apos.endLine==cpos.line)=true:=by rfl) (hs:AM [e,f] X.env=(false,eval e X.env)::AM [f] X.env:=by rfl) (hs2:AM [f] X.env=(false,eval f X.env)::AM [] X.env:=by rfl) (hplain:(backTo cpos (AM [f] X.env)).any (·.1)=false:=by rfl):
 EE X (.Call (.Attribute o "startswith" apos) [e,f] [] cpos) (m3 B3 m n l):=
 J4 (b3h PySem.F.plainAttrs_str PySem.F.slot_str_startswith PySem.F.type_str_startswith b59 ho (J7 ha (J7 hb a0K hs2) hs) hbase hfew hline hs hplain) fun σ H Q ⟨F,ρ,r,he,hm,k⟩=>by
  obtain⟨rx,e1,hm⟩:=bind_some hm
  obtain⟨ry,e2,hm⟩:=bind_some hm
  obtain⟨rz,e3,hm⟩:=bind_some hm
  refine⟨F,ρ,rx,he,e1,fun v F1 H1 o1=>⟨?_,⟨F1,ρ,ry,he.ext o1.x,e2,fun u F2 H2 o2=>⟨F2,ρ,rz,(he.ext o1.x).ext o2.x,e3,fun w F3 H3 o3=>⟨F3,u,w,rx,ry,rz,r,rfl,o3.x.fh,(o1.rep.ext o2.x).ext o3.x,o2.rep.ext o3.x,o3.rep,hm,fun z F4 H4 o4=>k z F4 H4 (C3.trans ((o1.x.trans o2.x).trans o3.x) o4)⟩⟩⟩⟩⟩
  unfold B3 at hm
  split at hm
  ·cases o1.rep;rfl
  ·cases hm
theorem D5(g:f6->f6->f6->Option f6)(a b c:M)(ρ:g0):m3 g a b c ρ=(a ρ).bind fun x=>(b ρ).bind fun y=>(c ρ).bind fun z=>g x y z:=Eq.trans rfl rfl
end
theorem el5{C:List AA->Prop}(h:∀a b c d e,C [a,b,c,d,e])(us:List AA)(e:us.length=5):C us:=by
 obtain⟨a,t,rfl,z⟩:=elS e
 exact el4 (C:=fun t=>C (a::t)) (h a) t z
section
variable {X:Cx}
abbrev _root_.L2.Cx.aim(X:Cx)(Y:AA->AC->Prop)(pn:List (AB×Obj)):Cx:={X with xe:=Y,pn:=pn}
theorem c0m{Y:AA->AC->Prop}{pins:List (AB×Obj)}{σ:L2.St}{H:Hp}{s:AC}(I:l8 X pins σ H s):l8 (X.aim Y (X.pn++pins)) [] σ H s:=⟨⟨I.ok.mod,I.ok.kind,I.ok.glob,I.ok.blt,I.ok.above,I.ok.inj,I.ok.has,I.ok.cab,I.ok.hd,I.ok.frames,I.ok.stk,I.ok.exf,I.ok.bs,I.ok.bsz,I.ok.noex,I.ok.exfs,I.ok.funs,I.ok.frf⟩,I.os,I.bare,I.base,I.loc,I.cell,I.free,I.freeC,fun p hp=>I.pin p (by simpa using hp),I.hok,I.len⟩
theorem a5o{Y:AA->AC->Prop}{pins pins1:List (AB×Obj)}{σ:L2.St}{H:Hp}{s:AC}(I:l8 (X.aim Y (X.pn++pins)) pins1 σ H s):l8 X pins σ H s:=⟨⟨I.ok.mod,I.ok.kind,I.ok.glob,I.ok.blt,I.ok.above,I.ok.inj,I.ok.has,I.ok.cab,I.ok.hd,I.ok.frames,I.ok.stk,I.ok.exf,I.ok.bs,I.ok.bsz,I.ok.noex,I.ok.exfs,I.ok.funs,I.ok.frf⟩,I.os,I.bare,I.base,I.loc,I.cell,I.free,I.freeC,fun p hp=>I.pin p (BE _ hp),I.hok,I.len⟩
def Ap(X:Cx)(pins:List (AB×Obj))(b:AB):Prop:=X.s₀.heap.get? b=none/\b≠X.env.locals/\(∀x z,X.env.cells.lookup x=some z->z≠b)/\∀p∈X.pn++pins,p.1≠b
def Hnd(X:Cx)(hs:List ExceptHandler)(th:AB->AB->Option AB->TS):Prop:=
 ∀(pins:List (AB×Obj)) (s:AC) (σ:L2.St) (H:Hp) (D:a0w) (a C T:AB) (dd:Option AB),l8 X pins σ H s->ExT s.heap a C T .none dd->H a=none->H T=none->Ap X pins a->Ap X pins T->th a C dd D σ H->
  AI (model X.prog X.w) X.A (handleBy (.ref a) X.env hs) (SP X pins D) X.xe s
theorem apart{pins:List (AB×Obj)}{σ:L2.St}{H:Hp}{s:AC}{b:AB}(I:l8 X pins σ H s)(hx0:X.ex=[])(h:s.heap.get? b=none):X.s₀.heap.get? b=none/\b≠X.env.locals/\(∀x z,X.env.cells.lookup x=some z->z≠b)/\∀p∈X.pn++pins,p.1≠b:=by
 refine⟨?_,fun e=> ?_,fun x z hz e=> ?_,fun p hp e=> ?_⟩
 ·cases h0:X.s₀.heap.get? b with
  |none=>rfl
  |some o=>
   obtain⟨o',e⟩:=I.base.there b o h0 (fun z=>by rw [hx0] at z;cases z)
   rw [h] at e;cases e
 ·obtain⟨m,⟨o,_,_,ho,_⟩,_⟩:=I.loc
  rw [<-e,h] at ho;cases ho
 ·obtain⟨v,o,ho,_⟩:=I.cell x z hz
  rw [e,h] at ho;cases ho
 ·have:=(I.pin p hp).1
  rw [e,h] at this;cases this
theorem b7Q{body:List Stmt}{h₀:ExceptHandler}{hs:List ExceptHandler}{pos:Pos}{tb:(L2.St->XK)->TS}{th:AB->AB->Option AB->TS}(hx0:X.ex=[])(hst:X.stack=X.env::X.outer)(hfr:X.env.frame=some X.env.locals)
 (hb:∀(Y:AA->AC->Prop) (pn:List (AB×Obj)) (E:L2.St->XK),Z0 (CX1 X.prog X.w) (X.aim Y pn) E->PSs (X.aim Y pn) body (tb E)) (hh:Hnd X (h₀::hs) th):
 PS X (.Try body (h₀::hs) [] [] pos) (fun D σ H=>tb (fun σ1 v dd H1=>∃C,v= .ref C/\∀a,H1 a=none->th a C dd D σ1 H1) D σ H):=by
 intro pins s σ H D I h
 refine wpAny_Try_except ?_
 have key:=hb (fun e s₁=>AI (model X.prog X.w) X.A (noteFrame e X.env) (fun _ s₂=>AI (model X.prog X.w) X.A (setFlight e none) (fun _ s₃=>AI (model X.prog X.w) X.A (handleBy e X.env (h₀::hs)) (SP X pins D) X.xe s₃) X.xe s₂) X.xe s₁) (X.pn++pins) _ ?_ [] s σ H D (c0m I) h
 ·refine U5 key fun fl s1 hq=> ?_
  cases fl with
  |next=>
   obtain⟨σ',H',J,q⟩:=hq
   exact wpAny_execs_nil ⟨σ',H',a5o J,q⟩
  |brk=>obtain⟨σ',H',J,q⟩:=hq;exact⟨σ',H',a5o J,q⟩
  |cont=>obtain⟨σ',H',J,q⟩:=hq;exact⟨σ',H',a5o J,q⟩
  |ret u=>obtain⟨v,σ',H',J,r,q⟩:=hq;exact⟨v,σ',H',a5o J,r,q⟩
 ·intro pins1 σ1 H1 s1 e s' I1 hx
  obtain⟨a,C,T,dd,H2,rfl,ho,hbare,un,hok,ha,hT,hn,hTn,x,C',e1,ht⟩:=hx
  cases e1
  have J1:=I1.call' (ch:=[]) ho un hok hbare fun b z=>nomatch z
  have J:l8 X pins σ1 H2 s':=a5o J1
  have J0:l8 X pins σ1 H1 s1:=a5o I1
  show AI (model X.prog X.w) X.A (noteFrame (.ref a) X.env) _ X.xe s'
  have fr:X.A.frames=some (X.env::X.outer):=by rw [<-hst];exact J.ok.frames
  have fn:s'.heap.FunFrames X.base (X.env::X.outer):=by rw [<-hst];exact J.stack
  refine b08 fr fn hfr x (by simp [rawInt]) fun T' h1 hT' x1 c1=> ?_
  refine a9d x1 none fun h2 x2 c2 _=> ?_
  have hTn':H2 T'=none:=J.hok.fresh hT'
  have c:Chg (frs X.stack) ([T,a]++[T']) s'.heap h2:=by
   rw [hst]
   exact c1.trans (c2.more (fun b hb=>nomatch hb) fun b hb=>hb)
  have mem:∀b∈[T,a]++[T'],b=T\/b=a\/b=T':=fun b hb=>by simpa using hb
  have q1:=apart J0 hx0 hT
  have q2:=apart J0 hx0 ha
  have q3:=apart J hx0 (Heap.get?_none_of_le hT')
  have K:l8 X pins σ1 H2 {s' with heap:=h2}:=l8.chg J c (fun b hb=> ?_) (fun b hb=> ?_) (fun b hb=> ?_) (fun b hb=> ?_) (fun b hb=> ?_)
  ·exact hh pins _ σ1 H2 D a C T' dd K x2 hn hTn' q2 q3 (ht a hn)
  all_goals rcases mem b hb with rfl|rfl|rfl
  ·exact q1.1
  ·exact q2.1
  ·exact q3.1
  ·exact hTn
  ·exact hn
  ·exact hTn'
  ·exact q1.2.1
  ·exact q2.2.1
  ·exact q3.2.1
  ·exact q1.2.2.1
  ·exact q2.2.2.1
  ·exact q3.2.2.1
  ·exact q1.2.2.2
  ·exact q2.2.2.2
  ·exact q3.2.2.2
end
theorem b0N{M:Model}{A:AL}{E:AA->AC->Prop}{h:Heap}{g:Array GenState}{d:Drawn}{t:Nat}{os:OsState}{e C B:AB}{oe:Obj}{Q:Bool->AC->Prop}(hC:b5G C h)(hB:b5G B h)
 (he:h.get? e=some oe) (hcls:oe.cls= .ref C) (hq:∀tl:List AA,OwnTail h a9x tl->(∃N nm q bs hdct sn sub ab col dd k0 k1 k2 k3 k5,h.get? C=some (excClassObj nm q C N bs tl hdct sn sub ab col dd k0 k1 k2 k3 k5 "ValueError.__new__"))->Q ((Value.ref C::tl).contains (.ref B)) ⟨h,g,d,t,os⟩):AI M A (excMatches (.ref e) (.ref B)) Q E ⟨h,g,d,t,os⟩:=by
 obtain⟨tl,N,nm,q,bs,hdct,sn,sub,ab,col,dd,k0,k1,k2,k3,k5,hC,T⟩:=hC
 obtain⟨tl',N',nm',q',bs',hdct',sn',sub',ab',col',dd',k0',k1',k2',k3',k5',hB,T'⟩:=hB
 have hq':=hq tl T ⟨_,_,_,_,_,_,_,_,_,_,_,_,_,_,_,hC⟩
 have hcB:(Value.ref B::tl').contains (.type "BaseException")=true:=by rw [List.contains_cons,T'.hasType (show a9x.contains (.type "BaseException")=true by decide),Bool.or_true]
 have f:=tc_notTuple
 unfold excMatches
 repeat (first|(with_reducible refine wpAny_loadPart_at he ?_;rw [hcls])|with_reducible refine wpAny_loadPart_at hB ?_|(with_reducible refine wpAny_isSubtype_exc hB ?_;rw [hcB])|with_reducible refine wpAny_isSubtype_exc hC ?_|wp_step)
 cases hb:(Value.ref C::tl).contains (.ref B)<;>(rw [hb] at hq';wp_walk;exact hq')
def a7n(X:Cx)(C B:AB)(b:Bool):Prop:=∀h:Heap,X.K.In h->b5G C h/\b5G B h/\∀(tl:List AA) N nm q bs hdct sn sub ab col dd k0 k1 k2 k3 k5,h.get? C=some (excClassObj nm q C N bs tl hdct sn sub ab col dd k0 k1 k2 k3 k5 "ValueError.__new__")->(Value.ref C::tl).contains (.ref B)=b
section
variable {X:Cx}
abbrev _root_.L2.Cx.caught(X:Cx)(a:AB)(Y:AA->AC->Prop):Cx:={X with A:=X.A.mark (some (.ref a)),calm:=false,xe:=Y}
theorem a5r{a:AB}{Y:AA->AC->Prop}{pins:List (AB×Obj)}{σ:L2.St}{H:Hp}{s:AC}(I:l8 X pins σ H s):l8 (X.caught a Y) pins σ H s:=⟨⟨I.ok.mod,I.ok.kind,I.ok.glob,I.ok.blt,I.ok.above,I.ok.inj,I.ok.has,I.ok.cab,(fun z=>nomatch z),I.ok.frames,I.ok.stk,I.ok.exf,I.ok.bs,I.ok.bsz,I.ok.noex,I.ok.exfs,I.ok.funs,I.ok.frf⟩,I.os,I.bare,I.base,I.loc,I.cell,I.free,I.freeC,I.pin,I.hok,I.len⟩
theorem S4{a:AB}{Y:AA->AC->Prop}{pins:List (AB×Obj)}{σ:L2.St}{H:Hp}{s:AC}(hd:X.calm=true->X.A.handled=none)(I:l8 (X.caught a Y) pins σ H s):l8 X pins σ H s:=⟨⟨I.ok.mod,I.ok.kind,I.ok.glob,I.ok.blt,I.ok.above,I.ok.inj,I.ok.has,I.ok.cab,hd,I.ok.frames,I.ok.stk,I.ok.exf,I.ok.bs,I.ok.bsz,I.ok.noex,I.ok.exfs,I.ok.funs,I.ok.frf⟩,I.os,I.bare,I.base,I.loc,I.cell,I.free,I.freeC,I.pin,I.hok,I.len⟩
theorem b7d{x:Str}{B:AB}{np pos:Pos}{b₀:Stmt}{suite:List Stmt}{C7:List ExceptHandler}{ts:TS}(hg:Gl X x)(hm:X.mg x=some (.ref B))(hdb:(x==("__debug__":Str))=false)(hs:∀a Y,PSs (X.caught a Y) (b₀::suite) ts):
 Hnd X (.ExceptHandler (some (.Name x np)) none (b₀::suite) pos::C7) (fun _ C _ D σ H=>a7n X C B true/\ts D σ H):=by
 intro pins s σ H D a C T dd0 I ex hn hTn apA apT ⟨hbl,q⟩
 have J:l8 (X.caught a (notedBy (model X.prog X.w) (X.A.mark (some (.ref a))) X.env (cameBackBy (model X.prog X.w) X.A X.env X.xe))) pins σ H s:=a5r I
 refine wpAny_handleBy_cons (codeAny_handlers_test (a5u (X:=X.caught a _) J hg hm ?_ hdb)) (by intro q;cases q)
 obtain⟨hC,hB,hin⟩:=hbl s.heap I.kIn
 obtain⟨oe,vs,he,hcls,_⟩:=ex.obj
 obtain⟨hh,g,d,tk,os⟩:=s
 refine b0N hC hB he hcls fun tl T0 ⟨N,nm,q0,bs,hdct,sn,sub,ab,col,dd,k0,k1,k2,k3,k5,hc⟩=> ?_
 rw [hin tl N nm q0 bs hdct sn sub ab col dd k0 k1 k2 k3 k5 hc]
 refine codeAny_handlers_suite ?_
 refine a9d (s:=⟨hh,g,d,tk,os⟩) ex none fun h2 x2 c2 hsz=> ?_
 have one:∀b∈[T],b=T:=fun b hb=>List.mem_singleton.mp hb
 have K:l8 X pins σ H ⟨h2,g,d,tk,os⟩:=l8.chg I (c2.more (fun b hb=>nomatch hb) fun b hb=>hb) (fun b hb=>by rw [one b hb];exact apT.1) (fun b hb=>by rw [one b hb];exact hTn) (fun b hb=>by rw [one b hb];exact apT.2.1) (fun b hb=>by rw [one b hb];exact apT.2.2.1) (fun b hb=>by rw [one b hb];exact apT.2.2.2)
 refine U5 (hs a _ pins _ σ H D (a5r K) q) fun fl s1 hq=> ?_
 show SP X pins D fl s1
 cases fl with
 |next=>obtain⟨σ',H',J,q⟩:=hq;exact⟨σ',H',S4 I.ok.hd J,q⟩
 |brk=>obtain⟨σ',H',J,q⟩:=hq;exact⟨σ',H',S4 I.ok.hd J,q⟩
 |cont=>obtain⟨σ',H',J,q⟩:=hq;exact⟨σ',H',S4 I.ok.hd J,q⟩
 |ret u=>obtain⟨v,σ',H',J,r,q⟩:=hq;exact⟨v,σ',H',S4 I.ok.hd J,r,q⟩
end
theorem a7m{K:AE}{h:Heap}{C:AB}(X:K.In h)(q:PySem.W.excIn K C a9x "ValueError.__new__"=true):b6y C h:=by
 unfold PySem.W.excIn at q
 cases hk:K.lookup C with
 |none=>rw [hk] at q;cases q
 |some o=>
  rw [hk] at q
  split at q
  ·rename_i dd cd sl e
   cases e
   obtain⟨nm,bs,mro,ns,qn,hd,sn,sub,ab,col,del⟩:=cd
   obtain⟨l⟩:=sl
   split at q
   ·rename_i C' bm k0 k1 k2 k3 n k5 hm hs
    have hm:mro= .ref C'::bm:=hm
    have hs:l=[k0,k1,k2,k3,some (.builtin n),k5]:=hs
    subst hm hs
    rw [Bool.and_eq_true,Bool.and_eq_true,Bool.and_eq_true,Bool.and_eq_true,Bool.and_eq_true] at q
    obtain⟨⟨⟨⟨⟨c1,c2⟩,c3⟩,c4⟩,c5⟩,c6⟩:=q
    have c3':del=false:=by simpa using c3
    cases(beq_iff_eq.mp c1)
    cases(beq_iff_eq.mp c2)
    clear c3
    subst c3'
    exact⟨bm,ns,nm,qn,bs,hd,sn,sub,ab,col,dd,k0,k1,k2,k3,k5,_,X _ _ hk,.of_isNs (PySem.W.isNs_of_in X c5),PySem.W.nsMap_none_of_in X c5 (beq_iff_eq.mp c6),PySem.W.tail_of_in X c4⟩
   ·cases q
  ·cases q
def a4K(K:AE)(C B:AB):Bool:=match K.lookup C with
 |some ⟨_,_,.cls cd,_⟩=>cd.mro.contains (.ref B)
 |_=>false
def a9b(K:AE)(C:AB):Bool:=match K.lookup C with
 |some ⟨.type "type",_,.cls cd,sl⟩=>(match cd.mro,sl.toList with
  | .ref C'::bm,[_,_,_,_,some (.builtin n),_]=>C'==C && n=="ValueError.__new__" && !cd.hasDel && PySem.W.tailIn K a9x bm
  |_,_=>false)
 |_=>false
theorem b5x{K:AE}{h:Heap}{C:AB}(X:K.In h)(q:a9b K C=true):b5G C h:=by
 unfold a9b at q
 cases hk:K.lookup C with
 |none=>rw [hk] at q;cases q
 |some o=>
  rw [hk] at q
  split at q
  ·rename_i dd cd sl e
   cases e
   obtain⟨nm,bs,mro,ns,qn,hd,sn,sub,ab,col,del⟩:=cd
   obtain⟨l⟩:=sl
   split at q
   ·rename_i C' bm k0 k1 k2 k3 n k5 hm hs
    have hm:mro= .ref C'::bm:=hm
    have hs:l=[k0,k1,k2,k3,some (.builtin n),k5]:=hs
    subst hm hs
    rw [Bool.and_eq_true,Bool.and_eq_true,Bool.and_eq_true] at q
    obtain⟨⟨⟨c1,c2⟩,c3⟩,c4⟩:=q
    have c3':del=false:=by simpa using c3
    cases(beq_iff_eq.mp c1)
    cases(beq_iff_eq.mp c2)
    clear c3
    subst c3'
    exact⟨bm,ns,nm,qn,bs,hd,sn,sub,ab,col,dd,k0,k1,k2,k3,k5,X _ _ hk,PySem.W.tail_of_in X c4⟩
   ·cases q
  ·cases q
theorem b6F{X:Cx}{C B:AB}(q1:a9b X.K C=true)(q2:a9b X.K B=true):a7n X C B (a4K X.K C B):=fun h I=>⟨b5x I q1,b5x I q2,fun tl N nm q bs hdct sn sub ab col dd k0 k1 k2 k3 k5 hc=>by
 cases hk:X.K.lookup C with
 |none=>unfold a9b at q1;rw [hk] at q1;cases q1
 |some o=>
  have:=I _ _ hk
  rw [hc] at this
  cases this
  unfold a4K
  rw [hk]⟩
def a9u(b:MX)(inm:Str->Bool)(hd:MS):MS:=fun ρ=>(b ρ).bind fun fx=>match fx with
 | .fl f=>some f
 | .rz c ρ'=>if inm c.cls=true then hd ρ' else none
section
variable {X:Cx}
theorem c0w{body:List Stmt}{x:Str}{B:AB}{np hpos pos:Pos}{b₀:Stmt}{suite:List Stmt}{b:MX}{inm:Str->Bool}{hd:MS}(hx0:X.ex=[])(hst:X.stack=X.env::X.outer)(hfr:X.env.frame=some X.env.locals)
 (hg:Gl X x) (hm:X.mg x=some (.ref B)) (hdb:(x==("__debug__":Str))=false) (hin:∀c,inm c=true->∃C,X.mg c=some (.ref C)/\a7n X C B true)
 (hb:∀(Y:AA->AC->Prop) (pn:List (AB×Obj)) (E:L2.St->XK),Z0 (CX1 X.prog X.w) (X.aim Y pn) E->EXs (X.aim Y pn) E body b) (hs:∀a Y,ESs (X.caught a Y) (b₀::suite) hd):
 ES X (.Try body [.ExceptHandler (some (.Name x np)) none (b₀::suite) hpos] [] [] pos) (a9u b inm hd):=
 L5 (b7Q hx0 hst hfr (tb:=fun E=>tMX X.K X.mg E b) hb (b7d (ts:=tMS X.K hd) hg hm hdb fun a Y=>hs a Y)) fun D σ H ⟨F0,H0,F,ρ,fl,so,e,fin⟩=>by
  obtain⟨fx,e1,e⟩:=bind_some e
  cases fx with
  |fl f=>cases e;exact⟨F0,H0,F,ρ,.fl _,so,e1,fin⟩
  |rz c ρ1=>
   have e:(if inm c.cls=true then hd ρ1 else none)=some fl:=e
   split at e
   ·rename_i hc
    obtain⟨C,h1,h2⟩:=hin c.cls hc
    exact⟨F0,H0,F,ρ,.rz c ρ1,so,e1,C,h1,fun σ1 dd F' H' s' so' hn=>⟨C,rfl,fun a ha=>⟨h2,F0,H0,F',ρ1,fl,so',e,fin.later s'⟩⟩⟩
   ·cases e
end
section
variable {X:Cx}{pins:List (AB×Obj)}{σ:L2.St}{H:Hp}{s:AC}
theorem _root_.L2.l8.track{a:AB}{o:HO}(I:l8 X pins σ H s)(hn:H a=none)(ap:Ap X pins a)(new:R3 X.prog X.w (upd H a o) s.heap a o):l8 X pins σ (upd H a o) s where
 ok:=I.ok
 os:=I.os
 bare:=I.bare
 base:=⟨I.base.keep,I.base.slot,fun b ob e n hx=>by
  rw [l7 (fun z=>by rw [z,ap.1] at e;cases e)];exact I.base.free b ob e n hx,I.base.there,
  fun b xs e=>by rw [l7 (m4 (I.base.tups b xs e) hn)];exact I.base.tups b xs e,
  fun b ob u e=>by rw [l7 (m4 (I.base.frzs b ob u e) hn)];exact I.base.frzs b ob u e,
  fun b ps e=>by obtain⟨more,q⟩:=I.base.tbls b ps e;exact⟨more,by rw [l7 (m4 q hn)];exact q⟩⟩
 loc:=I.loc
 cell:=I.cell
 free:=by rw [l7 (Ne.symm ap.2.1)];exact I.free
 freeC:=fun x c e=>by rw [l7 (ap.2.2.1 x c e)];exact I.freeC x c e
 pin:=fun p hp=>by
  obtain⟨h1,h2,h3⟩:=I.pin p hp
  exact⟨h1,by rw [l7 (ap.2.2.2 p hp)];exact h2,h3⟩
 hok:=fun b u e=>by
  by_cases hb:b=a
  ·subst hb;rw [w4] at e;cases e;exact new
  ·rw [l7 hb] at e
   exact(I.hok b u e).stay (fun c v _ q=>q) (fun c q=>by rw [l7 (m4 q hn)];exact q) fun c xs q=>by rw [l7 (m4 q hn)];exact q
 len:=I.len
theorem a8O{M:Model}{A:AL}{E:AA->AC->Prop}{i:Nat}{x:Str}{pos:Pos}{Q:Unit->AC->Prop}(I:l8 X pins σ H s)(hN:X.N.Nodup)(hi:X.N[i]?=some x)(hk:X.env.scope.names.lookup x=some .local)
 (h:∀s',l8 X pins (σ.set i none) H s'->Q () s'):AI M A (do bindName X.env x .none;unbindBehindTheSuite X.env x pos) Q E s:=by
 obtain⟨m,hn,hl⟩:=id I.loc
 have hcls:(X.env.scope.kind== .class||(X.env.scope.kind== .module && X.env.locals !=X.env.globals))=false:=by rw [I.ok.kind];rfl
 have hiσ:i<σ.length:=by rw [I.len];exact(Aw.mp hi).1
 have cne:=I.cne
 refine wpAny_nameGoes_keeps hk hn hcls fun h' v hn' hs=> ?_
 refine h _ ⟨I.ok,I.os,I.bare,⟨fun b o e n hb hx=> ?_,fun b o e n hb hx=> ?_,I.base.free,fun b o e hx=> ?_,I.base.tups,I.base.frzs,I.base.tbls⟩,⟨_,hn',fun j y v' e1 e2 e3=> ?_⟩,fun y c e=> ?_,I.free,I.freeC,fun p hp=> ?_,fun b ob e=> ?_,by simpa using I.len⟩
 ·exact(hs.2 b (Ar (Aq (Ag e) I.ok.above))).trans (I.base.keep b o e n hb hx)
 ·obtain⟨sl,e1⟩:=I.base.slot b o e n hb hx
  exact⟨sl,(hs.2 b (Ar (Aq (Ag e) I.ok.above))).trans e1⟩
 ·obtain⟨o',e1⟩:=I.base.there b o e hx
  exact⟨o',(hs.2 b (Ar (Aq (Ag e) I.ok.above))).trans e1⟩
 ·by_cases hj:j=i
  ·subst hj
   rw [BH hiσ] at e2
   cases e2
  ·rw [List.getElem?_set_ne (Ne.symm hj)] at e2
   obtain⟨u',r',q⟩:=hl j y v' e1 e2 e3
   refine⟨u',r', ?_⟩
   rcases q with⟨k,e⟩|⟨k,c,e,z⟩
   ·refine .inl ⟨k, ?_⟩
    have:y≠x:=fun e=>hj (a9B hN e1 (e▸hi))
    simp [this,e]
   ·exact .inr ⟨k,c,e,z.sameBut hs (cne y c e)⟩
 ·obtain⟨w',z⟩:=I.cell y c e
  exact⟨w',z.sameBut hs (cne y c e)⟩
 ·obtain⟨e,n,ne,nf,d⟩:=I.pin p hp
  exact⟨(hs.2 p.1 ne).trans e,n,ne,nf,d⟩
 ·refine(I.hok b ob e).stay (fun c w' hc q=>(hs.2 c ?_).trans q) (fun _ q=>q) fun _ _ q=>q
  rintro rfl
  have hfree:=I.free
  rcases hc with rfl|hc
  ·rw [hfree] at e;cases e
  ·rw [hfree] at hc;cases hc
end
def XO(a C:AB)(dd:Option AB)(h:Heap):Prop:=∃oe vs,h.get? a=some oe/\oe.cls= .ref C/\oe.data= .fields vs/\oe.dict=dd
def a0w.drop(D:a0w)(i:Nat):a0w:=⟨fun σ H=>D.nx (σ.set i none) H,D.rt,fun σ H=>D.bk (σ.set i none) H,fun σ H=>D.ct (σ.set i none) H⟩
section
variable {X:Cx}
theorem c0I{i:Nat}{x y:Str}{B:AB}{np pos:Pos}{b₀:Stmt}{suite:List Stmt}{C7:List ExceptHandler}{ts:TS}(hN:X.N.Nodup)(hi:X.N[i]?=some y)(hy:X.env.scope.names.lookup y=some .local)
 (hg:Gl X x) (hm:X.mg x=some (.ref B)) (hdb:(x==("__debug__":Str))=false) (hs:∀a Y,PSs (X.caught a Y) (b₀::suite) ts):
 Hnd X (.ExceptHandler (some (.Name x np)) (some y) (b₀::suite) pos::C7) (fun a C dd D σ H=>a7n X C B true/\ts (a0w.drop D i) (σ.set i (some (.ref a))) (upd H a (.ext (XO a C dd)))):=by
 intro pins s σ H D a C T dd0 I ex hn hTn apA apT ⟨hbl,q⟩
 have J:l8 (X.caught a (notedBy (model X.prog X.w) (X.A.mark (some (.ref a))) X.env (cameBackBy (model X.prog X.w) X.A X.env X.xe))) pins σ H s:=a5r I
 refine wpAny_handleBy_cons (codeAny_handlers_test (a5u (X:=X.caught a _) J hg hm ?_ hdb)) (by intro q;cases q)
 obtain⟨hC,hB,hin⟩:=hbl s.heap I.kIn
 obtain⟨oe,vs,he,hcls,_⟩:=ex.obj
 obtain⟨hh,g,d,tk,os⟩:=s
 refine b0N hC hB he hcls fun tl T0 ⟨N,nm,q0,bs,hdct,sn,sub,ab,col,dd,k0,k1,k2,k3,k5,hc⟩=> ?_
 rw [hin tl N nm q0 bs hdct sn sub ab col dd k0 k1 k2 k3 k5 hc]
 refine codeAny_handlers_suite_as ?_
 refine a9d (s:=⟨hh,g,d,tk,os⟩) ex none fun h2 x2 c2 hsz=> ?_
 have one:∀b∈[T],b=T:=fun b hb=>List.mem_singleton.mp hb
 have K:l8 X pins σ H ⟨h2,g,d,tk,os⟩:=l8.chg I (c2.more (fun b hb=>nomatch hb) fun b hb=>hb) (fun b hb=>by rw [one b hb];exact apT.1) (fun b hb=>by rw [one b hb];exact hTn) (fun b hb=>by rw [one b hb];exact apT.2.1) (fun b hb=>by rw [one b hb];exact apT.2.2.1) (fun b hb=>by rw [one b hb];exact apT.2.2.2)
 obtain⟨oe',vs',he',hcls',hd',_,hdn⟩:=x2.obj
 have K1:l8 X pins σ (upd H a (.ext (XO a C dd0))) ⟨h2,g,d,tk,os⟩:=K.track hn apA ⟨⟨oe',vs',he',hcls',hd',hdn⟩,⟨oe',he'⟩,fun h1 h2 ⟨o1,v1,e1,e2,e3⟩ st=>⟨o1,v1,st _ e1,e2,e3⟩⟩
 refine a7f (v:= .ref a) K1 hN hi (.inl hy) rfl (fun s' I'=> ?_) (.inr hy)
 refine U5 (hs a _ pins _ _ _ (a0w.drop D i) (a5r I') q) fun fl s1 hq=> ?_
 cases fl with
 |next=>obtain⟨σ',H',J,q⟩:=hq;exact a8O (S4 I.ok.hd J) hN hi hy fun s2 J2=>⟨_,H',J2,q⟩
 |brk=>obtain⟨σ',H',J,q⟩:=hq;exact a8O (S4 I.ok.hd J) hN hi hy fun s2 J2=>⟨_,H',J2,q⟩
 |cont=>obtain⟨σ',H',J,q⟩:=hq;exact a8O (S4 I.ok.hd J) hN hi hy fun s2 J2=>⟨_,H',J2,q⟩
 |ret u=>obtain⟨v,σ',H',J,r,q⟩:=hq;exact a8O (S4 I.ok.hd J) hN hi hy fun s2 J2=>⟨v,_,H',J2,r,q⟩
end
def xcV(c:XT):PV:=match c.fs with
 |[]=> .dict [(.str c.cls,.bool true)]
 |f::r=> .dict ((.str c.cls,.int 0)::f::r)
theorem b9R{K:AE}{F:Hp}{c:XT}{dd:Option AB}{a C:AB}(ha:F a=none)(xf:XF K F c.fs dd)(h3:a0v K c.cls C):U6 K (upd F a (.ext (XO a C dd))) (xcV c) (.ref a):=by
 obtain⟨cl,fs⟩:=c
 rcases xf with⟨e1,e2⟩|⟨d,vs,e1,q,n,r⟩
 ·have e1:fs=[]:=e1
  subst e1;subst e2
  exact Or.inr (Or.inr (Or.inl ⟨cl,_,rfl,.inr ⟨rfl,a,C,XO a C none,rfl,w4,fun h q=>q,h3⟩⟩))
 ·cases fs with
  |nil=>exact absurd rfl n
  |cons f r0=>
   subst e1
   have s:p5 F (upd F a (.ext (XO a C (some d)))):=a2h ha
   refine Or.inr (Or.inr (Or.inr ⟨cl,.int 0,vs,.inr ⟨rfl,a,C,d,XO a C (some d),rfl,w4,fun h q=>q,s _ _ q,h3⟩,cl,.int 0,vs,rfl,rfl,rfl, ?_⟩))
   exact a4r.mono s _ r
def a9c(i:Nat):Fl->Fl
 | .nx ρ=> .nx (ρ.set i none)
 | .rt r=> .rt r
 | .bk ρ=> .bk (ρ.set i none)
 | .ct ρ=> .ct (ρ.set i none)
def a3M(b:MX)(i:Nat)(inm:Str->Bool)(hd:MS):MS:=fun ρ=>(b ρ).bind fun fx=>match fx with
 | .fl f=>some f
 | .rz c ρ'=>if inm c.cls=true then(hd (ρ'.set i (some (.val (xcV c))))).map (a9c i) else none
theorem K6{α:Type}{l:List (Option α)}{i j:Nat}{r:α}(h:(l.set i none)[j]?=some (some r)):i≠j/\l[j]?=some (some r):=by
 rw [List.getElem?_set] at h
 by_cases hij:i=j
 ·rw [if_pos hij] at h
  split at h
  ·cases h
  ·cases h
 ·rw [if_neg hij] at h;exact⟨hij,h⟩
theorem SOk.drop{K:AE}{F0 H0 F H:Hp}{σ:L2.St}{ρ:g0}(s:SOk K F0 H0 F H σ ρ)(i:Nat):SOk K F0 H0 F H (σ.set i none) (ρ.set i none):=by
 refine⟨s.x,⟨s.e.fh,by simp [s.e.len],fun j q e=> ?_,fun j ps e=> ?_,fun j k ps qs a hjk e1 e2 e3 e4=> ?_⟩,fun j ps a e1 e2=> ?_⟩
 ·obtain⟨n,e⟩:=K6 e
  rw [List.getElem?_set_ne n]
  exact s.e.at_ j q e
 ·exact s.e.nb j ps (K6 e).2
 ·exact s.e.ap j k ps qs a hjk (K6 e1).2 (K6 e2).2 (K6 e3).2 (K6 e4).2
 ·exact s.nw j ps a (K6 e1).2 (K6 e2).2
theorem Fin.drop{K:AE}{F0 H0 F:Hp}{D:a0w}{i:Nat}:∀{fl:Fl},Fin K F0 H0 F D (a9c i fl)->Fin K F0 H0 F (a0w.drop D i) fl
 | .nx _,h=>fun σ' F' H' s' so=>h _ F' H' s' (so.drop i)
 | .rt _,h=>h
 | .bk _,h=>fun σ' F' H' s' so=>h _ F' H' s' (so.drop i)
 | .ct _,h=>fun σ' F' H' s' so=>h _ F' H' s' (so.drop i)
section
variable {X:Cx}
theorem b6U{i:Nat}{body:List Stmt}{x y:Str}{B:AB}{np hpos pos:Pos}{b₀:Stmt}{suite:List Stmt}{b:MX}{inm:Str->Bool}{hd:MS}(hN:X.N.Nodup)(hi:X.N[i]?=some y)(hy:X.env.scope.names.lookup y=some .local)(hx0:X.ex=[])(hst:X.stack=X.env::X.outer)(hfr:X.env.frame=some X.env.locals)
 (hg:Gl X x) (hm:X.mg x=some (.ref B)) (hdb:(x==("__debug__":Str))=false) (hin:∀c,inm c=true->∃C,X.mg c=some (.ref C)/\a7n X C B true/\a0v X.K c C)
 (hb:∀(Y:AA->AC->Prop) (pn:List (AB×Obj)) (E:L2.St->XK),Z0 (CX1 X.prog X.w) (X.aim Y pn) E->EXs (X.aim Y pn) E body b) (hs:∀a Y,ESs (X.caught a Y) (b₀::suite) hd):
 ES X (.Try body [.ExceptHandler (some (.Name x np)) (some y) (b₀::suite) hpos] [] [] pos) (a3M b i inm hd):=
 L5 (b7Q hx0 hst hfr (tb:=fun E=>tMX X.K X.mg E b) hb (c0I (i:=i) (ts:=tMS X.K hd) hN hi hy hg hm hdb fun a Y=>hs a Y)) fun D σ H ⟨F0,H0,F,ρ,fl,so,e,fin⟩=>by
  obtain⟨fx,e1,e⟩:=bind_some e
  cases fx with
  |fl f=>cases e;exact⟨F0,H0,F,ρ,.fl _,so,e1,fin⟩
  |rz c ρ1=>
   have e:(if inm c.cls=true then(hd (ρ1.set i (some (.val (xcV c))))).map (a9c i) else none)=some fl:=e
   split at e
   ·rename_i hc
    obtain⟨C,h1,h2,h3⟩:=hin c.cls hc
    cases hh:hd (ρ1.set i (some (.val (xcV c)))) with
    |none=>rw [hh] at e;cases e
    |some f=>
     rw [hh] at e
     cases e
     refine⟨F0,H0,F,ρ,.rz c ρ1,so,e1,C,h1,fun σ1 dd F' H' s' so' xf=>⟨C,rfl,fun a hn=>⟨h2,F0,H0,upd F' a (.ext (XO a C dd)),_,f, ?_,hh, ?_⟩⟩⟩
     ·exact so'.set (r:= .val (xcV c)) (C3.val (p:=xcV c) (Ext.lay so'.e.fh hn) (b9R (so'.e.fh.free hn) xf h3)) rfl i
     ·exact Fin.drop ((fin.later s').later (a2h (so'.e.fh.free hn)))
   ·cases e
theorem b4N{E:L2.St->XK}{k k' i:Nat}{ps:List Str}{g:List PV->Option (f6 ⊕ XT)}{x y:Str}{p pos pos' pos2:Pos}{e:AF}{es:List AF}{m:MA}(hN:X.N.Nodup)
 (d:a7p X.prog X.w X.K X.mg X.base x ps k g) (hr:R9 k' X.A) (hk:k<=k') (hg:Gl X x) (hx:Z0 (CX1 X.prog X.w) X E) (hn:∀ρ qs,m ρ=some qs->qs.length=ps.length) (ha:EA X (e::es) m)
 (hi:X.N[i]?=some y:=by rfl) (hy:Loc X.env.scope y:=by exact Or.inl rfl) (hs:swapsWith (.Call (.Name x p) (e::es) [] pos) (some (.Name y pos')) pos2.line X.env=pure false:=by rfl) (hf:X.fn y=true\/X.env.scope.names.lookup y=some .local:=by first|exact .inl rfl|exact .inr rfl|assumption)
 (hdb:(x==("__debug__":Str))=false:=by decide) (he:AM (e::es) X.env=(false,eval e X.env)::AM es X.env:=by rfl) (hpl:(backTo pos (AM es X.env)).any (·.1)=false:=by rfl):
 EX X E (.Assign [.Name y pos'] (.Call (.Name x p) (e::es) [] pos) pos2) (a4h i g m):=by
 obtain⟨f,fd,G,h1,h2,h3⟩:=d
 exact c0y hN G (hr.mono hk) hg h1 h2 h3 hx hn ha hi hy hs hf hdb he hpl
theorem b8S{E:L2.St->XK}{k k':Nat}{ps:List Str}{g:List PV->Option (f6 ⊕ XT)}{x:Str}{p pos pos2:Pos}{e:AF}{es:List AF}{m:MA}
 (d:a7p X.prog X.w X.K X.mg X.base x ps k g) (hr:R9 k' X.A) (hk:k<=k') (hg:Gl X x) (hx:Z0 (CX1 X.prog X.w) X E) (hn:∀ρ qs,m ρ=some qs->qs.length=ps.length) (ha:EA X (e::es) m)
 (hs:swapsWith (.Call (.Name x p) (e::es) [] pos) none pos2.line X.env=pure false:=by rfl)
 (hdb:(x==("__debug__":Str))=false:=by decide) (he:AM (e::es) X.env=(false,eval e X.env)::AM es X.env:=by rfl) (hpl:(backTo pos (AM es X.env)).any (·.1)=false:=by rfl):
 EX X E (.Expr (.Call (.Name x p) (e::es) [] pos) pos2) (b02 g m):=by
 obtain⟨f,fd,G,h1,h2,h3⟩:=d
 exact c0z G (hr.mono hk) hg h1 h2 h3 hx hn ha hs hdb he hpl
end
def a9y(K:AE)(C:AB)(x:Str):Bool:=match K.lookup C with
 |some ⟨_,_,.cls cd,_⟩=>cd.name==x
 |_=>false
structure XC(K:AE)(mg:Str->Option AA)(c:Str)(C:AB):Prop where
 mg:mg c=some (.ref C)
 named:a0v K c C
 exc:a9b K C=true
theorem b8v{K:AE}{mg:Str->Option AA}{h:Heap}{c:Str}{C:AB}(X:K.In h)(G:h.Ns mainGlobals mg)(e:PySem.W.nsIn K mainGlobals c=some (some (.ref C)))(q:(a9y K C c && a9b K C)=true):XC K mg c C:=by
 rw [Bool.and_eq_true] at q
 obtain⟨q1,q3⟩:=q
 refine⟨PySem.W.mg_of X G e,⟨e, ?_⟩,q3⟩
 unfold a9y at q1
 split at q1
 ·rename_i oc od cd sl hk
  exact⟨oc,od,cd,sl,hk,beq_iff_eq.mp q1⟩
 ·cases q1
theorem b6C{K:AE}{x D:AB}{c:AA}(e:PySem.W.kitOne K (.ref D) c=some true):Answers (fun s=>K.In s.heap/\∃o,s.heap.get? x=some o/\o.cls= .ref D) (.ref x) c true:=fun dep tk prog w A R s hs=>by
 obtain⟨hh,gg,dr,tt,oo⟩:=s
 obtain⟨⟨kin,o,h1,h2⟩,fin⟩:=hs
 have LT:PySem.W.Looks (model prog w) hh (typeOf (.ref x)) (.ref D):=h2▸(PySem.W.Looks.ld h1).andThen .now
 unfold Builtin.«isinstance.nested»
 refine AG ?_
 refine LT.at ?_
 cases q:(Value.ref D==c) with
 |true=>
  rw [if_pos rfl]
  exact AG (wpAny_rule (Aa (fin tt)))
 |false=>
  rw [if_neg Ao]
  unfold PySem.W.kitOne at e
  rw [q,if_neg Ao] at e
  have z:=PySem.W.kit_cls (M:=model prog w) kin e
  have z3:PySem.W.Looks (model prog w) hh (isInstance (.ref x) c) true:=LT.andThen z.2.2
  refine AG ?_
  refine z.1.at ?_
  rw [if_pos (by decide)]
  k_delta "plainIsInstance"
  refine AG ?_
  refine AG ?_
  refine z.2.1.at ?_
  simp only [Bool.not_true,if_false,BG]
  refine AG ?_
  refine z3.at ?_
  exact Aa (Aa (fin tt))
theorem b7k{K:AE}{prog:AK}{w:AJ}{A:AL}{E:AA->AC->Prop}{s:AC}{Q:AA->AC->Prop}{x D:AB}{c:AA}{o:Obj}(kin:K.In s.heap)(h1:s.heap.get? x=some o)(h2:o.cls= .ref D)(e:PySem.W.kitOne K (.ref D) c=some true)(fin:∀tk,Q (.bool true) {s with toks:=tk}):
 AI (model prog w) A (call (.builtin "isinstance") [.ref x,c]) Q E s:=by
 refine call_isinstance (S:=fun _ R s=>(K.In s.heap/\∃o,s.heap.get? x=some o/\o.cls= .ref D)/\∀tk,R (.ok (.ret (.bool true))) {s with toks:=tk}) (fun prog w A R s hs=> ?_) ⟨⟨kin,o,h1,h2⟩,fin⟩
 refine isinstance_outer ?_ (fun z=>nomatch z)
 exact b6C e 0 _ prog w A R s hs
def c1B:PV->Option Str
 | .dict [(.str c,.bool true)]=>some c
 | .dict ((.str c,.int 0)::_)=>some c
 |_=>none
def b5H(K:AE)(H:Hp)(x:Str)(v:V):Prop:=b8B K H x v\/∃fs,a5F K H x (.int 0) fs v
theorem b5H.mono{K:AE}{H H':Hp}{x:Str}{v:V}(s:p5 H H')(h:b5H K H x v):b5H K H' x v:=by
 rcases h with⟨a,C,φ,e,q,r⟩|⟨fs,h⟩
 ·exact .inl ⟨a,C,φ,e,s _ _ q,r⟩
 ·exact .inr ⟨fs,h.mono s⟩
theorem b9S{K:AE}{F:Hp}{p:PV}{v:V}{c:Str}(rr:U6 K F p v)(h:c1B p=some c):b5H K F c v:=by
 unfold c1B at h
 split at h
 ·cases h
  rcases rr with⟨_,_,_,_,kk,w,t,_,z,_⟩|⟨_,_,_,_,kk,w,t,_,z,_⟩|⟨y,t,e,hy⟩|⟨_,_,_,ho,hf⟩
  ·cases z
  ·cases z
  ·cases e
   rcases hy with⟨z,_⟩|⟨_,h1⟩
   ·cases z
   ·exact .inl h1
  ·rcases(b5g ho hf).2.1 with e|e<;>cases e
 ·cases h
  rcases rr with⟨_,_,_,_,kk,w,t,_,z,_⟩|⟨_,_,_,_,kk,w,t,_,z,_⟩|⟨y,t,e,hy⟩|⟨y,m,fs,ho,hf⟩
  ·cases z
  ·cases z
  ·cases e
   rcases hy with⟨z,_⟩|⟨z,_⟩<;>cases z
  ·obtain⟨g,w,t,e,z,q,_⟩:=hf
   cases z
   cases e
   cases q
   exact .inr ⟨_,ho⟩
 ·cases h
theorem b9T{X:Cx}{pins:List (AB×Obj)}{σ:L2.St}{H:Hp}{s:AC}(I:l8 X pins σ H s){x:Str}{v:V}(h:b5H X.K H x v):∃(a C:AB) (o:Obj) (od:Option Obj),v= .ref a/\a0v X.K x C/\PySem.W.InstAt s.heap a o C od:=by
 rcases h with h|⟨fs,⟨z,_⟩|⟨_,a,C,dx,φ,e,q,r,d,n⟩⟩
 ·obtain⟨a,C,o,vs,e,h1,h2,h3,n,h4⟩:=a5E I h
  exact⟨a,C,o,none,e,n,h1,h2,by unfold PySem.W.notCls;rw [h3],by rw [h4];trivial⟩
 ·cases z
 ·obtain⟨oe,vs,h1,h2,h3,h4⟩:=r _ (I.hok a _ q).1
  obtain⟨mA,⟨od,es,ep,ho,_⟩,_⟩:=I.hok dx _ d
  exact⟨a,C,oe,some od,e,n,h1,h2,by unfold PySem.W.notCls;rw [h3],by rw [h4];exact ho⟩
def a9h(tab:List (Str×Bool))(x:f6):Option f6:=(c1B x.rd).bind fun c=>(tab.lookup c).map fun b=> .val (.bool b)
section
variable {X:Cx}
end
def inL(l:List Str)(c:Str):Bool:=l.contains c
section
variable {X:Cx}
def Hin(X:Cx)(B:AB)(l:List Str):Prop:=∀c,inL l c=true->∃C,X.mg c=some (.ref C)/\a7n X C B true/\a0v X.K c C
theorem b1F{B:AB}:Hin X B []:=fun _ h=>nomatch h
theorem a6K{B C:AB}{b c:Str}{l:List Str}(xB:XC X.K X.mg b B)(x:XC X.K X.mg c C)(e:a4K X.K C B=true)(h:Hin X B l):Hin X B (c::l):=fun c1 q=>by
 unfold inL at q
 rw [List.contains_cons,Bool.or_eq_true] at q
 rcases q with q|q
 ·rw [beq_iff_eq.mp q]
  exact⟨C,x.mg,by rw [<-e];exact b6F x.exc xB.exc,x.named⟩
 ·exact h c1 q
theorem b4M{l:List Str}{body:List Stmt}{x:Str}{B:AB}{np hpos pos:Pos}{b₀:Stmt}{suite:List Stmt}{b:MX}{hd:MS}(xB:XC X.K X.mg x B)(hin:Hin X B l)
 (hb:∀(Y:AA->AC->Prop) (pn:List (AB×Obj)) (E:L2.St->XK),Z0 (CX1 X.prog X.w) (X.aim Y pn) E->EXs (X.aim Y pn) E body b) (hs:∀a Y,ESs (X.caught a Y) (b₀::suite) hd)
 (hx0:X.ex=[]:=by rfl) (hst:X.stack=X.env::X.outer:=by rfl) (hfr:X.env.frame=some X.env.locals:=by rfl) (hg:Gl X x:=by rfl) (hdb:(x==("__debug__":Str))=false:=by decide):
 ES X (.Try body [.ExceptHandler (some (.Name x np)) none (b₀::suite) hpos] [] [] pos) (a9u b (inL l) hd):=
 c0w hx0 hst hfr hg xB.mg hdb (fun c q=>let ⟨C,h1,h2,_⟩:=hin c q;⟨C,h1,h2⟩) hb hs
theorem b5S{i:Nat}{l:List Str}{body:List Stmt}{x y:Str}{B:AB}{np hpos pos:Pos}{b₀:Stmt}{suite:List Stmt}{b:MX}{hd:MS}(hN:X.N.Nodup)(xB:XC X.K X.mg x B)(hin:Hin X B l)
 (hb:∀(Y:AA->AC->Prop) (pn:List (AB×Obj)) (E:L2.St->XK),Z0 (CX1 X.prog X.w) (X.aim Y pn) E->EXs (X.aim Y pn) E body b) (hs:∀a Y,ESs (X.caught a Y) (b₀::suite) hd)
 (hi:X.N[i]?=some y:=by rfl) (hy:X.env.scope.names.lookup y=some .local:=by rfl) (hx0:X.ex=[]:=by rfl) (hst:X.stack=X.env::X.outer:=by rfl) (hfr:X.env.frame=some X.env.locals:=by rfl) (hg:Gl X x:=by rfl) (hdb:(x==("__debug__":Str))=false:=by decide):
 ES X (.Try body [.ExceptHandler (some (.Name x np)) (some y) (b₀::suite) hpos] [] [] pos) (a3M b i (inL l) hd):=
 b6U hN hi hy hx0 hst hfr hg xB.mg hdb hin hb hs
end
section
variable {X:Cx}
end
section
variable {X:Cx}
end
section
variable {X:Cx}
theorem a3I{E:L2.St->XK}{st:List Stmt}{m:MS}(h:ESs X.nox st m):EXs X E st (a5J m):=c0A (PSs.nox h)
theorem b6W{E:L2.St->XK}{st:Stmt}{m:MS}(h:ES X.nox st m):EX X E st (a5J m):=c1U fun pins s σ H D I hw=>
 wpAny_mono (h pins s σ H D (I.wish _) hw) (fun fl s1 hq=>by
  cases fl with
  |next=>obtain⟨σ',H',J,q⟩:=hq;exact⟨σ',H',J.unwish,q⟩
  |brk=>obtain⟨σ',H',J,q⟩:=hq;exact⟨σ',H',J.unwish,q⟩
  |cont=>obtain⟨σ',H',J,q⟩:=hq;exact⟨σ',H',J.unwish,q⟩
  |ret u=>obtain⟨v,σ',H',J,r,q⟩:=hq;exact⟨v,σ',H',J.unwish,r,q⟩) fun _ _ z=>z.elim
end
end PU
set_option maxHeartbeats 2000000
namespace PU
open PySem PySem.Spec PyProof.Rows L2 PySem.W
section
variable {prog:AK}{w:AJ}{A:AL}{E:AA->AC->Prop}{s:AC}
end
section
variable {X:Cx}
end
section
variable {X:Cx}
def b4P(a b:Str)(i:Int):Int:=match Builtin.Str.occurrences a b (fromIndex a.length i) a.length 1 with
 |k::_=>(k:Int)
 |[]=> -1
def b0P(x y z:f6):Option f6:=match x,y,z with
 | .val (.str a),.val (.str b),.val (.int i)=>some (.val (.int (b4P a b i)))
 |_,_,_=>none
theorem b88:MtR X "str.find" (fun x xs H Q=>∃F y z rx ry rz r,xs=[y,z]/\p5 F H/\Z1 X.K F H x rx/\Z1 X.K F H y ry/\Z1 X.K F H z rz/\b0P rx ry rz=some r/\∀v F' H',C3 X.K F H F' H' v r->Q v H'):=by
 intro pins s σ H x xs v us Q I rx rv h
 obtain⟨F,y,z,ra,rb,rc,r,rfl,s0,h1,h2,h3,h4,k⟩:=h
 cases rv with
 |cons ru rv=>
  cases rv with
  |cons ru2 rv=>
   cases rv
   unfold b0P at h4
   split at h4
   ·rename_i a b i
    cases h4
    cases h1
    cases h2
    cases h3
    obtain⟨t,rfl⟩:=rx
    obtain⟨t2,rfl⟩:=ru
    obtain⟨t3,rfl⟩:=ru2
    exact call_gives PySem.F.slot_str_find (typeIs_str _ _ _) PySem.F.entry_str_find (PySem.F.args_str_find_3 _ _ _) (gives_str_find_from a b i t t2 t3) ⟨.int _,H,I.tok _,⟨_,rfl⟩,k _ F H (C3.here s0 rfl)⟩
   ·cases h4
theorem b8N{o e f:AF}{m n l:M}{apos cpos:Pos}(ho:EE X o m)(ha:EE X e n)(hb:EE X f l)
 (hbase:attributeBase o "find" X.env (eval o X.env)=eval o X.env:=by rfl)
 (hfew:((backTo cpos (AM [e,f] X.env)).all (fun x=> !x.1)&&(backToKw cpos (keywordEach [] X.env)).all (fun x=>x.1.isSome)
  && decide ([e,f].length+([]:List Keyword).length+(if([]:List Keyword).isEmpty then 0 else 1)<30))=true:=by rfl)
 (hline:(apos.endLine==cpos.line)=true:=by rfl) (hs:AM [e,f] X.env=(false,eval e X.env)::AM [f] X.env:=by rfl) (hs2:AM [f] X.env=(false,eval f X.env)::AM [] X.env:=by rfl) (hplain:(backTo cpos (AM [f] X.env)).any (·.1)=false:=by rfl):
 EE X (.Call (.Attribute o "find" apos) [e,f] [] cpos) (m3 b0P m n l):=
 J4 (b3h PySem.F.plainAttrs_str PySem.F.slot_str_find PySem.F.type_str_find b88 ho (J7 ha (J7 hb a0K hs2) hs) hbase hfew hline hs hplain) fun σ H Q ⟨F,ρ,r,he,hm,k⟩=>by
  obtain⟨rx,e1,hm⟩:=bind_some hm
  obtain⟨ry,e2,hm⟩:=bind_some hm
  obtain⟨rz,e3,hm⟩:=bind_some hm
  refine⟨F,ρ,rx,he,e1,fun v F1 H1 o1=>⟨?_,⟨F1,ρ,ry,he.ext o1.x,e2,fun u F2 H2 o2=>⟨F2,ρ,rz,(he.ext o1.x).ext o2.x,e3,fun w F3 H3 o3=>⟨F3,u,w,rx,ry,rz,r,rfl,o3.x.fh,(o1.rep.ext o2.x).ext o3.x,o2.rep.ext o3.x,o3.rep,hm,fun z F4 H4 o4=>k z F4 H4 (C3.trans ((o1.x.trans o2.x).trans o3.x) o4)⟩⟩⟩⟩⟩
  unfold b0P at hm
  split at hm
  ·cases o1.rep;rfl
  ·cases hm
end
section
variable {P:AK}{w:AJ}{K:AE}{mg:Str->Option AA}{base:Heap}
theorem b4Q{x:Str}{st:Stmt}{N ps:List Str}{k:Nat}{m:MX}(D:Df K mg x st)(S:j8 N ps (g8 st))
 (hi:∀(kV doc pm:AA) (an:Option AB) (cdv ct:AA) (us:List AA),us.length=ps.length->bindArgs (PySem.W.fnOf x x (U0 st) (E5 st) (g8 st) .none kV doc pm an cdv ct) ⟨us,[]⟩=pure (ps.zip us))
 (hb:∀(f:AB) (cdv:AA) (A:AL) (outer:List Env) (s:AC) (H:Hp) (E:XK),R9 k (A.deeper (envOfC x (g8 st) s.heap.objs.size f cdv))->Z0 (CX1 P w) (a5H (CX1 P w) P w K mg base N x (g8 st) f cdv A outer s H E) (fun _=>E)->EXs (a5H (CX1 P w) P w K mg base N x (g8 st) f cdv A outer s H E) (fun _=>E) (E5 st) m):
 a7p P w K mg base x ps (k+1) (b6i (N.length - ps.length) m):=
 let ⟨f,fd,F,hm⟩:=D
 ⟨f,fd,c0C F S fun cdv A outer s H E hr=>hb f cdv A outer s H E hr fun pins σ H s e s' I h=>b39 pins σ H s e s' I h,hm,F.kp,F.binds hi⟩
end
theorem c2A{l:PySem.W.OpenLaw}{q:AK}{loose:List Str}{XP:(Str->Option AA)->Heap->Prop}{YP:AJ->Heap->Prop}{d:DefRec}{K:Params->AE}{x:Str}{k:Nat}(hk:k<=200)(hn:l.most=some 63)(hdf:d.params.defaults=[])
 (hY:∀(w:AJ) (h:Heap),YP w h->(K w.params).In h)
 (F:∀(w:AJ) (mg:Str->Option AA) (fa:AB) (h:Heap),(K w.params).In h->h.Ns mainGlobals mg->mg d.name=some (.ref fa)->
  ∃fd:FuncData,(∀(s:AC) (u:AA),BindsTo s fd ⟨[u],[]⟩ [(x,u)])/\∀base:Heap,(K w.params).In base->base.Ns mainGlobals mg->a05 l.prog w (K w.params) mg base CX0 k fa fd [x] (b3y (K w.params))):
 PySem.W.WalkO q loose XP YP l.row.toRowW d [] (fun f vs=>PySem.call f vs):=
 L2.b9P (n:=63) (k:=200) (x:=x) (CX:=fun _=>CX0) (sp:=fun w=>b3y (K w.params)) hn (by decide) hdf ⟨rfl,by decide,by decide⟩ hY (fun w mg fa h a b c=>let ⟨fd,h1,h2⟩:=F w mg fa h a b c;⟨fd,h1,fun base x y=>(h2 base x y).mono hk⟩) (fun _ _ a ns hl _ hS=>⟨a,ns,rfl,hS,hl,fun _=>rfl⟩) fun _ _ _ _ _ z=>z
open PySem PySem.Spec PyProof.Rows L2
end PU
set_option maxHeartbeats 1000000
namespace PU
open PySem PySem.Spec PyProof.Rows L2 PySem.W
section
variable {X:Cx}
end
open PySem PySem.Spec PyProof.Rows L2
section
variable {prog:AK}{w:AJ}{A:AL}{E:AA->AC->Prop}{h:Heap}{g:Array GenState}{d:Drawn}{t:Nat}{os:OsState}
variable {nm q:Str}{C N:AB}{bs bm bmB:List AA}{hdct:Bool}{sn:List Str}{sub:List AA}{ab:Bool}{col:Option Bool}{dd:Option AB}{k0 k1 k2 k3 k5:Option AA}{B newId initId:String}
end
section
variable {prog:AK}{w:AJ}{A:AL}{E:AA->AC->Prop}{s:AC}{env:Env}
variable {nm q:Str}{C N:AB}{bs bm bmB:List AA}{hdct:Bool}{sn:List Str}{sub:List AA}{ab:Bool}{col:Option Bool}{dd:Option AB}{k0 k1 k2 k3 k5:Option AA}{B newId initId:String}
end
open PySem PySem.Spec PyProof.Rows L2 PySem.W Builtin Builtin.ObjectAttr
def b7D:List AA->Bool
 | .ref _::r=>b7D r
 |l=>l==a9x
def c0x(K:Frag)(C:AB):Bool:=(clsIn K C).any fun cd=>b7D cd.mro && cd.hasDict
section
variable {prog:AK}{w:AJ}{A:AL}{E:AA->AC->Prop}{s:AC}{K:Frag}{x C:AB}
end
abbrev exO(C:AB)(dd:Option AB)(t:AB):Obj:={cls:= .ref C,dict:=dd,data:= .fields #[.ref t,.none,.none,.none,.bool false,.none]}
def XQ(a C:AB)(dd:Option AB)(h:Heap):Prop:=∃t,h.get? a=some (exO C dd t)
def XD(d:AB)(fs:List (Str×V))(h:Heap):Prop:=∃mA,h.Ns1 d mA/\(∀f,a8Z (fs.lookup f) (mA f))/\PySem.Within mA (fs.map (·.1))
theorem XQ.ok{P:AK}{w:AJ}{H:Hp}{h:Heap}{a C:AB}{dd:Option AB}(x:XQ a C dd h):R3 P w H h a (.ext (XQ a C dd)):=
 ⟨x,let ⟨t,e⟩:=x;⟨_,e⟩,fun h1 h2 ⟨t,e⟩ k=>⟨t,k _ e⟩⟩
theorem XD.ok{P:AK}{w:AJ}{H:Hp}{h:Heap}{d:AB}{fs:List (Str×V)}(x:XD d fs h):R3 P w H h d (.ext (XD d fs)):=
 ⟨x,let ⟨mA,⟨o,_,_,e,_⟩,_⟩:=x;⟨o,e⟩,fun h1 h2 ⟨mA,n,r⟩ k=>⟨mA,n.at k,r⟩⟩
structure c2D(K:Frag)(C:AB):Prop where
 ov:c0x K C=true
 sa:findIn K (.ref C) "__setattr__"=some (some (.builtin "object.__setattr__"))
 ga:findIn K (.ref C) "__getattribute__"=some (some (.builtin "BaseException.__getattribute__"))
 gg:findIn K (.ref C) "__getattr__"=some none
 ex:a9b K C=true
section
variable {X:Cx}{pins:List (AB×Obj)}{σ:L2.St}{H:Hp}{s:AC}{a C d:AB}
end
section
variable {X:Cx}
end
section
variable {X:Cx}{pins:List (AB×Obj)}{σ:L2.St}{H:Hp}{s:AC}
end
section
variable {X:Cx}{x:Str}{C:AB}{np cpos pos:Pos}{e₀:AF}{C7:List AF}{t:TA}{W:Option AB->Hp->Prop}
end
section
variable {X:Cx}
end
section
variable {X:Cx}
end
structure KX(K:Frag)(x:Str)(C:AB):Prop where
 cls:c2D K C
 named:a0v K x C
section
variable {P:AK}{w:AJ}{K:Frag}{mg:Str->Option AA}{base:Heap}
end
section
variable {K:AE}{mg:Str->Option AA}{E:L2.St->XK}{F0 H0 F1:Hp}{body:MX}{tg:PV->g0->Option g0}{g:TG}{ps:List PV}{fl:FX}{D:a0w}{k:Nat}{p:PV}{x:V}{σ σ0:L2.St}{H:Hp}
end
section
variable {X:Cx}{E:L2.St->XK}
end
end PU
namespace L2
open PySem PySem.Spec PyProof.Rows
structure b6u(k:Nat)(A:AL):Prop where
 dp:A.depth+3*k+5<recursionLimit
 un:A.units+16*k+200<cLine
theorem b6u.units{k:Nat}{A:AL}(r:b6u k A):A.units+64<cLine:=by have:=r.un;lia
theorem R9.q{k:Nat}{A:AL}(r:R9 k A)(v:Option AA):b6u k (A.mark v):=⟨r.dp,r.un⟩
end L2
namespace PU
open PySem PySem.Spec PyProof.Rows L2
open PySem.W (Looks InstAt looks_findIn looks_find looks_subIn looks_mroIn)
def b4C(K:AE)(D:AB):Bool:=(PySem.W.clsIn K D).isSome && PySem.W.findIn K (.ref D) "__getattribute__"==some (some (.builtin "BaseException.__getattribute__"))&& PySem.W.findIn K (.ref D) "__getattr__"==some none
 && PySem.W.findIn K (.ref D) "__class__"==some (some (.builtin "object.__class__"))&& PySem.W.specialIn K (.builtin "object.__class__") "__get__"==some (some (.builtin "getset_descriptor.__get__"))&& PySem.W.takesIn K (.builtin "object.__class__")==some true
 && PySem.W.mroIn K D (.type "object")==some true && PySem.W.subIn K (.ref D) (.type "BaseException")==some true
structure XcF(K:AE)(D:AB):Prop where
 cl:(PySem.W.clsIn K D).isSome=true
 ga:PySem.W.findIn K (.ref D) "__getattribute__"=some (some (.builtin "BaseException.__getattribute__"))
 gt:PySem.W.findIn K (.ref D) "__getattr__"=some none
 ob:∀od,PySem.W.findObj K D od "__class__"=some (.bind (.builtin "getset_descriptor.__get__") (.builtin "object.__class__"))
 mo:PySem.W.mroIn K D (.type "object")=some true
 sb:PySem.W.subIn K (.ref D) (.type "BaseException")=some true
theorem b9Q{K:AE}{D:AB}(h:b4C K D=true):XcF K D:=by
 unfold b4C at h
 simp only [Bool.and_eq_true,beq_iff_eq] at h
 obtain⟨⟨⟨⟨⟨⟨⟨h1,h2⟩,h3⟩,h4⟩,h5⟩,h6⟩,h7⟩,h8⟩:=h
 refine⟨h1,h2,h3,fun od=> ?_,h7,h8⟩
 obtain⟨cd,hc⟩:=Option.isSome_iff_exists.mp h1
 unfold PySem.W.findObj
 rw [hc,AD,h4,AD]
 simp [h5,h6]
section
variable {prog:AK}{w:AJ}{A:AL}{E:AA->AC->Prop}{s:AC}{K:AE}{x D:AB}{ox:Obj}{od:Option Obj}
theorem b8u{tk:Tok}{Q:PySem.Fin->AC->Prop}(X:K.In s.heap)(I:InstAt s.heap x ox D od)(F:XcF K D)(hq:Q (.done (.ret (.ref D))) s):
 AI (model prog w) A (Builtin.«object.__getattribute__» ⟨[.ref x,.str "__class__" tk],[]⟩) Q E s:=by
 obtain⟨hh,g,d,t,os⟩:=s
 have L0:=I.type (M:=model prog w)
 have L1:=looks_find (M:=model prog w) X I (F.ob od)
 unfold Builtin.«object.__getattribute__»
 repeat (any_goals (first|assumption|with_reducible refine L0.at ?_|with_reducible refine L1.at ?_|wp_step))
 exact PySem.W.class_get (s:=⟨hh,g,d,t,os⟩) X I F.mo (Aa hq)
theorem b8s{nameV:AA}{Q:Unit->AC->Prop}(X:K.In s.heap)(I:InstAt s.heap x ox D od)(F:XcF K D)(hq:Q () s):AI (model prog w) A (checkBuiltinCall "BaseException.__getattribute__" ⟨[.ref x,nameV],[]⟩) Q E s:=by
 obtain⟨hh,g,d,t,os⟩:=s
 have L0:=I.type (M:=model prog w)
 have L1:=looks_subIn (M:=model prog w) X F.sb
 have hk:builtinKind "BaseException.__getattribute__"=some .slot:=by decide+kernel
 have hsplit:splitId "BaseException.__getattribute__"=some ("BaseException","__getattribute__"):=by decide+kernel
 have ha:=PySem.F.args_bexc_ga (.ref x) nameV
 simp only [checkBuiltinCall,hk,hsplit]
 refine AG ?_
 ·unfold isInstance
  repeat (first|with_reducible refine L0.at ?_|with_reducible refine L1.at ?_|wp_step)
  exact hq
theorem c2C{tk:Tok}{fill expr:Bool}{Q:AA->AC->Prop}(X:K.In s.heap)(I:InstAt s.heap x ox D od)(F:XcF K D)(hq:Q (.ref D) s):AI (model prog w) A (getAttrBy (.ref x) (.str "__class__" tk) fill expr) Q E s:=by
 obtain⟨hh,g,d,t,os⟩:=s
 have L0:=I.type (M:=model prog w)
 have L1:=looks_findIn (M:=model prog w) X F.ga
 have L2:=looks_findIn (M:=model prog w) X F.gt
 have FB:=PySem.F.attr_ValueError
 have f3:=FB.ga.bind (.ref x)
 have hx0:(expr && onTheHeap (Value.builtin "BaseException.__getattribute__"))=false:=by cases expr<;>rfl
 have hx2:(Value.builtin "BaseException.__getattribute__"==Value.builtin "object.__getattribute__")=false:=by decide+kernel
 have hx1:(onTheHeap (Value.ref D)&& Value.builtin "BaseException.__getattribute__"==Value.builtin "object.__getattribute__")=false:=by rw [hx2];rfl
 repeat (any_goals (first|assumption|with_reducible refine L0.at ?_|with_reducible refine L1.at ?_|with_reducible refine L2.at ?_|wp_step))
 refine codeAny_call_builtin FB.ga.plain PySem.F.entry_bexc_ga (b8s (s:=⟨hh,g,d,t,os⟩) X I F (b8u (s:=⟨hh,g,d,t,os⟩) X I F ?_))
 repeat (any_goals (first|assumption|wp_step))
theorem b8t{Q:Option AA->AC->Prop}(X:K.In s.heap)(I:InstAt s.heap x ox D od)(F:XcF K D)(hq:Q (some (.ref D)) {s with toks:=s.toks+1}):AI (model prog w) A (getAttr? (.ref x) "__class__") Q E s:=by
 obtain⟨hh,g,d,t,os⟩:=s
 unfold getAttr? getAttrBy?
 refine AG (wpAny_mkText (AG (wpAny_attempt (c2C (s:=⟨hh,g,d,t+1,os⟩) X I F ?_))))
 exact Aa hq
end
theorem b5I{K:AE}{x D:AB}{c:AA}(F:XcF K D)(e:PySem.W.kitOne K (.ref D) c=some false):Answers (fun s=>K.In s.heap/\∃o od,InstAt s.heap x o D od) (.ref x) c false:=fun dep tk prog w A R s hs=>by
 obtain⟨hh,gg,dr,tt,oo⟩:=s
 obtain⟨⟨kin,o,od,I⟩,fin⟩:=hs
 have L0:=I.type (M:=model prog w)
 have hisD:Looks (model prog w) hh (isType (.ref D)) true:=by
  obtain⟨cdD,hcD⟩:=Option.isSome_iff_exists.mp F.cl
  unfold PySem.W.clsIn at hcD
  split at hcD
  ·rename_i c' d' cd' sl' ho
   intro A' Q' E' s' k q
   unfold isType loadHead
   exact AG (wpAny_loadPart (k _ _ (kin _ _ ho)) (Aa q))
  ·cases hcD
 unfold Builtin.«isinstance.nested»
 refine AG ?_
 refine L0.at ?_
 cases q:(Value.ref D==c) with
 |true=>
  unfold PySem.W.kitOne at e
  rw [q,if_pos rfl] at e
  cases e
 |false=>
  rw [if_neg Ao]
  unfold PySem.W.kitOne at e
  rw [q,if_neg Ao] at e
  have z:=PySem.W.kit_cls (M:=model prog w) kin e
  have z3:Looks (model prog w) hh (isInstance (.ref x) c) false:=L0.andThen z.2.2
  refine AG ?_
  refine z.1.at ?_
  rw [if_pos (by decide)]
  k_delta "plainIsInstance"
  refine AG ?_
  refine AG ?_
  refine z.2.1.at ?_
  simp only [Bool.not_true,if_false,BG]
  refine AG ?_
  refine z3.at ?_
  simp only [BG,if_false]
  refine AG (b8t (s:=⟨hh,gg,dr,tt,oo⟩) kin I F ?_)
  refine AG (hisD.at ?_)
  simp only [Bool.not_true,BG,if_false]
  refine AG (wpAny_rule ?_)
  refine z.2.2.at ?_
  first
   |exact Aa (fin _)
   |exact Aa (Aa (fin _))
   |exact AG (Aa (Aa (fin _)))
theorem b50{K:AE}{prog:AK}{w:AJ}{A:AL}{E:AA->AC->Prop}{s:AC}{Q:AA->AC->Prop}{x D:AB}{c:AA}{o:Obj}{od:Option Obj}(kin:K.In s.heap)(I:InstAt s.heap x o D od)(F:XcF K D)(e:PySem.W.kitOne K (.ref D) c=some false)(fin:∀tk,Q (.bool false) {s with toks:=tk}):
 AI (model prog w) A (call (.builtin "isinstance") [.ref x,c]) Q E s:=by
 refine call_isinstance (S:=fun _ R s=>(K.In s.heap/\∃o od,InstAt s.heap x o D od)/\∀tk,R (.ok (.ret (.bool false))) {s with toks:=tk}) (fun prog w A R s hs=> ?_) ⟨⟨kin,o,od,I⟩,fin⟩
 refine isinstance_outer ?_ (fun z=>nomatch z)
 exact b5I F e 0 _ prog w A R s hs
def b8A(K:AE)(cv:AA)(tab:List (Str×Bool)):Prop:=∀c b,tab.lookup c=some b->∃C,a0v K c C/\XcF K C/\PySem.W.kitOne K (.ref C) cv=some b
theorem b3E{K:AE}{cv:AA}:b8A K cv []:=fun _ _ h=>nomatch h
theorem a5z{K:AE}{mg:Str->Option AA}{cv:AA}{c:Str}{b:Bool}{C:AB}{t:List (Str×Bool)}(x:XC K mg c C)(f:b4C K C=true)(e:PySem.W.kitOne K (.ref C) cv=some b)(h:b8A K cv t):b8A K cv ((c,b)::t):=fun c1 b1 q=>by
 rw [List.lookup_cons] at q
 split at q
 ·rename_i z
  cases q
  rw [beq_iff_eq.mp z]
  exact⟨C,x.named,b9Q f,e⟩
 ·exact h c1 b1 q
section
variable {X:Cx}
theorem b6P{tab:List (Str×Bool)}{cv:AA}{cV:V}{e:AF}{n:Str}{m:M}{p p2 pos:Pos}(T:b8A X.K cv tab)(rv:∀u,A4 cV u->u=cv)(hg:Gl X "isinstance")(hm:X.mg "isinstance"=none)(ha:EE X e m)(hT:PE X (.Name n p2) (tC cV))
 (he:AM [e,.Name n p2] X.env=(false,eval e X.env)::AM [.Name n p2] X.env:=by rfl) (he2:AM [.Name n p2] X.env=(false,eval (.Name n p2) X.env)::AM [] X.env:=by rfl) (hpl:(backTo pos (AM [.Name n p2] X.env)).any (·.1)=false:=by rfl)
 (hv:bootBuiltins "isinstance"=some (.builtin "isinstance"):=by rfl):
 EE X (.Call (.Name "isinstance" p) [e,.Name n p2] [] pos) (m1 (a9h tab) m):=by
 have hc:O7 X (.builtin "isinstance") (fun xs H Q=>∃F x c b,xs=[x,cV]/\p5 F H/\b5H X.K F c x/\tab.lookup c=some b/\Q (.bl b) H):=by
  intro pins s σ H xs us Q I rv0 h
  obtain⟨F,x,c,b,rfl,s0,h1,hl,q⟩:=h
  obtain⟨u,u2,rfl,ru,ru2⟩:∃u1 u2,us=[u1,u2]/\A4 x u1/\A4 cV u2:=by
   cases rv0 with
   |cons p q=>
    cases q with
    |cons p' q'=>
     cases q'
     exact⟨_,_,rfl,p,p'⟩
  cases rv _ ru2
  obtain⟨C,nm,fc,k1⟩:=T c b hl
  have fin:∀tk,EP X pins σ Q (.bool b) {s with toks:=tk}:=fun tk=>⟨.bl _,H,I.tok tk,rfl,q⟩
  obtain⟨a,C',o,od,rfl,g4,J⟩:=b9T I (h1.mono s0)
  cases g4.uniq nm
  cases(show u=Value.ref a from ru)
  cases b with
  |true=>exact b7k I.kIn J.at_ J.cls k1 fin
  |false=>exact b50 I.kIn J fc k1 fin
 exact J4 (a4V hc hg hm hv (J7 ha (J7 hT a0K he2) he) (by decide) (by decide) he hpl) fun σ H Q ⟨F,ρ,r,h1,h2,k⟩=>by
  obtain⟨rx,e1,h2⟩:=bind_some h2
  refine⟨F,ρ,rx,h1,e1,fun v F1 H1 o=> ?_⟩
  obtain⟨c,hc,h2⟩:=bind_some h2
  cases hl:tab.lookup c with
  |none=>rw [hl] at h2;cases h2
  |some b=>
   rw [hl] at h2
   cases h2
   exact⟨H1,v,c,b,rfl,p5.refl H1,b9S (o.rep.rd o.x.fh) hc,hl,k _ F1 H1 (C3.val o.x rfl)⟩
end
end PU
namespace ZT
open PySem PySem.Spec PyProof.Rows L2 PU
structure ZA(z TI TO i1 i2:AB):Prop where
 TIz:TI≠z
 TOz:TO≠z
 i1z:i1≠z
 i2z:i2≠z
 TITO:TI≠TO
 TIi1:TI≠i1
 TIi2:TI≠i2
 TOi1:TO≠i1
 TOi2:TO≠i2
 i12:i1≠i2
def LA(z TO i1 i2 l:AB):Prop:=l≠z/\l≠TO/\l≠i1/\l≠i2
section
variable {prog:AK}{w:AJ}{A:AL}{E:AA->AC->Prop}{s:AC}{z TI TO i1 i2:AB}{n1 n2 i:Nat}{P1 P2:Nat->AA->Prop}{St1 St2:Nat->Heap->Prop}{a b:AA}{l1 l2:AB}
theorem a7W{Q:AA->AC->Prop}(D:ZA z TI TO i1 i2)(D1:∀A',A'.handled=none->Draws prog w A' i1 [i1,l1] n1 P1 St1)(D2:∀A',A'.handled=none->Draws prog w A' i2 [i2,l2] n2 P2 St2)(hh:A.handled=none)(a1:LA z TO i1 i2 l1)(a2:LA z TO i1 i2 l2)
 (hz:IsZip s.heap z TI TO .none) (hTI:IsPair s.heap TI (.ref i1) (.ref i2)) (hTO:IsPair s.heap TO a b) (h1:St1 i s.heap) (h2:St2 i s.heap) (m1:i<n1) (m2:i<n2)
 (hQ:∀x y h' tk,P1 i x->P2 i y->IsZip h' z TI TO (rawInt s.heap.objs.size)->IsPair h' TO x y->St1 (i+1) h'->St2 (i+1) h'->IsPair h' s.heap.objs.size x y->h'.objs.size=s.heap.objs.size+1->
  (∀c o,c≠z->c≠TO->c≠i1->c≠i2->s.heap.get? c=some o->h'.get? c=some o)->Q (.ref s.heap.objs.size) {s with heap:=h',toks:=tk}):
 AI (model prog w) A (Builtin.«zip.__next__» ⟨[.ref z],[]⟩) (fun fin s'=>∃v,fin= .done (.ret v)/\Q v s') E s:=by
 show AI _ _ (field (.ref z) 2>>=_) _ _ _
 refine AG (wpAny_field hz rfl (x:= .bool false) rfl ?_)
 show AI _ _ (field (.ref z) 3>>=_) _ _ _
 refine AG (wpAny_field hz rfl (x:= .ref TI) rfl ?_)
 refine AG (wpAny_seqItems hTI rfl ?_)
 show AI _ _ (Builtin.SmallTypes.ownedTupleIsFree (.ref z)>>=_) _ _ _
 refine AG ?_
 unfold Builtin.SmallTypes.ownedTupleIsFree
 refine AG (wpAny_field hz rfl (x:= .none) rfl (Aa ?_))
 simp only [if_true]
 refine AG (wpAny_rule ?_)
 refine AG (wpAny_field hz rfl (x:= .ref TO) rfl ?_)
 refine AG (wpAny_setField_rec hz (by simp) fun h₁ hz₁ hs₁=> ?_)
 replace hz₁:IsZip h₁ z TI TO .ellipsis:=hz₁
 refine AG ?_
 simp only [List.zipIdx_cons,List.zipIdx_nil,List.forIn_cons,List.forIn_nil]
 have f1:∀{x:AB} {h h':Heap} {i},x≠i1->x≠l1->Heap.SameBut x h h'->St1 i h->St1 i h':=fun n n' k st=>(D1 A hh).frame _ _ _ st fun b hb o e=>by
  have hb:b=i1\/b=l1:=by simpa using hb
  rcases hb with hb|hb
  ·exact k.extBut _ _ (by rw [hb];exact Ne.symm n) e
  ·exact k.extBut _ _ (by rw [hb];exact Ne.symm n') e
 have f2:∀{x:AB} {h h':Heap} {i},x≠i2->x≠l2->Heap.SameBut x h h'->St2 i h->St2 i h':=fun n n' k st=>(D2 A hh).frame _ _ _ st fun b hb o e=>by
  have hb:b=i2\/b=l2:=by simpa using hb
  rcases hb with hb|hb
  ·exact k.extBut _ _ (by rw [hb];exact Ne.symm n) e
  ·exact k.extBut _ _ (by rw [hb];exact Ne.symm n') e
 refine AG (AG (wpAny_onRaise ?_))
 show AI _ _ (Builtin.SmallTypes.nextOf (.ref i1)>>=_) _ _ _
 refine AG ((D1 _ hh).item i _ _ _ m1 (f1 D.i1z.symm (Ne.symm a1.1) hs₁ h1) fun x h₂ tk₂ px h1₂ hs₂=>Aa ?_)
 have hTO₂:IsPair h₂ TO a b:=hs₂.extBut _ _ D.TOi1 (hs₁.extBut _ _ D.TOz hTO)
 refine AG (wpAny_seqItems hTO₂ rfl ?_)
 refine AG (wpAny_updateSeq_pair hTO₂ fun h₃ hTO₃ hs₃=> ?_)
 replace hTO₃:IsPair h₃ TO x b:=hTO₃
 refine AG (wpAny_letGo (Aa ?_))
 refine AG (AG (wpAny_onRaise ?_))
 show AI _ _ (Builtin.SmallTypes.nextOf (.ref i2)>>=_) _ _ _
 refine AG ((D2 _ hh).item i _ _ _ m2 (f2 D.TOi2 (Ne.symm a2.2.1) hs₃ (f2 D.i12 (Ne.symm a2.2.2.1) hs₂ (f2 D.i2z.symm (Ne.symm a2.1) hs₁ h2))) fun y h₄ tk₄ py h2₄ hs₄=>Aa ?_)
 have hTO₄:IsPair h₄ TO x b:=hs₄.extBut _ _ D.TOi2 hTO₃
 refine AG (wpAny_seqItems hTO₄ rfl ?_)
 refine AG (wpAny_updateSeq_pair hTO₄ fun h₅ hTO₅ hs₅=> ?_)
 replace hTO₅:IsPair h₅ TO x y:=hTO₅
 refine AG (wpAny_letGo (Aa (Aa ?_)))
 refine AG (wpAny_seqItems hTO₅ rfl ?_)
 refine AG (wpAny_newTuple ?_)
 have hsz:h₅.objs.size=s.heap.objs.size:=by rw [hs₅.1,hs₄.1,hs₃.1,hs₂.1,hs₁.1]
 have hz₅:IsZip h₅ z TI TO .ellipsis:=hs₅.extBut _ _ D.TOz.symm (hs₄.extBut _ _ D.i2z.symm (hs₃.extBut _ _ D.TOz.symm (hs₂.extBut _ _ D.i1z.symm hz₁)))
 have hk₅:∀c o,c≠z->c≠TO->c≠i1->c≠i2->s.heap.get? c=some o->h₅.get? c=some o:=fun c o c1 c2 c3 c4 e=>
  hs₅.extBut _ _ c2 (hs₄.extBut _ _ c4 (hs₃.extBut _ _ c2 (hs₂.extBut _ _ c3 (hs₁.extBut _ _ c1 e))))
 have h1₅:St1 (i+1) h₅:=f1 D.TOi1 (Ne.symm a1.2.1) hs₅ (f1 D.i12.symm (Ne.symm a1.2.2.2) hs₄ (f1 D.TOi1 (Ne.symm a1.2.1) hs₃ h1₂))
 have h2₅:St2 (i+1) h₅:=f2 D.TOi2 (Ne.symm a2.2.1) hs₅ h2₄
 have hzlt:z<h₅.objs.size:=Ag hz₅
 have hTOlt:TO<h₅.objs.size:=Ag hTO₅
 have hi1lt:i1<h₅.objs.size:=by obtain⟨_,e⟩:=(D1 A hh).live _ _ h1₅;exact Ag e
 have hi2lt:i2<h₅.objs.size:=by obtain⟨_,e⟩:=(D2 A hh).live _ _ h2₅;exact Ag e
 show AI _ _ (Builtin.SmallTypes.ownedTupleHandOut (.ref z) (.ref h₅.objs.size)>>=_) _ _ _
 refine AG ?_
 unfold Builtin.SmallTypes.ownedTupleHandOut
 have hz₆:IsZip (h₅.push {cls:= .type "tuple",data:= .seq #[x,y]}) z TI TO .ellipsis:=An _ hz₅
 refine AG (wpAny_setField_rec hz₆ (by simp) fun h₇ hz₇ hs₇=> ?_)
 replace hz₇:IsZip h₇ z TI TO (rawInt h₅.objs.size):=hz₇
 refine wpAny_setField_rec hz₇ (by simp) fun h₈ hz₈ hs₈=> ?_
 replace hz₈:IsZip h₈ z TI TO (rawInt h₅.objs.size):=hz₈
 have up:∀c o,c≠z->h₅.get? c=some o->h₈.get? c=some o:=fun c o c1 e=>hs₈.extBut _ _ c1 (hs₇.extBut _ _ c1 (An _ e))
 have hT₈:IsPair h₈ h₅.objs.size x y:=hs₈.extBut _ _ (Nat.ne_of_gt hzlt) (hs₇.extBut _ _ (Nat.ne_of_gt hzlt) (Az _ rfl))
 have hz8:h₈.objs.size=h₅.objs.size+1:=by rw [hs₈.1,hs₇.1,Heap.size_push]
 rw [hsz] at hz₈ hT₈ hz8
 refine Aa ⟨_,rfl, ?_⟩
 show Q (.ref h₅.objs.size) _
 rw [hsz]
 refine hQ x y h₈ _ px py hz₈ (up _ _ D.TOz hTO₅) ?_ ?_ hT₈ hz8 fun c o c1 c2 c3 c4 e=>up c o c1 (hk₅ c o c1 c2 c3 c4 e)
 ·refine(D1 A hh).frame _ _ _ h1₅ fun b hb o e=>up b o ?_ e
  have hb:b=i1\/b=l1:=by simpa using hb
  rcases hb with hb|hb
  ·rw [hb];exact D.i1z
  ·rw [hb];exact a1.1
 ·refine(D2 A hh).frame _ _ _ h2₅ fun b hb o e=>up b o ?_ e
  have hb:b=i2\/b=l2:=by simpa using hb
  rcases hb with hb|hb
  ·rw [hb];exact D.i2z
  ·rw [hb];exact a2.1
theorem b0f{Q:PySem.Fin->AC->Prop}(D:ZA z TI TO i1 i2)(D1:∀A',A'.handled=none->Draws prog w A' i1 [i1,l1] n1 P1 St1)(D2:∀A',A'.handled=none->Draws prog w A' i2 [i2,l2] n2 P2 St2)(hh:A.handled=none)(a1:LA z TO i1 i2 l1)(a2:LA z TO i1 i2 l2)
 (hz:IsZip s.heap z TI TO .none) (hTI:IsPair s.heap TI (.ref i1) (.ref i2)) (hTO:IsPair s.heap TO a b) (h1:St1 i s.heap) (h2:St2 i s.heap) (m1:i<=n1) (m2:i<=n2) (hend:i=n1\/i=n2)
 (hE:∀h' e tk,(∀c o,c≠z->c≠TO->c≠i1->c≠i2->s.heap.get? c=some o->h'.get? c=some o)->(∃o,h'.get? e=some o/\o.cls= .type "StopIteration")->E (.ref e) {s with heap:=h',toks:=tk}):
 AI (model prog w) A (Builtin.«zip.__next__» ⟨[.ref z],[]⟩) Q E s:=by
 show AI _ _ (field (.ref z) 2>>=_) _ _ _
 refine AG (wpAny_field hz rfl (x:= .bool false) rfl ?_)
 show AI _ _ (field (.ref z) 3>>=_) _ _ _
 refine AG (wpAny_field hz rfl (x:= .ref TI) rfl ?_)
 refine AG (wpAny_seqItems hTI rfl ?_)
 show AI _ _ (Builtin.SmallTypes.ownedTupleIsFree (.ref z)>>=_) _ _ _
 refine AG ?_
 unfold Builtin.SmallTypes.ownedTupleIsFree
 refine AG (wpAny_field hz rfl (x:= .none) rfl (Aa ?_))
 simp only [if_true]
 refine AG (wpAny_rule ?_)
 refine AG (wpAny_field hz rfl (x:= .ref TO) rfl ?_)
 refine AG (wpAny_setField_rec hz (by simp) fun h₁ hz₁ hs₁=> ?_)
 replace hz₁:IsZip h₁ z TI TO .ellipsis:=hz₁
 refine AG ?_
 simp only [List.zipIdx_cons,List.zipIdx_nil,List.forIn_cons,List.forIn_nil]
 have f1:∀{x:AB} {h h':Heap} {i},x≠i1->x≠l1->Heap.SameBut x h h'->St1 i h->St1 i h':=fun n n' k st=>(D1 A hh).frame _ _ _ st fun b hb o e=>by
  have hb:b=i1\/b=l1:=by simpa using hb
  rcases hb with hb|hb
  ·exact k.extBut _ _ (by rw [hb];exact Ne.symm n) e
  ·exact k.extBut _ _ (by rw [hb];exact Ne.symm n') e
 have f2:∀{x:AB} {h h':Heap} {i},x≠i2->x≠l2->Heap.SameBut x h h'->St2 i h->St2 i h':=fun n n' k st=>(D2 A hh).frame _ _ _ st fun b hb o e=>by
  have hb:b=i2\/b=l2:=by simpa using hb
  rcases hb with hb|hb
  ·exact k.extBut _ _ (by rw [hb];exact Ne.symm n) e
  ·exact k.extBut _ _ (by rw [hb];exact Ne.symm n') e
 refine AG (AG (wpAny_onRaise ?_))
 show AI _ _ (Builtin.SmallTypes.nextOf (.ref i1)>>=_) _ _ _
 by_cases hx:i=n1
 ·subst hx
  refine AG ((D1 _ hh).done _ _ _ (f1 D.i1z.symm (Ne.symm a1.1) hs₁ h1) fun h₂ e hs₂ he=> ?_)
  obtain⟨oe,hoe,hce⟩:=he
  have hz₂:IsZip h₂ z TI TO .ellipsis:=hs₂ _ _ D.i1z.symm hz₁
  have hez:e≠z:=fun x=>by subst x;rw [hz₂] at hoe;cases hoe;simp at hce
  exact wpAny_setField_rec hz₂ (by simp) fun h₃ _ hs₃=>hE h₃ e _ (fun c o c1 _ c3 _ x=>hs₃.extBut _ _ c1 (hs₂ _ _ c3 (hs₁.extBut _ _ c1 x))) ⟨oe,hs₃.extBut _ _ hez hoe,hce⟩
 ·have hy:i=n2:=hend.resolve_left hx
  subst hy
  refine AG ((D1 _ hh).item i _ _ _ (Nat.lt_of_le_of_ne m1 hx) (f1 D.i1z.symm (Ne.symm a1.1) hs₁ h1) fun x h₂ tk₂ px h1₂ hs₂=>Aa ?_)
  have hTO₂:IsPair h₂ TO a b:=hs₂.extBut _ _ D.TOi1 (hs₁.extBut _ _ D.TOz hTO)
  refine AG (wpAny_seqItems hTO₂ rfl ?_)
  refine AG (wpAny_updateSeq_pair hTO₂ fun h₃ hTO₃ hs₃=> ?_)
  refine AG (wpAny_letGo (Aa ?_))
  refine AG (AG (wpAny_onRaise ?_))
  show AI _ _ (Builtin.SmallTypes.nextOf (.ref i2)>>=_) _ _ _
  refine AG ((D2 _ hh).done _ _ _ (f2 D.TOi2 (Ne.symm a2.2.1) hs₃ (f2 D.i12 (Ne.symm a2.2.2.1) hs₂ (f2 D.i2z.symm (Ne.symm a2.1) hs₁ h2))) fun h₄ e hs₄ he=> ?_)
  obtain⟨oe,hoe,hce⟩:=he
  have hz₄:IsZip h₄ z TI TO .ellipsis:=hs₄ _ _ D.i2z.symm (hs₃.extBut _ _ D.TOz.symm (hs₂.extBut _ _ D.i1z.symm hz₁))
  have hez:e≠z:=fun x=>by subst x;rw [hz₄] at hoe;cases hoe;simp at hce
  exact wpAny_setField_rec hz₄ (by simp) fun h₅ _ hs₅=>hE h₅ e _ (fun c o c1 c2 c3 c4 x=>hs₅.extBut _ _ c1 (hs₄ _ _ c4 (hs₃.extBut _ _ c2 (hs₂.extBut _ _ c3 (hs₁.extBut _ _ c1 x))))) ⟨oe,hs₅.extBut _ _ hez hoe,hce⟩
theorem a7S{Q:Option AA->AC->Prop}(D:ZA z TI TO i1 i2)(D1:∀A',A'.handled=none->Draws prog w A' i1 [i1,l1] n1 P1 St1)(D2:∀A',A'.handled=none->Draws prog w A' i2 [i2,l2] n2 P2 St2)(hh:A.handled=none)(a1:LA z TO i1 i2 l1)(a2:LA z TO i1 i2 l2)
 (hz:IsZip s.heap z TI TO .none) (hTI:IsPair s.heap TI (.ref i1) (.ref i2)) (hTO:IsPair s.heap TO a b) (h1:St1 i s.heap) (h2:St2 i s.heap) (m1:i<n1) (m2:i<n2)
 (hQ:∀x y h' tk,P1 i x->P2 i y->IsZip h' z TI TO (rawInt s.heap.objs.size)->IsPair h' TO x y->St1 (i+1) h'->St2 (i+1) h'->IsPair h' s.heap.objs.size x y->h'.objs.size=s.heap.objs.size+1->
  (∀c o,c≠z->c≠TO->c≠i1->c≠i2->s.heap.get? c=some o->h'.get? c=some o)->Q (some (.ref s.heap.objs.size)) {s with heap:=h',toks:=tk}):
 AI (model prog w) A (pyNext (.ref z)) Q E s:=by
 have hT:s.TypeIs (.ref z) "zip":=⟨_,hz,rfl⟩
 unfold pyNext
 exact AG (wpAny_attempt (wpAny_callSpecial?_slot (name:=AY "__next__") hT F.slot_zip_next
  (wpAny_call_entry F.slot_zip_next hT F.entry_zip_next
   (a7W D D1 D2 hh a1 a2 hz hTI hTO h1 h2 m1 m2 fun x y h' tk p1 p2 a1 a2 a3 a4 a5 a6 a7=>Aa (hQ x y h' tk p1 p2 a1 a2 a3 a4 a5 a6 a7)) (F.args_zip_next_1 _))))
theorem a8E{Q:Option AA->AC->Prop}(D:ZA z TI TO i1 i2)(D1:∀A',A'.handled=none->Draws prog w A' i1 [i1,l1] n1 P1 St1)(D2:∀A',A'.handled=none->Draws prog w A' i2 [i2,l2] n2 P2 St2)(hh:A.handled=none)(a1:LA z TO i1 i2 l1)(a2:LA z TO i1 i2 l2)
 (hz:IsZip s.heap z TI TO .none) (hTI:IsPair s.heap TI (.ref i1) (.ref i2)) (hTO:IsPair s.heap TO a b) (h1:St1 i s.heap) (h2:St2 i s.heap) (m1:i<=n1) (m2:i<=n2) (hend:i=n1\/i=n2)
 (hQ:∀h' tk,(∀c o,c≠z->c≠TO->c≠i1->c≠i2->s.heap.get? c=some o->h'.get? c=some o)->Q none {s with heap:=h',toks:=tk}):AI (model prog w) A (pyNext (.ref z)) Q E s:=by
 have hT:s.TypeIs (.ref z) "zip":=⟨_,hz,rfl⟩
 unfold pyNext
 refine AG (wpAny_attempt (wpAny_callSpecial?_slot (name:=AY "__next__") hT F.slot_zip_next
  (wpAny_call_entry F.slot_zip_next hT F.entry_zip_next (b0f D D1 D2 hh a1 a2 hz hTI hTO h1 h2 m1 m2 hend fun h' e tk hk he=> ?_) (F.args_zip_next_1 _))))
 obtain⟨o,ho,hc⟩:=he
 refine AG (wpAny_isInstance (T:="StopIteration") (b:=true) ⟨o,ho,hc⟩ isSubtype_stop ?_)
 exact Aa (hQ _ _ hk)
end
section
variable {prog:AK}{w:AJ}{A:AL}{E:AA->AC->Prop}{s:AC}
end
theorem l8.turnedTupN{X:Cx}{pins:List (AB×Obj)}{σ:L2.St}{H:Hp}{s:AC}{h':Heap}{t':Nat}{ch:List AB}{xs:List V}(I:l8 X pins σ H s)(f:∀b∈ch,a7r X pins H b)
 (k:∀b o,b∉ch->s.heap.get? b=some o->h'.get? b=some o) (new:R3 X.prog X.w (upd H s.heap.objs.size (.tup xs)) h' s.heap.objs.size (.tup xs)):
 l8 X pins σ (upd H s.heap.objs.size (.tup xs)) {s with heap:=h',toks:=t'}:=by
 have hn:H s.heap.objs.size=none:=I.hok.fresh (AZ _)
 have nb:∀b u,H b=some u->b∉ch:=fun b u q z=>by rw [(f b z).1] at q;cases q
 refine I.step (g':=s.gens) (d':=s.drawn) (ch:=ch) (fun b hb=>⟨(f b hb).2.2.2.1,(f b hb).2.1,(f b hb).2.2.2.2.1,(f b hb).2.2.2.2.2⟩) (fun b o _ _ hc q _=>k b o hc q) (fun b o _ _ hc q _=>⟨o.slots,k b o hc q⟩)
  (fun b o _ q n=>by rw [l7 (Ar (Ag q))];exact n) (fun b o hc q=>⟨o,k b o hc q⟩)
  (fun b xs q=>by rw [l7 (m4 q hn)];exact q) (fun b o u q=>by rw [l7 (m4 q hn)];exact q) (fun b ps q=>⟨#[],by rw [l7 (m4 q hn),q];simp⟩) (fun m hm=> ?_) (fun b u q=> ?_) I.bare
 ·obtain⟨o,es,ep,ho,r⟩:=hm
  exact⟨o,es,ep,k _ o (fun z=>(f _ z).2.1 rfl) ho,r⟩
 ·by_cases hb:b=s.heap.objs.size
  ·subst hb
   rw [w4] at q
   cases q
   exact new
  ·rw [l7 hb] at q
   refine(I.hok b u q).stay (fun c v hc y=>k c v ?_ y) (fun c y=>by rw [l7 (m4 y hn)];exact y) fun c ys y=>by rw [l7 (m4 y hn)];exact y
   rcases hc with z|z
   ·rw [z];exact nb b u q
   ·exact nb c _ z
theorem l8.turnedN{X:Cx}{pins:List (AB×Obj)}{σ:L2.St}{H:Hp}{s:AC}{h':Heap}{t':Nat}{ch:List AB}(I:l8 X pins σ H s)(f:∀b∈ch,a7r X pins H b)
 (k:∀b o,b∉ch->s.heap.get? b=some o->h'.get? b=some o):l8 X pins σ H {s with heap:=h',toks:=t'}:=by
 have nb:∀b u,H b=some u->b∉ch:=fun b u q z=>by rw [(f b z).1] at q;cases q
 refine I.step (g':=s.gens) (d':=s.drawn) (ch:=ch) (fun b hb=>⟨(f b hb).2.2.2.1,(f b hb).2.1,(f b hb).2.2.2.2.1,(f b hb).2.2.2.2.2⟩) (fun b o _ _ hc q _=>k b o hc q) (fun b o _ _ hc q _=>⟨o.slots,k b o hc q⟩)
  (fun _ _ _ _ n=>n) (fun b o hc q=>⟨o,k b o hc q⟩) (fun _ _ e=>e) (fun _ _ _ e=>e) (fun b ps e=>⟨#[],by rw [e];simp⟩) (fun m hm=> ?_) (fun b u q=> ?_) I.bare
 ·obtain⟨o,es,ep,ho,r⟩:=hm
  exact⟨o,es,ep,k _ o (fun z=>(f _ z).2.1 rfl) ho,r⟩
 ·refine(I.hok b u q).stay (fun c v hc y=>k c v ?_ y) (fun _ y=>y) fun _ _ y=>y
  rcases hc with z|z
  ·rw [z];exact nb b u q
  ·exact nb c _ z
theorem b6G:bootBuiltins "zip"=some (.type "zip"):=by decide+kernel
theorem c1D(n:Nat):ZA (n+4) (n+2) (n+3) n (n+1):=by
 exact⟨(by lia:(n+2:Nat)≠n+4),(by lia:(n+3:Nat)≠n+4),(by lia:(n:Nat)≠n+4),(by lia:(n+1:Nat)≠n+4),(by lia:(n+2:Nat)≠n+3),(by lia:(n+2:Nat)≠n),(by lia:(n+2:Nat)≠n+1),
  (by lia:(n+3:Nat)≠n),(by lia:(n+3:Nat)≠n+1),(by lia:(n:Nat)≠n+1)⟩
section
variable {X:Cx}
end
end ZT
namespace PU
open PySem PySem.Spec PyProof.Rows L2
section
variable {X:Cx}
end
structure FnV(K:AE)(mg:Str->Option AA)(x:Str)(f:AB):Prop where
 mg:mg x=some (.ref f)
 at_:b0y K x (.ref f)
 one:∀a,b0y K x (.ref a)->a=f
def b4n(K:AE)(x:Str)(f:AB):Bool:=K.all fun p=>match p.2.data with
 | .func fd=> !(fd.name==x)||p.1==f
 |_=>true
theorem b7p{K:AE}{a:AB}{o:Obj}:K.lookup a=some o->(a,o)∈K:=by
 induction K with
 |nil=>intro h;cases h
 |cons p r ih=>
  intro h
  obtain⟨b,u⟩:=p
  rw [List.lookup_cons] at h
  split at h
  ·rename_i z
   cases h
   rw [beq_iff_eq.mp z]
   exact Al
  ·exact Ak _ (ih h)
theorem b6Z{K:AE}{mg:Str->Option AA}{x:Str}{f:AB}{oc:AA}{od:Option AB}{fd:FuncData}{sl:Array (Option AA)}(hm:mg x=some (.ref f))(l:K.lookup f=some ⟨oc,od,.func fd,sl⟩)(hn:fd.name=x)(q:b4n K x f=true):FnV K mg x f:=by
 refine⟨hm,⟨f,oc,od,fd,sl,rfl,l,hn⟩,fun a h=> ?_⟩
 obtain⟨b,oc',od',fd',sl',e,l',hn'⟩:=h
 cases e
 have:=List.all_eq_true.mp q _ (b7p l')
 simp only [hn',beq_self_eq_true,Bool.not_true,Bool.false_or] at this
 exact beq_iff_eq.mp this
abbrev a8b(x:Str):PV:= .dict [(.str x,.none)]
section
variable {X:Cx}
theorem b4L{x:Str}{f:AB}{pos:Pos}(v:FnV X.K X.mg x f)(hg:Gl X x:=by rfl)(hd:(x==("__debug__":Str))=false:=by decide):EE X (.Name x pos) (mC (a8b x)):=
 a3d (v:= .ref f) (b18 hg v.mg rfl hd) fun H=>Or.inr (Or.inr (Or.inl ⟨x,_,rfl,.inl ⟨rfl,v.at_⟩⟩))
def b4D(X:Cx)(n k':Nat)(tab:List (Str×(List PV->Option f6))):Prop:=∀x g,tab.lookup x=some g->∃f fd ps k,a05 X.prog X.w X.K X.mg X.base CX0 k f fd ps (spP X.K ps.length g)/\k<=k'/\PySem.W.keepIn X.K (.ref f)=true/\a39 X.K fd ps []/\ps.length=n/\∀a,b0y X.K x (.ref a)->a=f
theorem b0O{n k':Nat}:b4D X n k' []:=fun _ _ h=>nomatch h
theorem a9e{n k k':Nat}{x:Str}{f:AB}{ps:List Str}{g:List PV->Option f6}{t:List (Str×(List PV->Option f6))}(d:i8 X.prog X.w X.K X.mg X.base x ps k g)(v:FnV X.K X.mg x f)(hk:k<=k')(hn:ps.length=n)(h:b4D X n k' t):b4D X n k' ((x,g)::t):=fun y g' q=>by
 rw [List.lookup_cons] at q
 split at q
 ·rename_i z
  cases q
  obtain⟨f',fd,G,h1,h2,h3⟩:=d
  have e:=v.mg.symm.trans h1
  cases e
  refine⟨f,fd,ps,k,G,hk,h2,h3,hn, ?_⟩
  rw [beq_iff_eq.mp z]
  exact v.one
 ·exact h y g' q
def a1q(tab:List (Str×(List PV->Option f6)))(i:Nat)(m:MA):M:=fun ρ=>match ρ[i]? with
 |some (some (.val (.dict [(.str x,.none)])))=>(tab.lookup x).bind fun g=>(m ρ).bind g
 |_=>none
theorem b2H(i:Nat){n k':Nat}{y:Str}{p pos:Pos}{tab:List (Str×(List PV->Option f6))}{e:AF}{es:List AF}{m:MA}(T:b4D X n k' tab)(hr:R9 k' X.A)(hv:PE X (.Name y p) (b3D i))(hn:∀ρ qs,m ρ=some qs->qs.length=n)(ha:EA X (e::es) m)
 (he:AM (e::es) X.env=(false,eval e X.env)::AM es X.env:=by rfl) (hpl:(backTo pos (AM es X.env)).any (·.1)=false:=by rfl):
 EE X (.Call (.Name y p) (e::es) [] pos) (a1q tab i m):=by
 intro pins s σ H Q I ⟨F,ρ,r,env,hm,k⟩
 unfold a1q at hm
 split at hm
 ·rename_i x hρ
  cases hl:tab.lookup x with
  |none=>rw [hl] at hm;cases hm
  |some g=>
   rw [hl,AD] at hm
   obtain⟨f,fd,ps,kk,G,hk,h2,h3,h4,one⟩:=T x g hl
   obtain⟨v,hσ,hrep⟩:=env.at_ i _ hρ
   have hvf:v= .ref f:=by
    rcases hrep with⟨_,_,_,_,kk1,w1,t1,_,zz,_⟩|⟨_,_,_,_,kk1,w1,t1,_,zz,_⟩|⟨z,t,e,hz⟩|⟨_,_,_,ho,hf⟩
    ·cases zz
    ·cases zz
    ·cases e
     rcases hz with⟨_,hz⟩|⟨e,_⟩
     ·obtain⟨a,_,_,_,_,ea,_⟩:=id hz
      subst ea
      rw [one a hz]
     ·cases e
    ·rcases(b5g ho hf).2.1 with e|e<;>cases e
   subst hvf
   refine wpAny_Call_Name_kw (U5 (hv pins s σ H (fun v H1=>v= .ref f/\H1=H) I ⟨.ref f,hσ,rfl,rfl⟩) fun u s1 ⟨v,H1,I1,rv,hv1,hH⟩=> ?_)
   subst hv1 hH
   cases(show u=Value.ref f from rv)
   obtain⟨qs,e1,e2⟩:=bind_some hm
   refine PySem.W.callWith_K (h₀:=X.base) I1.ok.mod.kin h2 (U5 (ha pos pins s1 σ H1 (fun vs H2=>∃F2,Ext F H1 F2 H2/\p4 X.K F2 qs vs) I1 ⟨F,ρ,qs,env,e1,fun vs F2 H2 x rl=>⟨F2,x,rl⟩⟩) fun us s2 ⟨vs,H2,I2,rr,F2,x2,rl⟩=>⟨I2.kIn, ?_⟩) he hpl
   refine b73 (dvs:=[]) (ds:=[]) (sp:=spP X.K ps.length g) (E:=E0) G (hr.mono hk) h3 .nil b95 I2 rr ?_
   show spP X.K ps.length g (vs++[]) H2 Q E0
   rw [Ad]
   exact⟨F2,qs,r,x2.fh,rl,(hn _ _ e1).trans h4.symm,e2,fun v F3 H3 o=>k v F3 H3 (C3.trans x2 o)⟩
 ·cases hm
end
section
variable {X:Cx}
end
section
variable {X:Cx}
end
section
variable {X:Cx}
end
section
variable {X:Cx}
def c0f(Φ:L2.St->Hp->Prop)(K:AE)(F0 H0 F:Hp)(D:a0w):Fl->Prop
 | .nx ρ=>∀σ' F' H',p5 F F'->SOk K F0 H0 F' H' σ' ρ->Φ σ' H'->D.nx σ' H'
 | .rt r=>∀v F' H',C3 K F0 H0 F' H' v r->D.rt v H'
 | .bk ρ=>∀σ' F' H',p5 F F'->SOk K F0 H0 F' H' σ' ρ->Φ σ' H'->D.bk σ' H'
 | .ct ρ=>∀σ' F' H',p5 F F'->SOk K F0 H0 F' H' σ' ρ->Φ σ' H'->D.ct σ' H'
theorem c0f.later{Φ:L2.St->Hp->Prop}{K:AE}{F0 H0 F F1:Hp}{D:a0w}(s:p5 F F1):∀{fl:Fl},c0f Φ K F0 H0 F D fl->c0f Φ K F0 H0 F1 D fl
 | .nx _,h=>fun σ' F' H' s' so=>h σ' F' H' (s.trans s') so
 | .rt _,h=>h
 | .bk _,h=>fun σ' F' H' s' so=>h σ' F' H' (s.trans s') so
 | .ct _,h=>fun σ' F' H' s' so=>h σ' F' H' (s.trans s') so
variable {Φ:L2.St->Hp->Prop}{I:List Nat}
end
mutual
def c2J:PV->Bool
 | .none=>true
 | .bool _=>true
 | .int _=>true
 | .str _=>true
 | .tuple ps=>b9Y ps
 |_=>false
def b9Y:List PV->Bool
 |[]=>true
 |p::ps=>c2J p && b9Y ps
end
def keep(A:List Nat)(ρ:g0):g0:=ρ.zipIdx.map fun p=>if p.2∈A then p.1 else none
section
variable {X:Cx}
end
section
variable {X:Cx}
inductive EJ (X:Cx):List AF->List M->Prop where
 |nil:EJ X [] []
 |cons {e:AF} {m:M} {es:List AF} {ms:List M} (h:EE X e m) (t:EJ X es ms):EJ X (e::es) (m::ms)
end
section
variable {X:Cx}{tg:AF}
end
theorem b0x(l:AB)(items:Array AA)(n:Nat)(dd:Option AB)(sl:Array (Option AA))(u:Tok):
 Meets (Builtin.«tuple.__mul__» ⟨[.ref l,.int 1 u],[]⟩) (fun _ R s=>s.heap.get? l=some {cls:= .type "tuple",dict:=dd,data:= .seq items n,slots:=sl}/\R (.ok (.ret (.ref l))) s):=
 .of_wp fun prog w A R s h=>by
  obtain⟨hp,g,d,tk,os⟩:=s;obtain⟨hl,h⟩:=h
  wp_walk
  exact⟨_,rfl,h⟩
def b0Q:f6->f6->Option f6
 | .val (.tuple ps),.val (.int 1)=>some (.val (.tuple ps))
 |x,y=>V0 x y
section
variable {X:Cx}
theorem b3g:OpM X (binaryOp .Mult) b0Q:=by
 intro pins s σ H x y v u Q I rx ry h
 obtain⟨F1,ra,rb,rz,s0,h1,h2,h3,k⟩:=h
 unfold b0Q at h3
 split at h3
 ·rename_i ps
  cases h3;cases h2
  have h1':U6 X.K F1 (.tuple ps) x:=h1
  obtain⟨a,xs,rfl,hq,rl⟩:=h1
  cases rx
  obtain⟨t,rfl⟩:=ry
  obtain⟨its,r,ht,_⟩:=I.tuple (C4 s0 hq.sq)
  obtain⟨⟨cls,dd,data,sl⟩,ho,hc',m,hd⟩:=id ht
  simp only at hc' hd
  subst hc' hd
  exact wpAny_binaryOp_repeat_ref (T:="tuple") (U:="int") (by decide) ht.typeIs (fun s'=>typeIs_int s' 1 t) a3l F.fills_int_mul F.slot_int_rmul a64 F.slot_int_index.lookup
   (call_meets F.slot_int_rmul (typeIs_int s 1 t) F.entry_int_rmul (F.args_int_rmul_2 _ _) (a4L 1 t a its.toArray m dd sl)
    ⟨ho,rfl,ht.typeIs,call_meets PySem.F.slot_tuple_mul ht.typeIs PySem.F.entry_tuple_mul (PySem.F.args_tuple_mul_2 _ _) (b0x a its.toArray m dd sl t) ⟨ho,.ref a,H,I,rfl,k _ F1 H (C3.here s0 h1')⟩⟩)
 ·exact J3 pins s σ H x y v u Q I rx ry ⟨F1,_,_,rz,s0,h1,h2,h3,k⟩
end
open PySem PySem.Spec PyProof.Rows L2 PySem.W
def b6o(K:AE)(y x:Str)(st:Stmt):Prop:=∃f fd,PySem.W.nsIn K mainGlobals y=some (some (.ref f))/\Fun K x x st f fd
def DfA(K:AE)(mg:Str->Option AA)(y x:Str)(st:Stmt):Prop:=∃f fd,Fun K x x st f fd/\mg y=some (.ref f)
theorem c0t{K:AE}{y x:Str}{st:Stmt}{f:AB}{oc:AA}{od an:Option AB}{osl:Array (Option AA)}{kV doc pm cdv ct:AA}(a:PySem.W.nsIn K mainGlobals y=some (some (.ref f)))
 (l:K.lookup f=some ⟨oc,od,.func (PySem.W.fnOf x x (U0 st) (E5 st) (g8 st) .none kV doc pm an cdv ct),osl⟩) (c:PySem.W.codeIn K cdv x=true) (k:PySem.W.keepIn K (.ref f)=true):b6o K y x st:=⟨_,_,a,b3W l c k⟩
theorem b6o.to{K:AE}{h:Heap}{mg:Str->Option AA}{y x:Str}{st:Stmt}(d:b6o K y x st)(X:K.In h)(G:h.Ns mainGlobals mg):DfA K mg y x st:=let ⟨f,fd,a,F⟩:=d;⟨f,fd,F,PySem.W.mg_of X G a⟩
theorem a8L{P:AK}{w:AJ}{K:AE}{mg:Str->Option AA}{base:Heap}{y x:Str}{st:Stmt}{N ps:List Str}{k:Nat}{m:MS}(D:DfA K mg y x st)(S:j8 N ps (g8 st))
 (hi:∀(kV doc pm:AA) (an:Option AB) (cdv ct:AA) (us:List AA),us.length=ps.length->bindArgs (PySem.W.fnOf x x (U0 st) (E5 st) (g8 st) .none kV doc pm an cdv ct) ⟨us,[]⟩=pure (ps.zip us))
 (hb:∀(f:AB) (cdv:AA) (A:AL) (outer:List Env) (s:AC) (H:Hp) (E:XK),R9 k (A.deeper (envOfC x (g8 st) s.heap.objs.size f cdv))->ESs (a5H CX0 P w K mg base N x (g8 st) f cdv A outer s H E).nox (E5 st) m):
 i8 P w K mg base y ps (k+1) (k9 (N.length - ps.length) m):=
 let ⟨f,fd,F,hm⟩:=D
 ⟨f,fd,b6Y F S (hb f),hm,F.kp,F.binds hi⟩
theorem b0p:typeLookup (.type "tuple") (dunderI "add")=pure none:=by rw [typeLookup_type,builtinLookup_eq_fast];kernel_rfl
theorem b7e{prog:AK}{w:AJ}{A:AL}{E:AA->AC->Prop}{s:AC}{t b:AB}{vs ws:List AA}{Q:AA->AC->Prop}(ht:IsTup s.heap t vs.toArray)(hb:IsTup s.heap b ws.toArray)
 (h0:vs=[]->Q (.ref b) s) (h1:vs≠[]->ws=[]->Q (.ref t) s) (h2:vs≠[]->ws≠[]->Q (.ref s.heap.objs.size) {s with heap:=s.heap.push {cls:= .type "tuple",data:= .seq (vs++ws).toArray}})
 (hsz:vs.length+ws.length<=AU):AI (model prog w) A (inplaceOp .Add (.ref t) (.ref b)) Q E s:=by
 obtain⟨⟨cls,dd,data,sl⟩,ho,hc,n,hd⟩:=id ht
 obtain⟨⟨cls2,dd2,data2,sl2⟩,ho2,hc2,n2,hd2⟩:=id hb
 simp only at hc hd hc2 hd2
 subst hc hd hc2 hd2
 refine wpAny_inplaceOp_concat (T:="tuple") ⟨_,ho,rfl⟩ ⟨_,ho2,rfl⟩ b0p noFill_tuple_add seq_tuple_add ?_
 by_cases hv:vs=[]
 ·exact call_meets PySem.F.slot_tuple_add ⟨_,ho,rfl⟩ PySem.F.entry_tuple_add (PySem.F.args_tuple_add_2 _ _) (tuple_addW0 t b vs.toArray ws.toArray n n2 dd dd2 sl sl2 (by simp [hv])) ⟨ho,ho2,h0 hv⟩
 ·by_cases hw:ws=[]
  ·exact call_meets PySem.F.slot_tuple_add ⟨_,ho,rfl⟩ PySem.F.entry_tuple_add (PySem.F.args_tuple_add_2 _ _) (tuple_addW1 t b vs.toArray ws.toArray n n2 dd dd2 sl sl2 (by simpa using hv) (by simp [hw])) ⟨ho,ho2,h1 hv hw⟩
  ·refine call_meets PySem.F.slot_tuple_add ⟨_,ho,rfl⟩ PySem.F.entry_tuple_add (PySem.F.args_tuple_add_2 _ _) (tuple_addW2 t b vs.toArray ws.toArray n n2 dd dd2 sl sl2 (by simpa using hv) (by simpa using hw) (by rw [Aj,Aj];exact hsz)) ⟨ho,ho2, ?_⟩
   rw [show vs.toArray++ws.toArray=(vs++ws).toArray by simp]
   exact h2 hv hw
def a9g(x y:f6):Option f6:=match x,y with
 | .val (.tuple ps),.val (.tuple qs)=>if ps.length+qs.length<=AU then some (.val (.tuple (ps++qs))) else none
 |_,_=>none
section
variable {X:Cx}
theorem b09:OpM X (inplaceOp .Add) a9g:=by
 intro pins s σ H x y v u Q I rx ry h
 obtain⟨F,ra,rb,rz,s0,h1,h2,h3,k⟩:=h
 unfold a9g at h3
 split at h3
 ·rename_i ps qs
  split at h3
  ·rename_i c
   cases h3
   obtain⟨a,xs,rfl,hq,r⟩:=id h1
   obtain⟨b,ys,rfl,hq',r'⟩:=id h2
   cases rx
   cases ry
   obtain⟨its,r1,p1,_⟩:=I.tuple (C4 s0 hq.sq)
   obtain⟨its2,r2,p2,_⟩:=I.tuple (C4 s0 hq'.sq)
   have hz:xs.length+ys.length<=AU:=by rw [r.length,r'.length];exact c
   refine b7e p1 p2 (fun z=> ?_) (fun _ z=> ?_) (fun z z2=> ?_) (by rw [<-r1.length,<-r2.length];exact hz)
   ·have e:xs=[]:=r1.nil_iff.mp z
    have e2:ps=[]:=List.length_eq_zero_iff.mp (by rw [<-r.length,e];rfl)
    refine⟨.ref b,H,I,rfl,k _ F H (C3.here s0 ?_)⟩
    subst e2
    exact h2
   ·have e:ys=[]:=r2.nil_iff.mp z
    have e2:qs=[]:=List.length_eq_zero_iff.mp (by rw [<-r'.length,e];rfl)
    refine⟨.ref a,H,I,rfl,k _ F H (C3.here s0 ?_)⟩
    subst e2
    rw [Ad]
    exact h1
   ·refine⟨.ref s.heap.objs.size,_,I.laid (t':=s.toks) (o:= .tup (xs++ys)) (fun b ob q=>An _ q) (AZ _) ?_,rfl,k _ _ _ (C3.tup s0 (I.hok.fresh (AZ _)) (r.append r'))⟩
    exact⟨by rw [AX];exact hz,_,r1.append r2,IsTup.new _ _⟩
  ·cases h3
 ·cases h3
abbrev a6G(is:List Int):List Int:=PyProof.Rows.firstMet (fun i=>is.getD i 0) is.length
abbrev b6v(P:AK)(w:AJ)(h:Heap)(p:AB)(is:List Int):Prop:=h.SetOf (intKind P w) p (fun k'=>(a6G is).any (· ==k')) (a6G is).length
theorem b3H:∀{is:List Int} {its:List AA},t7 (is.map V.int) its->PyProof.Rows.IntsAre its is
 |[],_,.nil=> .nil
 |z::zs,_,.cons r t=>by obtain⟨u,rfl⟩:=r;exact .cons z u (b3H t)
def c2k(X:Cx):List V->Hp->VK->Prop:=fun xs H Q=>∃(a:AB) (is:List Int),xs=[.ref a]/\H a=some (.lst (is.map V.int))/\is.length+1<4096/\∀p,H p=none->Q (.ref p) (upd H p (.ext fun h=>b6v X.prog X.w h p is))
theorem b5L(hc:X.calm=true):O7 X (.type "set") (c2k X):=by
 intro pins s σ H xs us Q I rv h
 obtain⟨a,is,rfl,ha,hz,q⟩:=h
 obtain⟨u,rfl,ru⟩:=a5Y rv
 cases ru
 obtain⟨_,its,n,vv,e⟩:=(show R3 X.prog X.w H s.heap a (.lst (is.map V.int)) from I.hok a _ ha)
 have hsz:its.toArray.size=is.length:=by rw [Aj,<-vv.length,Ae]
 refine PySem.call_set_list (l:=a) (items:=its.toArray) (ns:=is) (I.ok.hd hc) ⟨_,e,rfl,n,rfl⟩ (b3H vv) (by rw [hsz];unfold scanBound;exact hz) fun h' tk hS hk=> ?_
 rw [hsz] at hS
 refine⟨.ref s.heap.objs.size,_,I.laid (a:=s.heap.objs.size) (t':=tk) (o:= .ext fun h=>b6v X.prog X.w h s.heap.objs.size is) (fun b o e=>hk b o (Ag e) e) (AZ _) ⟨hS, ?_, ?_⟩,rfl,q _ (I.hok.fresh (AZ _))⟩
 ·obtain⟨o,_,_,_,ho,_⟩:=hS;exact⟨o,ho⟩
 ·intro h1 h2 p k
  obtain⟨o,es,ep,t,ho,r⟩:=p
  exact⟨o,es,ep,t,k _ ho,r⟩
def c2j(X:Cx):List V->Hp->VK->Prop:=fun xs H Q=>∃p is,xs=[.ref p]/\H p=some (.ext fun h=>b6v X.prog X.w h p is)/\Q (.int (a6G is).length) H
theorem b5J:O7 X (.builtin "len") (c2j X):=by
 intro pins s σ H xs us Q I rv h
 obtain⟨p,is,rfl,hp,q⟩:=h
 obtain⟨u,rfl,ru⟩:=a5Y rv
 cases ru
 obtain⟨hS,_,_⟩:=(show R3 X.prog X.w H s.heap p (.ext fun h=>b6v X.prog X.w h p is) from I.hok p _ hp)
 obtain⟨o,es,ep,t,ho,hex,hd,_,_,hb,hf,hn⟩:=hS
 have hb':es.size<4096:=hb
 refine call_len_set ho hex hd hf (by lia) ⟨.int es.size,H,I.tok _,⟨_,rfl⟩, ?_⟩
 rw [hn]
 exact q
def a4F(x:f6):Option f6:=match x with
 | .ow (.lst ps)=>(a4M ps).bind fun is=>if is.length+1<4096 then some (.val (.int (a6G is).length)) else none
 |_=>none
theorem a89{e:AF}{m:M}{p p2 pos pos2:Pos}(hc:X.calm=true)(hg:Gl X "len")(hm:X.mg "len"=none)(hg2:Gl X "set")(hm2:X.mg "set"=none)(ha:EE X e m)
 (hv:bootBuiltins "len"=some (.builtin "len"):=by rfl) (hv2:bootBuiltins "set"=some (.type "set"):=by rfl)
 (hs:AM [e] X.env=(false,eval e X.env)::AM [] X.env:=by rfl) (hpl:(backTo pos2 (AM [] X.env)).any (·.1)=false:=by rfl)
 (hs2:AM [.Call (.Name "set" p2) [e] [] pos2] X.env=(false,eval (.Call (.Name "set" p2) [e] [] pos2) X.env)::AM [] X.env:=by rfl) (hpl2:(backTo pos (AM [] X.env)).any (·.1)=false:=by rfl):
 EE X (.Call (.Name "len" p) [.Call (.Name "set" p2) [e] [] pos2] [] pos) (m1 a4F m):=
 J4 (a4V b5J hg hm hv (J7 (b1a (b5L hc) hg2 hm2 hv2 (J7 ha a0K hs) (by decide) (by decide) hs hpl) a0K hs2) (by decide) (by decide) hs2 hpl2) fun σ H Q ⟨F,ρ,r,en,em,k⟩=>by
  obtain⟨rx,e1,e2⟩:=bind_some em
  refine⟨F,ρ,rx,en,e1,fun v F1 H1 o1=> ?_⟩
  unfold a4F at e2
  split at e2
  ·rename_i ps
   obtain⟨is,e3,e2⟩:=bind_some e2
   split at e2
   ·rename_i c
    cases e2
    obtain⟨a,xs,rfl,fa,ha',rl⟩:=o1.rep
    have ex:=a9l e3 rl
    subst ex
    refine⟨a,is,rfl,ha',c,fun p hp=> ?_⟩
    refine⟨p,is,rfl,w4, ?_⟩
    have x1:Ext F1 H1 F1 (upd H1 p (.ext fun h=>b6v X.prog X.w h p is)):=Ext.layH o1.x.fh hp
    exact k _ F1 _ (C3.trans o1.x (C3.val x1 rfl))
   ·cases e2
  ·cases e2
end
section
variable {X:Cx}
end
section
open PySem.AutoSeq1 (wpAny_loadPart')
open PySem.MeetsSeq3 (plain_eq_loop entry_eq_loop)
theorem b54(l b:AB)(xs ys:Array AA)(n n2:Nat)(dd dd2:Option AB)(sl sl2:Array (Option AA))(e:Nat->Bool)(c:Bool)(k:Nat):
 ∀i:Nat,min xs.size ys.size - i=k->i<=min xs.size ys.size->(∀j,j<i->e j=true)->Meets (Builtin.«list.__eq__.loop» ⟨[.ref l,.ref b,rawInt i,rawInt 0],[]⟩)
  (fun A R s=>s.heap.get? l=some {cls:= .type "list",dict:=dd,data:= .seq xs n,slots:=sl}/\s.heap.get? b=some {cls:= .type "list",dict:=dd2,data:= .seq ys n2,slots:=sl2}/\
   (∀j (h1:j<xs.size) (h2:j<ys.size),SeqAt.EqAt A.in1 s xs[j] ys[j] (e j))/\(∀j (h1:j<xs.size) (h2:j<ys.size),(∀k,k<j->e k=true)->e j=false->a8X A.in1 s xs[j] ys[j] c)/\
   ((∀k,k<min xs.size ys.size->e k=true)->c=decide (xs.size<ys.size))/\R (.ok (.ret (.bool c))) s):=by
 induction k with
 |zero=>
  intro i hk hi hb4 prog w A R s h
  obtain⟨hp,g,d,tk,os⟩:=s;obtain⟨hl,hb,he,hlt,hce,h⟩:=h
  have hce':=hce fun k hk'=>hb4 k (by lia)
  wp_walk using wpAny_loadPart' hl,wpAny_loadPart' hb
  rcases Nat.lt_or_ge i xs.size with h1|h1
  ·have h2:ys.size<=i:=by lia
   have hi1:xs[((i:Nat):Int).toNat]?=some xs[i]:=by simp [h1]
   have hi2:ys[((i:Nat):Int).toNat]?=none:=by simp;lia
   rw [hi1,hi2]
   wp_walk using wpAny_loadPart' hl,wpAny_loadPart' hb
   show R (.ok (.ret (.bool (decide (xs.size<ys.size))))) _
   rw [<-hce'];exact h
  ·have hi1:xs[((i:Nat):Int).toNat]?=none:=by simp;lia
   rw [hi1]
   wp_walk using wpAny_loadPart' hl,wpAny_loadPart' hb
   show R (.ok (.ret (.bool (decide (xs.size<ys.size))))) _
   rw [<-hce'];exact h
 |succ k ih=>
  intro i hk hi hb4 prog w A R s h
  obtain⟨hp,g,d,tk,os⟩:=s;obtain⟨hl,hb,he,hlt,hce,h⟩:=h
  wp_walk using wpAny_loadPart' hl,wpAny_loadPart' hb
  have h1:i<xs.size:=by lia
  have h2:i<ys.size:=by lia
  have hi1:xs[((i:Nat):Int).toNat]?=some xs[i]:=by simp [h1]
  have hi2:ys[((i:Nat):Int).toNat]?=some ys[i]:=by simp [h2]
  have hc:((i:Int)+1)=((i+1:Nat):Int):=by push_cast;rfl
  rw [hi1,hi2]
  refine AG (he i h1 h2 prog w _ _ ?_)
  cases hq:e i with
  |true=>
   wp_walk
   rw [hc]
   exact⟨plainId_quiet plain_eq_loop _,codeAny_builtin entry_eq_loop (by
    rw [Around.under_plainId plain_eq_loop _]
    exact ih (i+1) (by lia) (by lia) (fun j hj=>by
     rcases Nat.lt_or_ge j i with h'|h'
     ·exact hb4 j h'
     ·rw [show j=i by lia];exact hq) prog w A R _ ⟨hl,hb,he,hlt,hce,h⟩)⟩
  |false=>
   have hl3:=hlt i h1 h2 hb4 hq
   wp_walk using wpAny_loadPart' hl,wpAny_loadPart' hb
   rw [hi1,hi2]
   show AI _ A.in1 (richCompare .Lt xs[i] ys[i]>>=fun v=>ret v) _ _ _
   refine AG (hl3 prog w _ _ ?_)
   exact Aa h
theorem b0m(l b:AB)(xs ys:Array AA)(n n2:Nat)(dd dd2:Option AB)(sl sl2:Array (Option AA))(e:Nat->Bool)(c:Bool):
 Meets (Builtin.«list.__lt__» ⟨[.ref l,.ref b],[]⟩)
  (fun A R s=>s.heap.get? l=some {cls:= .type "list",dict:=dd,data:= .seq xs n,slots:=sl}/\s.heap.get? b=some {cls:= .type "list",dict:=dd2,data:= .seq ys n2,slots:=sl2}/\
   (∀j (h1:j<xs.size) (h2:j<ys.size),SeqAt.EqAt A.in1 s xs[j] ys[j] (e j))/\(∀j (h1:j<xs.size) (h2:j<ys.size),(∀k,k<j->e k=true)->e j=false->a8X A.in1 s xs[j] ys[j] c)/\
   ((∀k,k<min xs.size ys.size->e k=true)->c=decide (xs.size<ys.size))/\R (.ok (.ret (.bool c))) s):=by
 intro prog w A R s h
 obtain⟨hp,g,d,tk,os⟩:=s;obtain⟨hl,hb,he,hlt,hce,h⟩:=h
 have f3:=AutoSeq1.sub_list_list
 wp_walk using wpAny_loadPart' hl,wpAny_loadPart' hb
 exact⟨plainId_quiet plain_eq_loop _,codeAny_builtin entry_eq_loop (by
  rw [Around.under_plainId plain_eq_loop _]
  exact b54 l b xs ys n n2 dd dd2 sl sl2 e c _ 0 rfl (Nat.zero_le _) (fun j hj=>by lia) prog w A R _ ⟨hl,hb,he,hlt,hce,h⟩)⟩
variable {A:AL}{s:AC}
theorem a8X.lists{l b:AB}{xs ys:Array AA}{e:Nat->Bool}{c:Bool}(hl:s.heap.IsList l xs)(hb:s.heap.IsList b ys)(hu:A.units<cLine)
 (he:∀j (h1:j<xs.size) (h2:j<ys.size),SeqAt.EqAt A.in1 s xs[j] ys[j] (e j)) (hlt:∀j (h1:j<xs.size) (h2:j<ys.size),(∀k,k<j->e k=true)->e j=false->a8X A.in1 s xs[j] ys[j] c)
 (hce:(∀k,k<min xs.size ys.size->e k=true)->c=decide (xs.size<ys.size)):a8X A s (.ref l) (.ref b) c:=fun prog w E Q h=>by
 obtain⟨⟨c1,d1,t1,s1⟩,o1,e1,n1,k1⟩:=id hl
 obtain⟨⟨c2,d2,t2,s2⟩,o2,e2,n2,k2⟩:=id hb
 simp only at e1 k1 e2 k2
 subst e1 k1 e2 k2
 exact richCompare_meets_room (op:= .Lt) ⟨_,o1,rfl⟩ ⟨_,o2,rfl⟩ PySem.F.slot_list_lt PySem.F.entry_list_lt (PySem.F.args_list_lt_2 _ _) (b0m l b xs ys n1 n2 d1 d2 s1 s2 e c)
  ⟨o1,o2,he,hlt,hce,show Value.bool c≠Value.notImplemented/\Q (.bool c) s from⟨(fun x=>nomatch x),h⟩⟩ hu
end
abbrev PtL:=List (Int×Int)
def plv(p:Int×Int):PV:= .tuple [.int p.1,.int p.2]
def llv(L:PtL):PV:= .list (L.map plv)
section
variable {X:Cx}{pins:List (AB×Obj)}{σ:L2.St}{H:Hp}{s:AC}
def Gd(X:Cx)(H:Hp)(v:AA)(L:PtL):Prop:=∃x,A4 x v/\U6 X.K H (llv L) x
theorem b9n{p q:Int×Int}(h:plv p=plv q):p=q:=by
 unfold plv at h
 injection h with h
 injection h with h1 h
 injection h with h2 _
 injection h1 with h1
 injection h2 with h2
 exact Prod.ext h1 h2
theorem b85{L M:PtL}(h:llv L=llv M):L=M:=by
 unfold llv at h
 injection h with h
 exact List.map_inj_right (fun _ _=>b9n)|>.mp h
theorem Gd.uniq(I:l8 X pins σ H s){v:AA}{L M:PtL}(h:Gd X H v L)(g:Gd X H v M):L=M:=by
 obtain⟨x,r,h⟩:=h
 obtain⟨y,t,g⟩:=g
 obtain⟨a,xs,rfl,h1,h2⟩:=id h
 obtain⟨b,ys,rfl,g1,g2⟩:=id g
 cases r
 cases t
 exact b85 (U6.inj I _ _ h g)
end
section
variable {X:Cx}
end
section
variable {X:Cx}
end
def b0z(H:Hp)(b:AB)(xs:List V)(n:Nat):Prop:=∃e:List V,e.length<=n/\H b=some (.lst (xs++e))
theorem b0z.same{H H':Hp}{b:AB}{xs:List V}{n:Nat}(g:b0z H b xs n)(s:p5 H H'):b0z H' b xs n:=let ⟨e,l,h⟩:=g;⟨e,l,s _ _ h⟩
structure Pk(K:AE)(H:Hp)(ah a0 a3 b1 b2 b3:AB)(z0 z3 y1 y2 y3:List V)(J:Hp)(n:Nat):Prop where
 t0:SqT K J a0 z0
 t3:SqT K J a3 z3
 g1:b0z J b1 y1 n
 g2:b0z J b2 y2 n
 g3:b0z J b3 y3 n
 o:∀c u,c≠ah->H c=some u->J c=some u
section
variable {K:AE}{H J J':Hp}{ah a0 a3 b1 b2 b3 c:AB}{z0 z3 y1 y2 y3:List V}{n:Nat}
theorem Pk.same(p:Pk K H ah a0 a3 b1 b2 b3 z0 z3 y1 y2 y3 J n)(s:p5 J J'):Pk K H ah a0 a3 b1 b2 b3 z0 z3 y1 y2 y3 J' n:=
 ⟨C4 s p.t0,C4 s p.t3,p.g1.same s,p.g2.same s,p.g3.same s,fun c u h q=>s _ _ (p.o c u h q)⟩
end
section
variable {X:Cx}
end
section
variable {X:Cx}
end
section
variable {X:Cx}
end
end PU
set_option maxHeartbeats 4000000
namespace LW
open PySem PySem.Spec PyProof.Rows L2 PU
def Q8:PV:=(.int 24)
def a0t:PV:=(.int 4)
def L6:PV:=(.int 12)
def a6x:MS:=
 (t6 (m2 (gIc (fun _ j=>0<j) fun i j=> .int (i % j)) (m2 V0 (m2 u7 (m2 (gIc (fun _ j=>0<j) fun i j=> .int (i % j)) (b7 0) (mC (.int 2147483629))) (mC (.int 48611))) (mC (.int 69621))) (mC (.int 2147483629))))
def B4:List PV->Option f6:=k9 0 a6x
def a0g(y0:List PV->Option f6):M:=
 (m2 m9 (b7 2) (mC (.int 1)))
def a0h(y0:List PV->Option f6):M:=
 (k4 y0 (b0 (m2 m9 (b7 2) (mC (.int 2))) f8))
def D7(y0:List PV->Option f6):MS:=
 (A2 (K5 (m2 gEq (m2 m9 (b7 2) (mC (.int 0))) (mC (.str "run")))) (A1 1 (m2 M5 (mC (.str "")) (a4f 1 (a1z (b0 (m2 m9 (b7 2) (mC (.int 2))) f8)) (k7 3) a4R (a0g y0)))) (A1 1 (m2 M5 (mC (.str "")) (a4f 1 (a1z (b0 (m2 m9 (b7 2) (mC (.int 1))) f8)) (k7 3) a4R (a0h y0)))))
def Z4(y0:List PV->Option f6):MS:=
 (l6 (v0 1 (a1s f8))
 (l6 (a1r (T3 (b7 0)) (k7 2) (D7 y0))
 (t6 (m2 M5 (mC (.str "")) (b7 1)))))
def a4j:Nat->(List PV->Option f6)
 |0=>(k9 2 (fun _=>none))
 |n+1=>(k9 2 (Z4 ((a4j n))))
def P4(n:Nat):List PV->Option f6:=(a4j n)
def B5:List PV->Option f6:=P4 16
def L4(a0z:List PV->Option f6):MS:=
 (A2 (K5 (m2 (gI fun i j=> .bool (decide (j<i))) (b7 5) (mC (.int 0)))) (l6 (v0 1 (m2 u7 (b7 1) (mC (.int 1))))
 (l6 (v0 8 (k4 B4 (b0 (m2 u7 (m2 m9 (b7 0) (m2 (gIc (fun _ j=>0<j) fun i j=> .int (i % j)) (b7 1) (m1 G3 (b7 0)))) (m2 V0 (mC (.int 5)) (b7 1))) f8)))
 (A2 (a4g (K5 (m2 (gI fun i j=> .bool (decide (j<i))) (b7 3) (mC (.int 0)))) (a4g (K5 (m2 (gI fun i j=> .bool (decide (j<i))) (b7 5) (mC (.int 1)))) (K5 (m2 gEq (m2 (gIc (fun _ j=>0<j) fun i j=> .int (i % j)) (b7 8) (mC (.int 3))) (mC (.int 0)))))) (l6 (v0 9 (m2 u7 (mC (.int 2)) (m2 (gIc (fun _ j=>0<j) fun i j=> .int (i % j)) (m2 (gIc a1A fun i j=> .int (i / j)) (b7 8) (mC (.int 3))) (m2 (gI fun i j=> .int (if j<i then j else i)) (mC (.int 3)) (m2 (gI fun i j=> .int (i - j)) (b7 5) (mC (.int 1)))))))
 (l6 (b87 [10,1] (k4 a0z (b0 (b7 0) (b0 (m2 u7 (b7 1) (mC (.int 1))) (b0 (m2 (gIc a1A fun i j=> .int (i / j)) (b7 5) (b7 9)) (b0 (m2 (gI fun i j=> .int (i - j)) (b7 3) (mC (.int 1))) f8))))))
 (l6 (A1 4 (U2 (b0 (mC (.str "again")) (b0 (b7 9) (b0 (b7 10) f8)))))
 (v0 5 (m2 (gI fun i j=> .int (i - j)) (b7 5) (m2 V0 (b7 9) (m1 G3 (k4 B5 (b0 (b7 10) f8))))))))) (l6 (v0 9 (m2 u7 (mC (.int 1)) (m2 (gIc (fun _ j=>0<j) fun i j=> .int (i % j)) (m2 (gIc a1A fun i j=> .int (i / j)) (b7 8) (mC (.int 3))) (m2 (gI fun i j=> .int (if j<i then j else i)) (b7 5) (m2 u7 (mC (.int 3)) (m2 V0 (mC (.int 9)) (m2 (gIc a1A fun i j=> .int (i / j)) (m2 (gIc (fun _ j=>0<j) fun i j=> .int (i % j)) (m2 (gIc a1A fun i j=> .int (i / j)) (b7 8) (mC (.int 81))) (mC (.int 5))) (mC (.int 4)))))))))
 (l6 (A1 4 (U2 (b0 (mC (.str "run")) (b0 (m2 m9 (mC (.str "abcxz")) (m2 (gIc (fun _ j=>0<j) fun i j=> .int (i % j)) (m2 (gIc a1A fun i j=> .int (i / j)) (b7 8) (mC (.int 405))) (mC (.int 5)))) (b0 (b7 9) f8)))))
 (v0 5 (m2 (gI fun i j=> .int (i - j)) (b7 5) (b7 9)))))))) u5)
def a3B(a0z:List PV->Option f6):MS:=
 (l6 (v0 4 (a1s f8))
 (l6 (v0 5 (b7 2))
 (l6 (v0 6 (m2 u7 (mC (.int 1)) (m2 (gIc (fun _ j=>0<j) fun i j=> .int (i % j)) (k4 B4 (b0 (m2 u7 (m2 m9 (b7 0) (m2 (gIc (fun _ j=>0<j) fun i j=> .int (i % j)) (b7 1) (m1 G3 (b7 0)))) (b7 1)) f8)) (mC (.int 4)))))
 (l6 (a1r (a1z (b0 (b7 6) f8)) (k7 7) (L4 a0z))
 (a7J 4 (t6 (U2 (b0 (b7 4) (b0 (b7 1) f8)))))))))
def a8h:Nat->(List PV->Option f6)
 |0=>(k9 7 (fun _=>none))
 |n+1=>(k9 7 (a3B ((a8h n))))
def N8(n:Nat):List PV->Option f6:=(a8h n)
def a6e:List PV->Option f6:=N8 6
def a5R:MS:=
 (l6 (A2 (K5 (m2 b1A (b7 1) (m1 G3 (b7 0)))) (t6 (m2 m9 (b7 0) (b7 1))) u5)
 (t6 (mC (.int 0))))
def Q2:List PV->Option f6:=k9 0 a5R
def a74:MS:=
 (l6 (v0 3 (m2 u7 (T4 (b7 0) (I0 (b7 1)) a2e) (a1s (b0 (mC (.int 1)) f8))))
 (l6 (v0 4 (m2 m9 (a1s (b0 (b7 2) (b0 (b7 2) (b0 (m2 (gIc a1A fun i j=> .int (i / j)) (b7 2) (mC (.int 2))) (b0 (mC (.int 5)) f8))))) (m2 (gIc (fun _ j=>0<j) fun i j=> .int (i % j)) (m2 (gIc a1A fun i j=> .int (i / j)) (k4 B4 (b0 (k4 Q2 (b0 (b7 0) (b0 (b7 1) f8))) f8)) (mC (.int 4))) (mC (.int 4)))))
 (a7J 3 (t6 (m2 m9 (k4 a6e (b0 (b7 3) (b0 (mC (.int 0)) (b0 (b7 4) (b0 (mC (.int 3)) f8))))) (mC (.int 0)))))))
def a08:List PV->Option f6:=k9 2 a74
def B7:MS:=
 (A2 (a4g (K5 (m2 gNe (b7 1) (a1s f8))) (K5 (m2 gEq (m2 m9 (m2 m9 (b7 1) (b7q (mC (.int 1)))) (mC (.int 1))) (b7 2)))) (b4b 1 (b7q (mC (.int 1))) (U2 (b0 (mC (.str "run")) (b0 (b7 2) (b0 (m2 u7 (m2 m9 (m2 m9 (b7 1) (b7q (mC (.int 1)))) (mC (.int 2))) (mC (.int 1))) f8))))) (A1 1 (U2 (b0 (mC (.str "run")) (b0 (b7 2) (b0 (mC (.int 1)) f8))))))
def b0C:MS:=
 (l6 (v0 1 (a1s f8))
 (l6 (a1r (a9t (b7 0)) (k7 2) B7)
 (a1f 1)))
def a3h:List PV->Option f6:=k9 2 b0C
def a0f:M:=
 (m2 m9 (b7 6) (m2 (gIc (fun _ j=>0<j) fun i j=> .int (i % j)) (b7 8) (m1 G3 (b7 6))))
def a0c:MS:=
 (l6 (v0 6 (k4 B5 (b0 (k4 a08 (b0 (b7 0) (b0 (m2 u7 (m2 u7 (b7 1) (mC (.int 7))) (m2 V0 (mC (.int 5)) (b7 5))) (b0 (mC (.int 12)) f8)))) f8)))
 (l6 (v0 7 (m2 M5 (mC (.str "")) (a4f 1 (a1z (b0 (m1 G3 (b7 3)) f8)) (k7 8) a4R a0f)))
 (A1 4 (U2 (b0 (b7 7) (b0 (k4 a3h (b0 (b7 7) f8)) f8))))))
def a75:MS:=
 (l6 (v0 2 (k4 a08 (b0 (b7 0) (b0 (b7 1) (b0 (mC (.int 12)) f8)))))
 (l6 (v0 3 (k4 B5 (b0 (b7 2) f8)))
 (l6 (v0 4 (a1s (b0 (U2 (b0 (b7 3) (b0 (b7 2) f8))) f8)))
 (l6 (a1r (a1z (b0 (m2 u7 (mC (.int 1)) (m2 (gIc (fun _ j=>0<j) fun i j=> .int (i % j)) (k4 B4 (b0 (k4 Q2 (b0 (b7 0) (b0 (m2 u7 (b7 1) (mC (.int 1))) f8))) f8)) (mC (.int 3)))) f8)) (k7 5) a0c)
 (a1f 4)))))
def a2w:List PV->Option f6:=k9 6 a75
def N1(G0:List PV->Option f6):MS:=
 (A2 (K5 (m2 gEq (m2 m9 (b7 2) (mC (.int 0))) (mC (.str "rows")))) (A1 1 (k4 B5 (b0 (m2 m9 (b7 2) (mC (.int 2))) f8))) (v0 1 (m2 u7 (b7 1) (m1 b1z (k4 G0 (b0 (m2 m9 (b7 2) (mC (.int 2))) f8))))))
def N2(G0:List PV->Option f6):MS:=
 (a1r (a1z (b0 (m2 m9 (b7 2) (mC (.int 1))) f8)) (k7 3) (N1 G0))
def a0W(G0:List PV->Option f6):MS:=
 (l6 (v0 1 (a1s f8))
 (l6 (a1r (T3 (b7 0)) (k7 2) (N2 G0))
 (t6 (m1 b1D (b7 1)))))
def a4X:Nat->(List PV->Option f6)
 |0=>(k9 3 (fun _=>none))
 |n+1=>(k9 3 (a0W ((a4X n))))
def M7(n:Nat):List PV->Option f6:=(a4X n)
def K9:List PV->Option f6:=M7 16
def C6(P9:List PV->Option f6):MS:=
 (A2 (K5 (m2 (gI fun i j=> .bool (decide (j<i))) (b7 6) (mC (.int 0)))) (l6 (v0 1 (m2 u7 (b7 1) (mC (.int 1))))
 (l6 (v0 9 (k4 B4 (b0 (m2 u7 (m2 m9 (b7 0) (m2 (gIc (fun _ j=>0<j) fun i j=> .int (i % j)) (b7 1) (m1 G3 (b7 0)))) (m2 V0 (mC (.int 7)) (b7 1))) f8)))
 (A2 (a4g (K5 (m2 (gI fun i j=> .bool (decide (j<i))) (b7 3) (mC (.int 0)))) (a4g (K5 (m2 (gI fun i j=> .bool (decide (j<i))) (b7 6) (mC (.int 1)))) (K5 (m2 gEq (m2 (gIc (fun _ j=>0<j) fun i j=> .int (i % j)) (b7 9) (mC (.int 3))) (mC (.int 0)))))) (l6 (v0 10 (m2 u7 (mC (.int 2)) (m2 (gIc (fun _ j=>0<j) fun i j=> .int (i % j)) (m2 (gIc a1A fun i j=> .int (i / j)) (b7 9) (mC (.int 3))) (m2 (gI fun i j=> .int (if j<i then j else i)) (mC (.int 3)) (m2 (gI fun i j=> .int (i - j)) (b7 6) (mC (.int 1)))))))
 (l6 (b87 [11,1] (k4 P9 (b0 (b7 0) (b0 (m2 u7 (b7 1) (mC (.int 1))) (b0 (m2 (gIc a1A fun i j=> .int (i / j)) (b7 6) (b7 10)) (b0 (m2 (gI fun i j=> .int (i - j)) (b7 3) (mC (.int 1))) (b0 (b7 4) f8)))))))
 (l6 (A1 5 (U2 (b0 (mC (.str "again")) (b0 (b7 10) (b0 (b7 11) f8)))))
 (v0 6 (m2 (gI fun i j=> .int (i - j)) (b7 6) (m2 V0 (b7 10) (m1 G3 (k4 K9 (b0 (b7 11) f8))))))))) (l6 (v0 10 (m2 u7 (mC (.int 1)) (m2 (gIc (fun _ j=>0<j) fun i j=> .int (i % j)) (m2 (gIc a1A fun i j=> .int (i / j)) (b7 9) (mC (.int 3))) (m2 (gI fun i j=> .int (if j<i then j else i)) (b7 6) (m2 u7 (mC (.int 3)) (m2 V0 (mC (.int 9)) (m2 (gIc a1A fun i j=> .int (i / j)) (m2 (gIc (fun _ j=>0<j) fun i j=> .int (i % j)) (m2 (gIc a1A fun i j=> .int (i / j)) (b7 9) (mC (.int 81))) (mC (.int 4))) (mC (.int 3)))))))))
 (l6 (A1 5 (U2 (b0 (mC (.str "rows")) (b0 (b7 10) (b0 (m2 m9 (m2 m9 (b7 4) (m2 (gIc (fun _ j=>0<j) fun i j=> .int (i % j)) (m2 (gIc a1A fun i j=> .int (i / j)) (b7 9) (mC (.int 27))) (m1 G3 (b7 4)))) (mC (.int 1))) f8)))))
 (v0 6 (m2 (gI fun i j=> .int (i - j)) (b7 6) (b7 10)))))))) u5)
def a0X(P9:List PV->Option f6):MS:=
 (l6 (v0 5 (a1s f8))
 (l6 (v0 6 (b7 2))
 (l6 (v0 7 (m2 u7 (mC (.int 1)) (m2 (gIc (fun _ j=>0<j) fun i j=> .int (i % j)) (k4 B4 (b0 (m2 u7 (m2 m9 (b7 0) (m2 (gIc (fun _ j=>0<j) fun i j=> .int (i % j)) (b7 1) (m1 G3 (b7 0)))) (m2 V0 (mC (.int 3)) (b7 1))) f8)) (mC (.int 4)))))
 (l6 (a1r (a1z (b0 (b7 7) f8)) (k7 8) (C6 P9))
 (a7J 5 (t6 (U2 (b0 (b7 5) (b0 (b7 1) f8)))))))))
def a4Y:Nat->(List PV->Option f6)
 |0=>(k9 7 (fun _=>none))
 |n+1=>(k9 7 (a0X ((a4Y n))))
def D3(n:Nat):List PV->Option f6:=(a4Y n)
def a2V:List PV->Option f6:=D3 6
def a76:MS:=
 (l6 (v0 2 (k4 a2w (b0 (b7 0) (b0 (b7 1) f8))))
 (l6 (v0 3 (m2 m9 (a1s (b0 (mC (.int 24)) (b0 (mC (.int 12)) (b0 (mC (.int 6)) (b0 (mC (.int 5)) f8))))) (m2 (gIc (fun _ j=>0<j) fun i j=> .int (i % j)) (m2 (gIc a1A fun i j=> .int (i / j)) (k4 B4 (b0 (k4 Q2 (b0 (b7 0) (b0 (m2 u7 (b7 1) (mC (.int 2))) f8))) f8)) (mC (.int 3))) (mC (.int 4)))))
 (a7J 2 (t6 (m2 m9 (k4 a2V (b0 (m2 u7 (T4 (b7 0) (I0 (b7 1)) a2e) (a1s (b0 (mC (.int 4)) f8))) (b0 (mC (.int 0)) (b0 (b7 3) (b0 (mC (.int 2)) (b0 (b7 2) f8)))))) (mC (.int 0)))))))
def a2x:List PV->Option f6:=k9 2 a76
def T2(X7:List PV->Option f6):MS:=
 (A2 (K5 (m2 gEq (m2 m9 (b7 2) (mC (.int 0))) (mC (.str "again")))) (A1 1 (m2 u7 (m2 u7 (m2 u7 (mC (.str "(")) (k4 X7 (b0 (m2 m9 (b7 2) (mC (.int 2))) f8))) (mC (.str ")"))) (m1 b1C (m2 m9 (b7 2) (mC (.int 1)))))) (A2 (K5 (m2 gEq (m2 m9 (b7 2) (mC (.int 2))) (mC (.int 1)))) (A1 1 (m2 m9 (b7 2) (mC (.int 1)))) (A1 1 (m2 u7 (m2 m9 (b7 2) (mC (.int 1))) (m1 b1C (m2 m9 (b7 2) (mC (.int 2))))))))
def a2s(X7:List PV->Option f6):MS:=
 (l6 (v0 1 (a1s f8))
 (l6 (a1r (T3 (b7 0)) (k7 2) (T2 X7))
 (t6 (m2 M5 (mC (.str " ")) (b7 1)))))
def a63:Nat->(List PV->Option f6)
 |0=>(k9 2 (fun _=>none))
 |n+1=>(k9 2 (a2s ((a63 n))))
def a0b(n:Nat):List PV->Option f6:=(a63 n)
def a4I:List PV->Option f6:=a0b 16
def V2(a0A:List PV->Option f6):MS:=
 (l6 (v0 3 (mIf (K5 (m2 gEq (m2 m9 (b7 2) (mC (.int 0))) (mC (.str "rows")))) (m2 u7 (m2 u7 (mC (.str "[")) (k4 a4I (b0 (m2 m9 (b7 2) (mC (.int 2))) f8))) (mC (.str "]"))) (m2 u7 (m2 u7 (mC (.str "{")) (k4 a0A (b0 (m2 m9 (b7 2) (mC (.int 2))) f8))) (mC (.str "}")))))
 (l6 (A2 (K5 (m2 (gI fun i j=> .bool (decide (j<i))) (m2 m9 (b7 2) (mC (.int 1))) (mC (.int 1)))) (v0 3 (m2 u7 (b7 3) (m1 b1C (m2 m9 (b7 2) (mC (.int 1)))))) u5)
 (A1 1 (b7 3))))
def a3C(a0A:List PV->Option f6):MS:=
 (l6 (v0 1 (a1s f8))
 (l6 (a1r (T3 (b7 0)) (k7 2) (V2 a0A))
 (t6 (m2 M5 (mC (.str " ")) (b7 1)))))
def a8i:Nat->(List PV->Option f6)
 |0=>(k9 3 (fun _=>none))
 |n+1=>(k9 3 (a3C ((a8i n))))
def Y0(n:Nat):List PV->Option f6:=(a8i n)
def a16:List PV->Option f6:=Y0 16
def a1L:MS:=
 (a2d 4 (gI fun i j=> .int (i+j)) (mC (.int 1)))
def b0E:MS:=
 (l6 (v0 4 (b7 1))
 (l6 (O6 (a4g (K5 (m2 b1A (b7 4) (m1 G3 (b7 0)))) (K5 (a2Y a2R a2R (b7 2) (m2 m9 (b7 0) (b7 4)) (b7 3)))) a1L 4000)
 (a1f 4)))
def a7G:List PV->Option f6:=k9 1 b0E
def a5Q:MS:=
 (t6 (k4 a7G (b0 (b7 0) (b0 (b7 1) (b0 (mC (.str "0")) (b0 (mC (.str "9")) f8))))))
def Q1:List PV->Option f6:=k9 0 a5Q
def a77:MS:=
 (l6 (A2 (a1g (N4 (K5 (a2Y a2R a2R (mC (.int 1)) (m1 G3 (b7 0)) (mC a0t)))) (K5 (m2 gNe (k4 Q1 (b0 (b7 0) (b0 (mC (.int 0)) f8))) (m1 G3 (b7 0))))) (t6 (mC .none)) u5)
 (l6 (A2 (a4g (K5 (m2 gEq (m2 m9 (b7 0) (mC (.int 0))) (mC (.str "0")))) (K5 (m2 (gI fun i j=> .bool (decide (j<i))) (m1 G3 (b7 0)) (mC (.int 1))))) (t6 (mC .none)) u5)
 (t6 (m1 b4W (b7 0)))))
def a2y:List PV->Option f6:=k9 0 a77
def a29:MS:=
 (l6 (v0 3 (k4 a2y (b0 (b7 0) f8)))
 (l6 (A2 (a1g (K5 (m2 (a2Q false) (b7 3) (mC .none))) (N4 (K5 (a2Y a2R a2R (b7 1) (b7 3) (b7 2))))) (t6 (mC .none)) u5)
 (a1f 3)))
def G4:List PV->Option f6:=k9 1 a29
def a52:MS:=
 (l6 (v0 2 (k4 Q1 (b0 (b7 0) (b0 (b7 1) f8))))
 (l6 (A2 (K5 (m2 gEq (b7 2) (b7 1))) (t6 (U2 (b0 (mC (.int 1)) (b0 (b7 2) f8)))) u5)
 (l6 (v0 3 (k4 G4 (b0 (T4 (b7 0) (I0 (b7 1)) (I0 (b7 2))) (b0 (mC (.int 2)) (b0 (mC Q8) f8)))))
 (l6 (A2 (K5 (m2 (a2Q false) (b7 3) (mC .none))) (t6 (mC .none)) u5)
 (t6 (U2 (b0 (b7 3) (b0 (b7 2) f8))))))))
def v6:List PV->Option f6:=k9 2 a52
def b6E:MS:=
 (t6 (U2 (b0 (mC (.str "run")) (b0 (b7 0) (b0 (b7 1) f8)))))
def a9j:List PV->Option f6:=k9 0 b6E
def a0C(R_again_at o8 w6:List PV->Option f6):MS:=
 (l6 (A2 (K5 (m2 gEq (b7 2) (mC (.int 0)))) (t6 (mC .none)) u5)
 (l6 (v0 5 (k4 w6 (b0 (b7 0) (b0 (b7 1) (b0 (m2 (gI fun i j=> .int (i - j)) (b7 2) (mC (.int 1))) (b0 (b7 3) f8))))))
 (l6 (A2 (a1g (K5 (m2 (a2Q false) (b7 5) (mC .none))) (N4 (mtV (m3 B3 (b7 0) (b7 4) (m2 m9 (b7 5) (mC (.int 1))))))) (t6 (mC .none)) u5)
 (l6 (v0 6 (k4 v6 (b0 (b7 0) (b0 (m2 u7 (m2 m9 (b7 5) (mC (.int 1))) (mC (.int 1))) f8))))
 (l6 (A2 (a1g (K5 (m2 (a2Q false) (b7 6) (mC .none))) (K5 (m2 gEq (m2 m9 (b7 6) (mC (.int 0))) (mC (.int 1))))) (t6 (mC .none)) u5)
 (t6 (U2 (b0 (U2 (b0 (mC (.str "again")) (b0 (m2 m9 (b7 6) (mC (.int 0))) (b0 (m2 m9 (b7 5) (mC (.int 0))) f8)))) (b0 (m2 m9 (b7 6) (mC (.int 1))) f8)))))))))
def Z3(R_again_at o8 w6:List PV->Option f6):MS:=
 (l6 (A2 (mtV (m3 B3 (b7 0) (mC (.str "(")) (b7 1))) (t6 (k4 R_again_at (b0 (b7 0) (b0 (m2 u7 (b7 1) (mC (.int 1))) (b0 (b7 2) (b0 (mC (a8b "fold_part_at")) (b0 (mC (.str ")")) f8))))))) u5)
 (l6 (A2 (N4 (K5 (a2Y a2R a2R (mC (.str "a")) (T4 (b7 0) (I0 (b7 1)) (I0 (m2 u7 (b7 1) (mC (.int 1))))) (mC (.str "z"))))) (t6 (mC .none)) u5)
 (l6 (v0 3 (k4 v6 (b0 (b7 0) (b0 (m2 u7 (b7 1) (mC (.int 1))) f8))))
 (l6 (A2 (K5 (m2 (a2Q false) (b7 3) (mC .none))) (t6 (mC .none)) u5)
 (t6 (U2 (b0 (k4 a9j (b0 (m2 m9 (b7 0) (b7 1)) (b0 (m2 m9 (b7 3) (mC (.int 0))) f8))) (b0 (m2 m9 (b7 3) (mC (.int 1))) f8))))))))
def G1(R_again_at o8 w6:List PV->Option f6):MS:=
 (l6 (v0 5 (a1q [("fold_part_at",o8)] 3 (b0 (b7 0) (b0 (b7 1) (b0 (b7 2) f8)))))
 (l6 (A2 (K5 (m2 (a2Q false) (b7 5) (mC .none))) (t6 (mC .none)) u5)
 (l6 (A1 4 (m2 m9 (b7 5) (mC (.int 0))))
 (l6 (A2 (N4 (mtV (m3 B3 (b7 0) (mC (.str " ")) (m2 m9 (b7 5) (mC (.int 1)))))) (a7J 4 (t6 (U2 (b0 (b7 4) (b0 (m2 m9 (b7 5) (mC (.int 1))) f8))))) u5)
 (v0 1 (m2 u7 (m2 m9 (b7 5) (mC (.int 1))) (mC (.int 1))))))))
def a3D(R_again_at o8 w6:List PV->Option f6):MS:=
 (l6 (v0 4 (a1s f8))
 (O6 (mtV (mC (.bool true))) (G1 R_again_at o8 w6) 4000))
def C1:Nat->(List PV->Option f6)×(List PV->Option f6)×(List PV->Option f6)
 |0=>(k9 2 (fun _=>none),k9 1 (fun _=>none),k9 2 (fun _=>none))
 |n+1=>(k9 2 (a0C ((C1 n).1) ((C1 n).2.1) ((C1 n).2.2)),k9 1 (Z3 ((C1 n).1) ((C1 n).2.1) ((C1 n).2.2)),k9 2 (a3D ((C1 n).1) ((C1 n).2.1) ((C1 n).2.2)))
def S9(n:Nat):List PV->Option f6:=(C1 n).1
def A0(n:Nat):List PV->Option f6:=(C1 n).2.1
def a9i:List PV->Option f6:=A0 42
def N9(n:Nat):List PV->Option f6:=(C1 n).2.2
def a17:List PV->Option f6:=N9 42
def V1(a0x:List PV->Option f6):MS:=
 (A2 (K5 (m2 gEq (m2 m9 (b7 2) (mC (.int 0))) (mC (.str "run")))) (a2d 1 (gI fun i j=> .int (i+j)) (m2 m9 (b7 2) (mC (.int 2)))) (a2d 1 (gI fun i j=> .int (i+j)) (m2 V0 (m2 m9 (b7 2) (mC (.int 1))) (k4 a0x (b0 (m2 m9 (b7 2) (mC (.int 2))) f8)))))
def a3z(a0x:List PV->Option f6):MS:=
 (l6 (v0 1 (mC (.int 0)))
 (l6 (a1r (T3 (b7 0)) (k7 2) (V1 a0x))
 (a1f 1)))
def a8f:Nat->(List PV->Option f6)
 |0=>(k9 2 (fun _=>none))
 |n+1=>(k9 2 (a3z ((a8f n))))
def a1c(n:Nat):List PV->Option f6:=(a8f n)
def a6c:List PV->Option f6:=a1c 16
def a78:MX:=
 (a6S (b4e (N4 (mtV (m1 (a1I "str") (b7 0)))) (b23 "NoFold" (b0 (mC (.str "what is no text writes no fold")) f8)) (a5J u5))
 (a6S (a5J (v0 1 (k4 a17 (b0 (b7 0) (b0 (mC (.int 0)) (b0 (mC L6) (b0 (mC (a8b "fold_part_at")) f8)))))))
 (a6S (b4e (a1g (K5 (m2 (a2Q false) (b7 1) (mC .none))) (a1g (K5 (m2 gNe (m2 m9 (b7 1) (mC (.int 1))) (m1 G3 (b7 0)))) (K5 (m2 (gI fun i j=> .bool (decide (j<i))) (k4 a6c (b0 (m2 m9 (b7 1) (mC (.int 0))) f8)) (mC Q8))))) (b23 "NoFold" (b0 (mC (.str "the text writes no fold of a line")) f8)) (a5J u5))
 (a5J (t6 (m2 m9 (b7 1) (mC (.int 0))))))))
def N7:List PV->Option (f6 ⊕ XT):=b6i 1 a78
def b0D:MS:=
 (l6 (v0 2 (m3 b0P (b7 0) (mC (.str "]")) (b7 1)))
 (l6 (A2 (K5 (m2 b1A (b7 2) (mC (.int 0)))) (t6 (mC .none)) u5)
 (l6 (a9u (a4h 3 N7 (b0 (T4 (b7 0) (I0 (b7 1)) (I0 (b7 2))) f8)) (inL ["NoFold"]) (t6 (mC .none)))
 (l6 (v0 4 (k4 v6 (b0 (b7 0) (b0 (m2 u7 (b7 2) (mC (.int 1))) f8))))
 (l6 (A2 (K5 (m2 (a2Q false) (b7 4) (mC .none))) (t6 (mC .none)) u5)
 (t6 (U2 (b0 (U2 (b0 (mC (.str "rows")) (b0 (m2 m9 (b7 4) (mC (.int 0))) (b0 (b7 3) f8)))) (b0 (m2 m9 (b7 4) (mC (.int 1))) f8)))))))))
def a3i:List PV->Option f6:=k9 3 b0D
def X8(R_again_atW v4 m5:List PV->Option f6):MS:=
 (l6 (A2 (K5 (m2 gEq (b7 2) (mC (.int 0)))) (t6 (mC .none)) u5)
 (l6 (v0 5 (k4 v4 (b0 (b7 0) (b0 (b7 1) (b0 (m2 (gI fun i j=> .int (i - j)) (b7 2) (mC (.int 1))) (b0 (b7 3) f8))))))
 (l6 (A2 (a1g (K5 (m2 (a2Q false) (b7 5) (mC .none))) (N4 (mtV (m3 B3 (b7 0) (b7 4) (m2 m9 (b7 5) (mC (.int 1))))))) (t6 (mC .none)) u5)
 (l6 (v0 6 (k4 v6 (b0 (b7 0) (b0 (m2 u7 (m2 m9 (b7 5) (mC (.int 1))) (mC (.int 1))) f8))))
 (l6 (A2 (a1g (K5 (m2 (a2Q false) (b7 6) (mC .none))) (K5 (m2 gEq (m2 m9 (b7 6) (mC (.int 0))) (mC (.int 1))))) (t6 (mC .none)) u5)
 (t6 (U2 (b0 (U2 (b0 (mC (.str "again")) (b0 (m2 m9 (b7 6) (mC (.int 0))) (b0 (m2 m9 (b7 5) (mC (.int 0))) f8)))) (b0 (m2 m9 (b7 6) (mC (.int 1))) f8)))))))))
def D4(R_again_atW v4 m5:List PV->Option f6):MS:=
 (l6 (v0 5 (a1q [("weaving_part_at",m5)] 3 (b0 (b7 0) (b0 (b7 1) (b0 (b7 2) f8)))))
 (l6 (A2 (K5 (m2 (a2Q false) (b7 5) (mC .none))) (t6 (mC .none)) u5)
 (l6 (A1 4 (m2 m9 (b7 5) (mC (.int 0))))
 (l6 (A2 (N4 (mtV (m3 B3 (b7 0) (mC (.str " ")) (m2 m9 (b7 5) (mC (.int 1)))))) (a7J 4 (t6 (U2 (b0 (b7 4) (b0 (m2 m9 (b7 5) (mC (.int 1))) f8))))) u5)
 (v0 1 (m2 u7 (m2 m9 (b7 5) (mC (.int 1))) (mC (.int 1))))))))
def a2t(R_again_atW v4 m5:List PV->Option f6):MS:=
 (l6 (v0 4 (a1s f8))
 (O6 (mtV (mC (.bool true))) (D4 R_again_atW v4 m5) 4000))
def R4(R_again_atW v4 m5:List PV->Option f6):MS:=
 (l6 (A2 (mtV (m3 B3 (b7 0) (mC (.str "{")) (b7 1))) (t6 (k4 R_again_atW (b0 (b7 0) (b0 (m2 u7 (b7 1) (mC (.int 1))) (b0 (b7 2) (b0 (mC (a8b "weaving_part_at")) (b0 (mC (.str "}")) f8))))))) u5)
 (l6 (A2 (mtV (m3 B3 (b7 0) (mC (.str "[")) (b7 1))) (t6 (k4 a3i (b0 (b7 0) (b0 (m2 u7 (b7 1) (mC (.int 1))) f8)))) u5)
 (t6 (mC .none))))
def A3:Nat->(List PV->Option f6)×(List PV->Option f6)×(List PV->Option f6)
 |0=>(k9 2 (fun _=>none),k9 2 (fun _=>none),k9 0 (fun _=>none))
 |n+1=>(k9 2 (X8 ((A3 n).1) ((A3 n).2.1) ((A3 n).2.2)),k9 2 (a2t ((A3 n).1) ((A3 n).2.1) ((A3 n).2.2)),k9 0 (R4 ((A3 n).1) ((A3 n).2.1) ((A3 n).2.2)))
def O2(n:Nat):List PV->Option f6:=(A3 n).1
def K3(n:Nat):List PV->Option f6:=(A3 n).2.1
def a1a:List PV->Option f6:=K3 42
def u8(n:Nat):List PV->Option f6:=(A3 n).2.2
def a6I:List PV->Option f6:=u8 42
def a1K(a1S:List PV->Option f6):MS:=
 (A2 (K5 (m2 gEq (m2 m9 (b7 2) (mC (.int 0))) (mC (.str "rows")))) (a2d 1 (gI fun i j=> .int (i+j)) (m2 m9 (b7 2) (mC (.int 1)))) (a2d 1 (gI fun i j=> .int (i+j)) (m2 V0 (m2 m9 (b7 2) (mC (.int 1))) (k4 a1S (b0 (m2 m9 (b7 2) (mC (.int 2))) f8)))))
def a5p(a1S:List PV->Option f6):MS:=
 (l6 (v0 1 (mC (.int 0)))
 (l6 (a1r (T3 (b7 0)) (k7 2) (a1K a1S))
 (a1f 1)))
def a9V:Nat->(List PV->Option f6)
 |0=>(k9 2 (fun _=>none))
 |n+1=>(k9 2 (a5p ((a9V n))))
def a2a(n:Nat):List PV->Option f6:=(a9V n)
def a7F:List PV->Option f6:=a2a 16
def a2X(D8 R_unfolded_part:List PV->Option f6):M:=
 (k4 R_unfolded_part (b0 (b7 1) f8))
def a3E(D8 R_unfolded_part:List PV->Option f6):MS:=
 (t6 (m2 M5 (mC (.str "")) (a4f 1 (a0i (b7 0)) (k7 1) a4R (a2X D8 R_unfolded_part))))
def V9(D8 R_unfolded_part:List PV->Option f6):MS:=
 (l6 (A2 (K5 (m2 gEq (m2 m9 (b7 0) (mC (.int 0))) (mC (.str "run")))) (t6 (m2 V0 (m2 m9 (b7 0) (mC (.int 1))) (m2 m9 (b7 0) (mC (.int 2))))) u5)
 (t6 (m2 V0 (k4 D8 (b0 (m2 m9 (b7 0) (mC (.int 2))) f8)) (m2 m9 (b7 0) (mC (.int 1))))))
def Y4:Nat->(List PV->Option f6)×(List PV->Option f6)
 |0=>(k9 0 (fun _=>none),k9 0 (fun _=>none))
 |n+1=>(k9 0 (a3E ((Y4 n).1) ((Y4 n).2)),k9 0 (V9 ((Y4 n).1) ((Y4 n).2)))
def Y1(n:Nat):List PV->Option f6:=(Y4 n).1
def a18:List PV->Option f6:=Y1 30
def M8(n:Nat):List PV->Option f6:=(Y4 n).2
def P6(T8:List PV->Option f6):MS:=
 (A2 (K5 (m2 gEq (m2 m9 (b7 2) (mC (.int 0))) (mC (.str "rows")))) (A1 1 (m1 G3 (k4 a18 (b0 (m2 m9 (b7 2) (mC (.int 2))) f8)))) (a8S 1 (k4 T8 (b0 (m2 m9 (b7 2) (mC (.int 2))) f8))))
def a1D(T8:List PV->Option f6):MS:=
 (l6 (v0 1 (a1s f8))
 (l6 (a1r (T3 (b7 0)) (k7 2) (P6 T8))
 (a1f 1)))
def a5U:Nat->(List PV->Option f6)
 |0=>(k9 2 (fun _=>none))
 |n+1=>(k9 2 (a1D ((a5U n))))
def Q4(n:Nat):List PV->Option f6:=(a5U n)
def a3J:List PV->Option f6:=Q4 16
def a1Y:MX:=
 (a6S (b4e (N4 (mtV (m1 (a1I "str") (b7 0)))) (b23 "NoWeaving" (b0 (mC (.str "what is no text writes no weaving")) f8)) (a5J u5))
 (a6S (a5J (v0 1 (k4 a1a (b0 (b7 0) (b0 (mC (.int 0)) (b0 (mC L6) (b0 (mC (a8b "weaving_part_at")) f8)))))))
 (a6S (b4e (a1g (K5 (m2 (a2Q false) (b7 1) (mC .none))) (K5 (m2 gNe (m2 m9 (b7 1) (mC (.int 1))) (m1 G3 (b7 0))))) (b23 "NoWeaving" (b0 (mC (.str "the text writes no weaving")) f8)) (a5J u5))
 (a6S (b4e (a1g (K5 (m2 (gI fun i j=> .bool (decide (j<i))) (k4 a7F (b0 (m2 m9 (b7 1) (mC (.int 0))) f8)) (mC Q8))) (K5 (m2 gNe (m1 a4F (k4 a3J (b0 (m2 m9 (b7 1) (mC (.int 0))) f8))) (mC (.int 1))))) (b23 "NoWeaving" (b0 (mC (.str "the text writes a weaving of no cloth")) f8)) (a5J u5))
 (a5J (t6 (m2 m9 (b7 1) (mC (.int 0)))))))))
def p7:List PV->Option (f6 ⊕ XT):=b6i 1 a1Y
def a4u:MS:=
 (t6 (b0n (m1 (a1I "int") (b7 0)) (b0n (c0U (m1 (a1I "bool") (b7 0))) (m2 (gI fun i j=> .bool (decide (j<=i))) (b7 0) (b7 1)))))
def G9:List PV->Option f6:=k9 0 a4u
def M9(P8:List PV->Option f6):MS:=
 (l6 (A2 (a1g (N4 (mtV (m1 (a1I "tuple") (b7 1)))) (K5 (m2 gNe (m1 G3 (b7 1)) (mC (.int 3))))) (t6 (mC (.bool false))) u5)
 (A2 (K5 (m2 gEq (m2 m9 (b7 1) (mC (.int 0))) (mC (.str "run")))) (A2 (a1g (N4 (mtV (m1 (a1I "str") (m2 m9 (b7 1) (mC (.int 1)))))) (a1g (K5 (m2 gNe (m1 G3 (m2 m9 (b7 1) (mC (.int 1)))) (mC (.int 1)))) (N4 (mtV (k4 G9 (b0 (m2 m9 (b7 1) (mC (.int 2))) (b0 (mC (.int 1)) f8))))))) (t6 (mC (.bool false))) u5) (A2 (a1g (K5 (m2 gNe (m2 m9 (b7 1) (mC (.int 0))) (mC (.str "again")))) (a1g (N4 (mtV (k4 G9 (b0 (m2 m9 (b7 1) (mC (.int 1))) (b0 (mC (.int 2)) f8))))) (N4 (mtV (k4 P8 (b0 (m2 m9 (b7 1) (mC (.int 2))) f8)))))) (t6 (mC (.bool false))) u5)))
def a0U(P8:List PV->Option f6):MS:=
 (l6 (A2 (a1g (N4 (mtV (m1 (a1I "list") (b7 0)))) (K5 (m2 gEq (b7 0) (a1s f8)))) (t6 (mC (.bool false))) u5)
 (l6 (a1r (T3 (b7 0)) (k7 1) (M9 P8))
 (t6 (mC (.bool true)))))
def a4W:Nat->(List PV->Option f6)
 |0=>(k9 1 (fun _=>none))
 |n+1=>(k9 1 (a0U ((a4W n))))
def T1(n:Nat):List PV->Option f6:=(a4W n)
def a2U:List PV->Option f6:=T1 16
def L9(G2:List PV->Option f6):MS:=
 (l6 (A2 (a1g (N4 (mtV (m1 (a1I "tuple") (b7 1)))) (K5 (m2 gNe (m1 G3 (b7 1)) (mC (.int 3))))) (t6 (mC (.bool false))) u5)
 (A2 (K5 (m2 gEq (m2 m9 (b7 1) (mC (.int 0))) (mC (.str "rows")))) (A2 (a1g (N4 (mtV (k4 G9 (b0 (m2 m9 (b7 1) (mC (.int 1))) (b0 (mC (.int 1)) f8))))) (N4 (mtV (k4 a2U (b0 (m2 m9 (b7 1) (mC (.int 2))) f8))))) (t6 (mC (.bool false))) u5) (A2 (a1g (K5 (m2 gNe (m2 m9 (b7 1) (mC (.int 0))) (mC (.str "again")))) (a1g (N4 (mtV (k4 G9 (b0 (m2 m9 (b7 1) (mC (.int 1))) (b0 (mC (.int 2)) f8))))) (N4 (mtV (k4 G2 (b0 (m2 m9 (b7 1) (mC (.int 2))) f8)))))) (t6 (mC (.bool false))) u5)))
def T9(G2:List PV->Option f6):MS:=
 (l6 (A2 (a1g (N4 (mtV (m1 (a1I "list") (b7 0)))) (K5 (m2 gEq (b7 0) (a1s f8)))) (t6 (mC (.bool false))) u5)
 (l6 (a1r (T3 (b7 0)) (k7 1) (L9 G2))
 (t6 (mC (.bool true)))))
def a2B:Nat->(List PV->Option f6)
 |0=>(k9 1 (fun _=>none))
 |n+1=>(k9 1 (T9 ((a2B n))))
def K2(n:Nat):List PV->Option f6:=(a2B n)
def a0G:List PV->Option f6:=K2 16
def a2c:M:=
 (m1 G3 (b7 4))
def a4v:MS:=
 (l6 (v0 1 (mC .none))
 (l6 (a3M (a4h 1 p7 (b0 (b7 0) f8)) 2 (inL ["NoFold","NoWeaving"]) (t6 (b0n (m1 (a9h [("NoFold",false),("NoWeaving",true)]) (b7 2)) (m1 (a9h [("NoFold",true),("NoWeaving",true)]) (b7 2)))))
 (l6 (A2 (a1g (N4 (mtV (k4 a0G (b0 (b7 1) f8)))) (K5 (m2 gNe (k4 a16 (b0 (b7 1) f8)) (b7 0)))) (t6 (mC (.bool false))) u5)
 (l6 (v0 3 (k4 K9 (b0 (b7 1) f8)))
 (t6 (b0n (m2 a2R (m1 G3 (b7 3)) (mC (.int 24))) (b0n (m2 gEq (m1 a4F (a4f 1 (a0i (b7 3)) (k7 4) a4R a2c)) (mC (.int 1))) (m2 a2R (m1 G3 (m2 m9 (b7 3) (mC (.int 0)))) (mC (.int 24))))))))))
def a09:List PV->Option f6:=k9 3 a4v
def a5S:MS:=
 (l6 (a9u (b02 p7 (b0 (b7 0) f8)) (inL ["NoWeaving"]) (t6 (mC (.bool true))))
 (t6 (mC (.bool false))))
def a0Y:List PV->Option f6:=k9 0 a5S
def a0e(a1T:List PV->Option f6):MS:=
 (A2 (K5 (m2 gEq (m2 m9 (b7 2) (mC (.int 0))) (mC (.str "rows")))) (a2d 1 a9g (m2 b0Q (U2 (b0 (k4 a18 (b0 (m2 m9 (b7 2) (mC (.int 2))) f8)) f8)) (m2 m9 (b7 2) (mC (.int 1))))) (a2d 1 a9g (m2 b0Q (k4 a1T (b0 (m2 m9 (b7 2) (mC (.int 2))) f8)) (m2 m9 (b7 2) (mC (.int 1))))))
def a5q(a1T:List PV->Option f6):MS:=
 (l6 (v0 1 (U2 f8))
 (l6 (a1r (T3 (b7 0)) (k7 2) (a0e a1T))
 (a1f 1)))
def a9W:Nat->(List PV->Option f6)
 |0=>(k9 2 (fun _=>none))
 |n+1=>(k9 2 (a5q ((a9W n))))
def a0H(n:Nat):List PV->Option f6:=(a9W n)
def a7H:List PV->Option f6:=a0H 6
def a3k(a7s:List PV->Option f6):MS:=
 (l6 (a2d 1 (gI fun i j=> .int (i+j)) (mC (.int 1)))
 (A2 (K5 (m2 gEq (m2 m9 (b7 2) (mC (.int 0))) (mC (.str "again")))) (a2d 1 (gI fun i j=> .int (i+j)) (k4 a7s (b0 (m2 m9 (b7 2) (mC (.int 2))) f8))) u5))
def b1l(a7s:List PV->Option f6):MS:=
 (l6 (v0 1 (mC (.int 0)))
 (l6 (a1r (T3 (b7 0)) (k7 2) (a3k a7s))
 (a1f 1)))
def b5n:Nat->(List PV->Option f6)
 |0=>(k9 2 (fun _=>none))
 |n+1=>(k9 2 (b1l ((b5n n))))
def a6J(n:Nat):List PV->Option f6:=(b5n n)
def b32:List PV->Option f6:=a6J 6
def R8(M1:List PV->Option f6):MS:=
 (l6 (a2d 1 (gI fun i j=> .int (i+j)) (mC (.int 1)))
 (A2 (K5 (m2 gEq (m2 m9 (b7 2) (mC (.int 0))) (mC (.str "rows")))) (a2d 1 (gI fun i j=> .int (i+j)) (k4 b32 (b0 (m2 m9 (b7 2) (mC (.int 2))) f8))) (a2d 1 (gI fun i j=> .int (i+j)) (k4 M1 (b0 (m2 m9 (b7 2) (mC (.int 2))) f8)))))
def Z5(M1:List PV->Option f6):MS:=
 (l6 (v0 1 (mC (.int 0)))
 (l6 (a1r (T3 (b7 0)) (k7 2) (R8 M1))
 (a1f 1)))
def a4k:Nat->(List PV->Option f6)
 |0=>(k9 2 (fun _=>none))
 |n+1=>(k9 2 (Z5 ((a4k n))))
def P5(n:Nat):List PV->Option f6:=(a4k n)
def a19:List PV->Option f6:=P5 6
def L3(a0y:List PV->Option f6):MS:=
 (A2 (K5 (m2 gEq (m2 m9 (b7 2) (mC (.int 0))) (mC (.str "again")))) (v0 1 (m2 u7 (b7 1) (k4 a0y (b0 (m2 m9 (b7 2) (mC (.int 2))) f8)))) u5)
def a3A(a0y:List PV->Option f6):MS:=
 (l6 (v0 1 (m1 G3 (b7 0)))
 (l6 (a1r (T3 (b7 0)) (k7 2) (L3 a0y))
 (a1f 1)))
def a8g:Nat->(List PV->Option f6)
 |0=>(k9 2 (fun _=>none))
 |n+1=>(k9 2 (a3A ((a8g n))))
def a1d(n:Nat):List PV->Option f6:=(a8g n)
def a6d:List PV->Option f6:=a1d 6
def a0d(X6:List PV->Option f6):MS:=
 (A2 (K5 (m2 gEq (m2 m9 (b7 2) (mC (.int 0))) (mC (.str "rows")))) (v0 1 (m2 u7 (b7 1) (k4 a6d (b0 (m2 m9 (b7 2) (mC (.int 2))) f8)))) (v0 1 (m2 u7 (b7 1) (k4 X6 (b0 (m2 m9 (b7 2) (mC (.int 2))) f8)))))
def a2r(X6:List PV->Option f6):MS:=
 (l6 (v0 1 (m1 G3 (b7 0)))
 (l6 (a1r (T3 (b7 0)) (k7 2) (a0d X6))
 (a1f 1)))
def a62:Nat->(List PV->Option f6)
 |0=>(k9 2 (fun _=>none))
 |n+1=>(k9 2 (a2r ((a62 n))))
def a0a(n:Nat):List PV->Option f6:=(a62 n)
def a4H:List PV->Option f6:=a0a 6
def a4c:MS:=
 (l6 (A2 (K5 (m2 gEq (b7 0) (mC (.int 1)))) (t6 (mC (.str ""))) u5)
 (t6 (m1 b1C (b7 0))))
def P3:List PV->Option f6:=k9 0 a4c
def a1p(z8 R_shown_part_folds:List PV->Option f6):M:=
 (k4 R_shown_part_folds (b0 (b7 1) f8))
def a1E(z8 R_shown_part_folds:List PV->Option f6):MS:=
 (t6 (m2 M5 (mC (.str " ")) (a4f 1 (a0i (b7 0)) (k7 1) a4R (a1p z8 R_shown_part_folds))))
def O0(z8 R_shown_part_folds:List PV->Option f6):MS:=
 (l6 (A2 (K5 (m2 gEq (m2 m9 (b7 0) (mC (.int 0))) (mC (.str "run")))) (t6 (m2 u7 (m2 m9 (b7 0) (mC (.int 1))) (k4 P3 (b0 (m2 m9 (b7 0) (mC (.int 2))) f8)))) u5)
 (t6 (m2 u7 (m2 u7 (m2 u7 (mC (.str "(")) (k4 z8 (b0 (m2 m9 (b7 0) (mC (.int 2))) f8))) (mC (.str ")"))) (m1 b1C (m2 m9 (b7 0) (mC (.int 1)))))))
def Q7:Nat->(List PV->Option f6)×(List PV->Option f6)
 |0=>(k9 0 (fun _=>none),k9 0 (fun _=>none))
 |n+1=>(k9 0 (a1E ((Q7 n).1) ((Q7 n).2)),k9 0 (O0 ((Q7 n).1) ((Q7 n).2)))
def Q5(n:Nat):List PV->Option f6:=(Q7 n).1
def a3K:List PV->Option f6:=Q5 30
def E3(n:Nat):List PV->Option f6:=(Q7 n).2
def J6(R_shown_part_weavings u4:List PV->Option f6):MS:=
 (l6 (A2 (K5 (m2 gEq (m2 m9 (b7 0) (mC (.int 0))) (mC (.str "rows")))) (t6 (m2 u7 (m2 u7 (m2 u7 (mC (.str "[")) (k4 a3K (b0 (m2 m9 (b7 0) (mC (.int 2))) f8))) (mC (.str "]"))) (k4 P3 (b0 (m2 m9 (b7 0) (mC (.int 1))) f8)))) u5)
 (t6 (m2 u7 (m2 u7 (m2 u7 (mC (.str "{")) (k4 u4 (b0 (m2 m9 (b7 0) (mC (.int 2))) f8))) (mC (.str "}"))) (m1 b1C (m2 m9 (b7 0) (mC (.int 1)))))))
def X1(R_shown_part_weavings u4:List PV->Option f6):M:=
 (k4 R_shown_part_weavings (b0 (b7 1) f8))
def V8(R_shown_part_weavings u4:List PV->Option f6):MS:=
 (t6 (m2 M5 (mC (.str " ")) (a4f 1 (a0i (b7 0)) (k7 1) a4R (X1 R_shown_part_weavings u4))))
def v8:Nat->(List PV->Option f6)×(List PV->Option f6)
 |0=>(k9 0 (fun _=>none),k9 0 (fun _=>none))
 |n+1=>(k9 0 (J6 ((v8 n).1) ((v8 n).2)),k9 0 (V8 ((v8 n).1) ((v8 n).2)))
def B6(n:Nat):List PV->Option f6:=(v8 n).1
def G5(n:Nat):List PV->Option f6:=(v8 n).2
def a1o:List PV->Option f6:=G5 30
def a0V:MS:=
 (l6 (v0 2 (m2 (gIc (fun _ j=>0<j) fun i j=> .int (i % j)) (b7 1) (mC (.int 3))))
 (l6 (v0 3 (m2 (gIc (fun _ j=>0<j) fun i j=> .int (i % j)) (m2 (gIc a1A fun i j=> .int (i / j)) (b7 1) (mC (.int 3))) (m2 u7 (m1 G3 (b7 0)) (mC (.int 1)))))
 (l6 (v0 4 (m2 m9 (mC (.str "ab1230 []{}()x] {A\n")) (m2 (gIc (fun _ j=>0<j) fun i j=> .int (i % j)) (m2 (gIc a1A fun i j=> .int (i / j)) (b7 1) (mC (.int 900))) (mC (.int 18)))))
 (l6 (A2 (K5 (m2 gEq (b7 2) (mC (.int 0)))) (t6 (m2 u7 (T4 (b7 0) a2e (I0 (b7 3))) (T4 (b7 0) (I0 (m2 u7 (b7 3) (mC (.int 1)))) a2e))) u5)
 (l6 (A2 (K5 (m2 gEq (b7 2) (mC (.int 1)))) (t6 (m2 u7 (m2 u7 (T4 (b7 0) a2e (I0 (b7 3))) (b7 4)) (T4 (b7 0) (I0 (m2 u7 (b7 3) (mC (.int 1)))) a2e))) u5)
 (t6 (m2 u7 (m2 u7 (T4 (b7 0) a2e (I0 (b7 3))) (b7 4)) (T4 (b7 0) (I0 (b7 3)) a2e))))))))
def Q3:List PV→Option f6:=k9 3 a0V
def a6M:MS:=
 (l6 (v0 3 (k4 a2x (b0 (b7 0) (b0 (m2 V0 (mC (.int 20)) (b7 2)) f8))))
 (l6 (v0 1 (k4 a16 (b0 (b7 3) f8)))
 (l6 (A2 (a1g (K5 (m2 gNe (k4 a7H (b0 (b7 3) f8)) (k4 K9 (b0 (b7 3) f8)))) (K5 (m2 gNe (k4 a19 (b0 (b7 3) f8)) (k4 a4H (b0 (b7 3) f8))))) (t6 (mC (.bool false))) u5)
 (A2 (a1g (K5 (m2 gNe (k4 a1o (b0 (b7 3) f8)) (b7 1))) (K5 (m2 gNe (k4 (left p7) (b0 (b7 1) f8)) (b7 3)))) (t6 (mC (.bool false))) u5))))
def a6N:MS:=
 (l6 (v0 5 (k4 B4 (b0 (b7 4) f8)))
 (l6 (A2 (N4 (mtV (k4 a09 (b0 (k4 Q3 (b0 (b7 1) (b0 (b7 5) f8))) f8)))) (t6 (mC (.bool false))) u5)
 (l6 (v0 6 (a1s (b0 (mC .none) (b0 (mC (.int 5)) (b0 (a1s (b0 (mC (.str "[a]")) f8)) (b0 (a1s (b0 (U2 (b0 (mC (.str "rows")) (b0 (mC (.int 1)) (b0 (a1s (b0 (U2 (b0 (mC (.str "run")) (b0 (mC (.str "a")) (b0 (mC (.int 1)) f8)))) f8)) f8)))) f8)) (b0 (mC (.bool true)) (b0 (mC (.str "a")) (b0 (mC (.str "[a]1")) (b0 (mC (.str "{[a]}")) f8))))))))))
 (A2 (N4 (mtV (k4 a0Y (b0 (m2 m9 (b7 6) (m2 (gIc (fun _ j=>0<j) fun i j=> .int (i % j)) (b7 5) (mC (.int 8)))) f8)))) (t6 (mC (.bool false))) u5))))
def b9U:MS:=
 (l6 (v0 1 (mC (.str "")))
 (l6 (a1r (a1z (b0 (mC (.int 4)) f8)) (k7 2) a6M)
 (l6 (a1r (T3 (m2 u7 (T4 (b7 0) a2e (I0 (mC (.int 40)))) (a1s (b0 (mC (.int 3)) f8)))) (k7 4) a6N)
 (t6 (mC (.bool true))))))
def b7a:List PV→Option f6:=k9 6 b9U
end LW
set_option maxHeartbeats 1000000
namespace LW
open PySem PySem.Spec PyProof.Rows L2 PU
theorem b3C:∀(l:List Nat) (g:Nat→Nat),((l.map fun c=>[g c]).map (·.length)).sum=l.length
 |[],_=>rfl
 |a::l,g=>by
  have:=b3C l g
  simp only [AH,AV,Af,List.sum_cons] at this ⊢
  lia
theorem b5W(l:List Nat)(g:Nat→Nat):a1b [] (l.map fun c=>[g c])=l.map g:=by
 rw [b2R]
 have:(l.map fun c=>[g c])=((l.map g).map fun c=>[c]):=by rw [At];rfl
 rw [this,a8a]
theorem b3Y{k:Nat}(hk:k≤10000)(g:Nat→Nat):M5 (.val (.str (S []))) (.own ((Ac k).map fun j=>row [g j]))=some (.val (row ((Ac k).map g))):=by
 rw [a6b (rows:=(Ac k).map fun j=>[g j]),b5W]
 ·show some _=some _
  rw [At];rfl
 ·rw [b3C,BA,Ae,BA];simp only [Af];lia
inductive Pa where
 |run (c k:Nat)
 |again (k:Nat) (ps:List Pa)
abbrev a42:PV:= .str (AY "run")
abbrev E2:PV:= .str (AY "again")
mutual
def x9:Pa→PV
 | .run c k=> .tuple [a42,row [c],.int (k:Nat)]
 | .again k ps=> .tuple [E2,.int (k:Nat),.list (r6 ps)]
def r6:List Pa→List PV
 |[]=>[]
 |p::ps=>x9 p::r6 ps
end
mutual
def unP:Pa→List Nat
 | .run c k=>(Ac k).map fun _=>c
 | .again k ps=>((Ac k).map fun _=>F9 ps).flatten
def F9:List Pa→List Nat
 |[]=>[]
 |p::ps=>unP p++F9 ps
end
mutual
def dpP:Pa→Nat
 | .run _ _=>0
 | .again _ ps=>dpL ps+1
def dpL:List Pa→Nat
 |[]=>0
 |p::ps=>max (dpP p) (dpL ps)
end
mutual
def okP:Pa→Prop
 | .run c k=>1≤k∧k≤24∧(97≤c∧c≤122)
 | .again k ps=>2≤k∧k≤24∧ps≠[]∧okL ps
def okL:List Pa→Prop
 |[]=>True
 |p::ps=>okP p∧okL ps
end
theorem a6V:∀{ps:List Pa} {p:Pa},okL ps→p∈ps→okP p
 |q::ps,p,h,hp=>by
  rcases Am.mp hp with e|hp
  ·rw [e];exact h.1
  ·exact a6V h.2 hp
theorem a57:∀{ps:List Pa} {p:Pa},p∈ps→dpP p≤dpL ps
 |q::ps,p,hp=>by
  rw [dpL]
  rcases Am.mp hp with e|hp
  ·rw [e];exact Nat.le_max_left _ _
  ·exact Nat.le_trans (a57 hp) (Nat.le_max_right _ _)
theorem b2n:∀{ps:List Pa} {p:Pa},p∈ps→(unP p).length≤(F9 ps).length
 |q::ps,p,hp=>by
  rw [F9,AX]
  rcases Am.mp hp with e|hp
  ·rw [e];lia
  ·have:=b2n hp
   lia
theorem a15{α:Type}(l:List α):∀k:Nat,(((Ac k).map fun _=>l).flatten).length=k*l.length
 |0=>by simp
 |k+1=>by
  rw [List.range_succ,As,List.flatten_append,AX,a15 l k,Nat.succ_mul]
  simp
theorem a2l(k:Nat)(ps:List Pa):(unP (.again k ps)).length=k*(F9 ps).length:=by rw [unP,a15]
theorem a37(c k:Nat):(unP (.run c k)).length=k:=by rw [unP];simp
theorem b5t{k:Nat}{qs ps:List Pa}(h:okL ps)(hp:Pa.again k qs∈ps):okL qs∧qs≠[]∧2≤k∧k≤24∧k*(F9 qs).length≤(F9 ps).length∧(F9 qs).length≤(F9 ps).length∧dpL qs<dpL ps:=by
 obtain⟨h1,h2,h3,h4⟩:=a6V h hp
 have e:=b2n hp
 rw [a2l] at e
 have d:=a57 hp
 rw [dpP] at d
 refine⟨h4,h3,h1,h2,e, ?_,by lia⟩
 have:1*(F9 qs).length≤k*(F9 qs).length:=Nat.mul_le_mul_right _ (by lia)
 lia
mutual
theorem b8m:∀{p:Pa},okP p→0<(unP p).length
 | .run c k,h=>by rw [a37];exact h.1
 | .again k ps,h=>by
   rw [a2l]
   exact Nat.mul_pos (by have:=h.1;lia) (a8W h.2.2.1 h.2.2.2)
theorem a8W:∀{ps:List Pa},ps≠[]→okL ps→0<(F9 ps).length
 |[],h,_=>absurd rfl h
 |p::ps,_,h=>by
  rw [F9,AX]
  have:=b8m h.1
  lia
end
theorem a7j:∀{ps:List Pa},okL ps→ps.length≤(F9 ps).length
 |[],_=>AZ _
 |p::ps,h=>by
  have:=b8m h.1
  have:=a7j h.2
  rw [F9,AX,AV]
  lia
theorem a61(p:Pa):(∃c k,p= .run c k∧x9 p= .tuple [a42,row [c],.int (k:Nat)])∨∃k qs,p= .again k qs∧x9 p= .tuple [E2,.int (k:Nat),.list (r6 qs)]:=by
 cases p with
 |run c k=>exact .inl ⟨c,k,rfl,by rw [x9]⟩
 |again k qs=>exact .inr ⟨k,qs,rfl,by rw [x9]⟩
theorem b6S:gEq (.val a42) (.val a42)=some (.val (.bool true)):=by rfl
theorem b6Q:gEq (.val E2) (.val a42)=some (.val (.bool false)):=by rfl
theorem c0v:gEq (.val E2) (.val E2)=some (.val (.bool true)):=by rfl
theorem b8P:gEq (.val a42) (.val E2)=some (.val (.bool false)):=by rfl
def dg(k:Nat):List Nat:=if k<10 then [48+k] else [48+k / 10,48+k % 10]
theorem a2P(k:Nat):1≤(dg k).length∧(dg k).length≤2:=by unfold dg;split<;>simp
def wt(k:Nat):List Nat:=if k=1 then [] else dg k
theorem b2p(k:Nat):(wt k).length≤2:=by
 unfold wt
 split
 ·simp
 ·exact(a2P k).2
mutual
def Y7:Pa→List Nat
 | .run c k=>c::wt k
 | .again k ps=>40::(a1b [32] (shW ps)++41::dg k)
def shW:List Pa→List (List Nat)
 |[]=>[]
 |p::ps=>Y7 p::shW ps
end
theorem b5q:∀ps:List Pa,shW ps=ps.map Y7
 |[]=>by rw [shW];rfl
 |p::ps=>by rw [shW,AH,b5q ps]
def shL(ps:List Pa):List Nat:=a1b [32] (ps.map Y7)
theorem a5k(c k:Nat):Y7 (.run c k)=c::wt k:=by rw [Y7]
theorem a0r(k:Nat)(ps:List Pa):Y7 (.again k ps)=40::(shL ps++41::dg k):=by rw [Y7,b5q];rfl
theorem a4J:∀ls:List (List Nat),(a1b [32] ls).length≤(ls.map fun l=>l.length+1).sum
 |[]=>AZ _
 |[x]=>by simp [a1b]
 |x::y::r=>by
  have:=a4J (y::r)
  simp only [a1b,AX,AV,Af,AH,List.sum_cons] at this ⊢
  lia
mutual
theorem b2f:∀{p:Pa},okP p→(Y7 p).length+1≤5*(unP p).length
 | .run c k,h=>by
   rw [a5k,a37,AV]
   have:=b2p k
   have:=h.1
   lia
 | .again k ps,h=>by
   rw [a0r,a2l,AV,AX,AV]
   have h1:=a7d h.2.2.2
   have h2:=a4J (ps.map Y7)
   rw [At] at h2
   have h3:=(a2P k).2
   have h4:=a8W h.2.2.1 h.2.2.2
   have h5:2*(F9 ps).length≤k*(F9 ps).length:=Nat.mul_le_mul_right _ h.1
   show(a1b [32] (ps.map Y7)).length+_+1+1≤_
   have h6:(ps.map ((fun l=>l.length+1)∘Y7)).sum=(ps.map fun p=>(Y7 p).length+1).sum:=rfl
   lia
theorem a7d:∀{ps:List Pa},okL ps→(ps.map fun p=>(Y7 p).length+1).sum≤5*(F9 ps).length
 |[],_=>by simp
 |p::ps,h=>by
  have h1:=b2f h.1
  have h2:=a7d h.2
  rw [AH,List.sum_cons,F9,AX]
  lia
end
theorem b9A{ps:List Pa}(h:okL ps):(shL ps).length≤5*(F9 ps).length:=by
 have h1:=a7d h
 have h2:=a4J (ps.map Y7)
 rw [At] at h2
 have h6:(ps.map ((fun l=>l.length+1)∘Y7)).sum=(ps.map fun p=>(Y7 p).length+1).sum:=rfl
 unfold shL
 lia
abbrev a54(ds:List Nat):Nat:=PySem.NumText.digitsVal ds
def isF(x:Nat):Bool:=decide (48≤x)&& decide (x≤57)
theorem a1J{x:Nat}:isF x=true↔48≤x∧x≤57:=by unfold isF;simp
theorem dv1(a:Nat):a54 [a]=a - 48:=by show 0*10+(a - 48)=_;lia
theorem dv2(a b:Nat):a54 [a,b]=(a - 48)*10+(b - 48):=by show(0*10+(a - 48))*10+(b - 48)=_;lia
theorem dv3(a b c:Nat):a54 [a,b,c]=((a - 48)*10+(b - 48))*10+(c - 48):=by show((0*10+(a - 48))*10+(b - 48))*10+(c - 48)=_;lia
def C5(p:Nat→Bool):List Nat→List Nat×List Nat
 |[]=>([],[])
 |x::r=>if p x=true then(x::(C5 p r).1,(C5 p r).2) else([],x::r)
theorem a0O(p:Nat→Bool):∀s:List Nat,s=(C5 p s).1++(C5 p s).2
 |[]=>rfl
 |x::r=>by
  unfold C5
  split
  ·rw [AN,←a0O p r]
  ·rfl
theorem a3q(p:Nat→Bool):∀(s:List Nat),∀x∈(C5 p s).1,p x=true
 |[],x,h=>by cases h
 |y::r,x,h=>by
  unfold C5 at h
  split at h
  ·rename_i hy
   rcases Am.mp h with rfl|h
   ·exact hy
   ·exact a3q p r x h
  ·cases h
theorem a0P(p:Nat→Bool):∀(s:List Nat) (y:Nat) (r:List Nat),(C5 p s).2=y::r→p y=false
 |[],y,r,h=>by cases h
 |x::s,y,r,h=>by
  unfold C5 at h
  split at h
  ·exact a0P p s y r h
  ·rename_i hx
   cases h
   simpa using hx
def noF(r:List Nat):Prop:=∀y t,r=y::t→isF y=false
theorem b3A{ds r:List Nat}(h:∀x∈ds,isF x=true)(hr:noF r):C5 isF (ds++r)=(ds,r):=by
 induction ds with
 |nil=>
  cases r with
  |nil=>rfl
  |cons y t=>rw [AQ,C5,if_neg (by rw [hr y t rfl];exact Ao)]
 |cons d ds ih=>rw [AN,C5,if_pos (h d Al),ih fun x hx=>h x (Ak _ hx)]
def lt1(c:Nat):Bool:=decide (97≤c)&& decide (c≤122)
theorem a8Q{x:Nat}:lt1 x=true↔97≤x∧x≤122:=by unfold lt1;simp
def b1P(ds:List Nat):Option Nat:=if(decide (1≤ds.length)&& decide (ds.length≤4))=true then if(ds.head?==some 48 && decide (1<ds.length))=true then none else if(decide (2≤a54 ds)&& decide (a54 ds≤24))=true then some (a54 ds) else none else none
theorem c2I{k:Nat}(hk:k≤24){x:Nat}(h:x∈dg k):isF x=true:=by
 rw [a1J]
 unfold dg at h
 split at h
 ·simp at h;lia
 ·simp at h;lia
theorem b9b{k:Nat}(h2:2≤k)(hk:k≤24):b1P (dg k)=some k:=by
 unfold b1P dg
 split
 ·rw [dv1,if_pos (by simp),if_neg (by simp),if_pos (by simp;lia)]
  congr 1;lia
 ·rw [dv2,if_pos (by simp),if_neg (by simp;lia),if_pos (by simp;lia)]
  congr 1;lia
theorem b4h{ds:List Nat}{k:Nat}(hd:∀x∈ds,isF x=true)(h:b1P ds=some k):ds=dg k∧2≤k∧k≤24:=by
 unfold b1P at h
 split at h
 ·rename_i c1
  rw [Bool.and_eq_true,decide_eq_true_eq,decide_eq_true_eq] at c1
  split at h
  ·cases h
  ·rename_i c2
   split at h
   ·rename_i c3
    cases h
    rw [Bool.and_eq_true,decide_eq_true_eq,decide_eq_true_eq] at c3
    refine⟨?_,c3⟩
    have h48:∀a b r,ds=a::b::r→a≠48:=fun a b r e z=>c2 (by rw [e,z];simp)
    unfold dg
    match ds,hd,c1,c3,h48 with
    |[a],hd,_,c3,_=>
     have ha:=a1J.mp (hd a (by simp))
     rw [dv1] at c3 ⊢
     rw [if_pos (by lia)]
     congr 1;lia
    |[a,b],hd,_,c3,h48=>
     have ha:=a1J.mp (hd a (by simp))
     have hb:=a1J.mp (hd b (by simp))
     have:=h48 a b [] rfl
     rw [dv2] at c3 ⊢
     rw [if_neg (by lia)]
     congr 1
     ·lia
     ·congr 1;lia
    |[a,b,c],hd,_,c3,h48=>
     have ha:=a1J.mp (hd a (by simp))
     have:=h48 a b [c] rfl
     rw [dv3] at c3
     lia
    |[a,b,c,d],hd,_,c3,h48=>
     have ha:=a1J.mp (hd a (by simp))
     have:=h48 a b [c,d] rfl
     have e:a54 [a,b,c,d]=(((a - 48)*10+(b - 48))*10+(c - 48))*10+(d - 48):=by show(((0*10+(a - 48))*10+(b - 48))*10+(c - 48))*10+(d - 48)=_;lia
     rw [e] at c3
     lia
    |[],_,c1,_,_=>simp at c1
    |_::_::_::_::_::_,_,c1,_,_=>simp at c1
   ·cases h
 ·cases h
def F8(s:List Nat):Option (Nat×List Nat):=if(C5 isF s).1=[] then some (1,s) else(b1P (C5 isF s).1).map fun k=>(k,(C5 isF s).2)
theorem a1R{s r:List Nat}{k:Nat}(h:F8 s=some (k,r)):s=wt k++r∧1≤k∧k≤24∧noF r:=by
 unfold F8 at h
 have ap:=a0O isF s
 have st:=a0P isF s
 split at h
 ·rename_i c
  cases h
  rw [c,AQ] at ap
  exact⟨rfl,AZ _,by lia,fun y t e=>st y t (by rw [←ap,e])⟩
 ·rename_i c
  cases e:b1P (C5 isF s).1 with
  |none=>rw [e] at h;cases h
  |some j=>
   rw [e] at h
   cases h
   obtain⟨h1,h2,h3⟩:=b4h (a3q isF s) e
   refine⟨?_,by lia,h3,fun y t e=>st y t e⟩
   unfold wt
   rw [if_neg (by lia),←h1]
   exact ap
theorem a5A{r:List Nat}{k:Nat}(h1:1≤k)(h2:k≤24)(hr:noF r):F8 (wt k++r)=some (k,r):=by
 unfold F8 wt
 split
 ·rename_i e
  have:=b3A (ds:=[]) (r:=r) (fun _ z=>nomatch z) hr
  rw [AQ] at this ⊢
  rw [this,if_pos rfl,e]
 ·have hl:=(a2P k).1
  rw [b3A (fun x hx=>c2I h2 hx) hr,if_neg (fun z=>by have z:dg k=[]:=z;rw [z] at hl;simp at hl),b9b (by lia) h2]
  rfl
def E9(P:List Nat→Option (Pa×List Nat)):Nat→List Nat→Option (List Pa×List Nat)
 |0,_=>none
 |n+1,s=>(P s).bind fun x=>match x.2 with
  |32::r=>(E9 P n r).map fun y=>(x.1::y.1,y.2)
  |r=>some ([x.1],r)
def a7v(P:List Nat→Option (Pa×List Nat))(s:List Nat):Option (Pa×List Nat):=(E9 P 4000 s).bind fun x=>match x.2 with
 |41::r=>(F8 r).bind fun y=>if y.1=1 then none else some (.again y.1 x.1,y.2)
 |_=>none
def a6O(ag:List Nat→Option (Pa×List Nat)):List Nat→Option (Pa×List Nat)
 |[]=>none
 |c::r=>if c=40 then ag r else if lt1 c=true then(F8 r).map fun y=>(.run c y.1,y.2) else none
def a4T:Nat→List Nat→Option (Pa×List Nat)
 |0=>a6O fun _=>none
 |n+1=>a6O (a7v (a4T n))
mutual
def gP:Pa→Prop
 | .run c k=>(97≤c∧c≤122)∧1≤k∧k≤24
 | .again k ps=>(2≤k∧k≤24)∧ps≠[]∧gL ps
def gL:List Pa→Prop
 |[]=>True
 |p::ps=>gP p∧gL ps
end
theorem b5p(p:Pa):shL [p]=Y7 p:=rfl
theorem a97(p q:Pa)(ps:List Pa):shL (p::q::ps)=Y7 p++32::shL (q::ps):=by
 unfold shL
 rw [AH,AH]
 show Y7 p++[32]++a1b [32] (Y7 q::ps.map Y7)=_
 simp
theorem a0l{P:List Nat→Option (Pa×List Nat)}{m:Nat}(hP:∀{s r:List Nat} {p:Pa},P s=some (p,r)→s=Y7 p++r∧gP p∧dpP p≤m∧noF r):∀{n:Nat} {s r:List Nat} {ps:List Pa},E9 P n s=some (ps,r)→s=shL ps++r∧gL ps∧ps≠[]∧dpL ps≤m∧noF r∧(∀t,r≠32::t)
 |0,s,r,ps,h=>by cases h
 |n+1,s,r,ps,h=>by
  rw [E9] at h
  cases e:P s with
  |none=>rw [e] at h;cases h
  |some x=>
   obtain⟨p,r0⟩:=x
   rw [e,AD] at h
   obtain⟨a1,a2,a3,a4⟩:=hP e
   dsimp only at h
   split at h
   ·rename_i r1
    cases e2:E9 P n r1 with
    |none=>rw [e2] at h;cases h
    |some y=>
     obtain⟨qs,r2⟩:=y
     rw [e2] at h
     cases h
     obtain⟨b1,b2,b3,b4,b5,b6⟩:=a0l hP e2
     refine⟨?_,⟨a2,b2⟩,by simp,by rw [dpL];exact Nat.max_le.mpr ⟨a3,b4⟩,b5,b6⟩
     cases qs with
     |nil=>exact absurd rfl b3
     |cons q qs=>rw [a97,a1,b1];simp
   ·rename_i hx
    cases h
    exact⟨by rw [b5p];exact a1,⟨a2,trivial⟩,by simp,by rw [dpL,dpL];exact Nat.max_le.mpr ⟨a3,Nat.zero_le _⟩,a4,fun t z=>hx t z⟩
theorem a1i:∀{n:Nat} {s r:List Nat} {p:Pa},a4T n s=some (p,r)→s=Y7 p++r∧gP p∧dpP p≤n∧noF r:=by
 have leaf:∀{ag:List Nat→Option (Pa×List Nat)} {n:Nat},(∀{s r:List Nat} {p:Pa},ag s=some (p,r)→40::s=Y7 p++r∧gP p∧dpP p≤n∧noF r)→∀{s r:List Nat} {p:Pa},a6O ag s=some (p,r)→s=Y7 p++r∧gP p∧dpP p≤n∧noF r:=by
  intro ag n ha s r p h
  cases s with
  |nil=>cases h
  |cons c s=>
   rw [a6O] at h
   split at h
   ·rename_i hc
    rw [hc]
    exact ha h
   ·split at h
    ·rename_i hl
     cases e:F8 s with
     |none=>rw [e] at h;cases h
     |some y=>
      obtain⟨k,r0⟩:=y
      rw [e] at h
      cases h
      obtain⟨t1,t2,t3,t4⟩:=a1R e
      exact⟨by rw [a5k,AN,←t1],⟨a8Q.mp hl,t2,t3⟩,by rw [dpP];exact Nat.zero_le _,t4⟩
    ·cases h
 intro n
 induction n with
 |zero=>intro s r p h;exact leaf (fun z=>by cases z) h
 |succ n ih=>
  intro s r p h
  refine leaf (n:=n+1) (fun {s r p} h=> ?_) h
  unfold a7v at h
  cases e:E9 (a4T n) 4000 s with
  |none=>rw [e] at h;cases h
  |some x=>
   obtain⟨ps,r0⟩:=x
   rw [e,AD] at h
   obtain⟨b1,b2,b3,b4,b5,b6⟩:=a0l ih e
   dsimp only at h
   split at h
   ·rename_i r1
    cases e2:F8 r1 with
    |none=>rw [e2] at h;cases h
    |some y=>
     obtain⟨k,r2⟩:=y
     rw [e2,AD] at h
     dsimp only at h
     split at h
     ·cases h
     ·rename_i hk
      cases h
      obtain⟨t1,t2,t3,t4⟩:=a1R e2
      have hw:wt k=dg k:=by unfold wt;rw [if_neg hk]
      refine⟨?_,⟨⟨by lia,t3⟩,b3,b2⟩,by rw [dpP];lia,t4⟩
      rw [a0r,b1,t1,hw]
      simp
   ·cases h
mutual
def knP:Pa→Nat
 | .run _ k=>k
 | .again k ps=>knL ps*k
def knL:List Pa→Nat
 |[]=>0
 |p::ps=>knP p+knL ps
end
mutual
theorem b44:∀{p:Pa},gP p→1≤knP p
 | .run c k,v=>by rw [gP] at v;rw [knP];exact v.2.1
 | .again k ps,v=>by
   rw [gP] at v
   rw [knP]
   have:=Nat.mul_le_mul (b82 v.2.1 v.2.2) v.1.1
   lia
theorem b82:∀{ps:List Pa},ps≠[]→gL ps→1≤knL ps
 |[],h,_=>absurd rfl h
 |p::ps,_,v=>by
  rw [gL] at v
  rw [knL]
  have:=b44 v.1
  lia
end
theorem b1L:∀{ps:List Pa},gL ps→ps.length≤knL ps
 |[],_=>AZ _
 |p::ps,v=>by
  rw [gL] at v
  have h1:=b44 v.1
  have h2:=b1L v.2
  rw [knL,AV]
  lia
theorem a7R{P:List Nat→Option (Pa×List Nat)}{m:Nat}(hP:∀{r:List Nat} {p:Pa},gP p→dpP p≤m→knP p≤4000→noF r→P (Y7 p++r)=some (p,r)):∀{n:Nat} {r:List Nat} {ps:List Pa},gL ps→ps≠[]→dpL ps≤m→knL ps≤4000→noF r→(∀t,r≠32::t)→ps.length≤n→E9 P n (shL ps++r)=some (ps,r)
 |0,r,ps,_,ne,_,_,_,_,hl=>absurd (List.eq_nil_of_length_eq_zero (by lia)) ne
 |n+1,r,[],_,ne,_,_,_,_,_=>absurd rfl ne
 |n+1,r,[p],g,_,d,k,f,s,_=>by
  rw [dpL] at d
  rw [knL] at k
  rw [b5p,E9,hP g.1 (Nat.le_trans (Nat.le_max_left _ _) d) (by lia) f,AD]
  dsimp only
  split
  ·rename_i t
   exact absurd rfl (s t)
  ·rfl
 |n+1,r,p::q::ps,g,_,d,k,f,s,hl=>by
  rw [dpL] at d
  rw [knL] at k
  rw [AV] at hl
  have ih:=a7R hP (n:=n) (r:=r) (ps:=q::ps) g.2 (by simp) (Nat.le_trans (Nat.le_max_right _ _) d) (by lia) f s (by lia)
  have f32:noF (32::(shL (q::ps)++r)):=fun y t e=>by cases e;rfl
  rw [a97,List.append_assoc,AN,E9,hP g.1 (Nat.le_trans (Nat.le_max_left _ _) d) (by lia) f32,AD]
  show(E9 P n (shL (q::ps)++r)).map _=_
  rw [ih]
  rfl
theorem b7F:∀{n:Nat} {r:List Nat} {p:Pa},gP p→dpP p≤n→knP p≤4000→noF r→a4T n (Y7 p++r)=some (p,r):=by
 have leaf:∀{ag:List Nat→Option (Pa×List Nat)} {r:List Nat} {c k:Nat},gP (.run c k)→noF r→a6O ag (Y7 (.run c k)++r)=some (.run c k,r):=by
  intro ag r c k g f
  rw [gP] at g
  rw [a5k,AN,a6O,if_neg (by lia),if_pos (a8Q.mpr g.1),a5A g.2.1 g.2.2 f]
  rfl
 intro n
 induction n with
 |zero=>
  intro r p g d k f
  cases p with
  |run c j=>exact leaf g f
  |again j ps=>rw [dpP] at d;lia
 |succ n ih=>
  intro r p g d k f
  cases p with
  |run c j=>exact leaf g f
  |again j ps=>
   rw [gP] at g
   rw [dpP] at d
   rw [knP] at k
   have hk:knL ps*1≤knL ps*j:=Nat.mul_le_mul_left _ (by lia)
   have hl:=b1L g.2.2
   have f41:noF (41::(dg j++r)):=fun y t e=>by cases e;rfl
   have e:=a7R ih (n:=4000) (r:=41::(dg j++r)) (ps:=ps) g.2.2 g.2.1 (by lia) (by lia) f41 (fun t z=>by cases z) (by lia)
   have hw:wt j=dg j:=by unfold wt;rw [if_neg (by lia)]
   have tk:=a5A (r:=r) (k:=j) (by lia) g.1.2 f
   rw [hw] at tk
   rw [a0r,AN,List.append_assoc,AN,a4T,a6O,if_pos rfl]
   unfold a7v
   rw [e,AD]
   show(F8 (dg j++r)).bind _=_
   rw [tk,AD]
   exact if_neg (by show ¬j=1;lia)
def a4Z(t:List Nat):Option (List Pa):=(E9 (a4T 12) 4000 t).bind fun x=>match x.2 with
 |[]=>if 24<knL x.1 then none else some x.1
 |_=>none
theorem b5e:noF []:=fun _ _ e=>by cases e
inductive Wa where
 |rows (k:Nat) (ps:List Pa)
 |again (k:Nat) (ws:List Wa)
abbrev a92:PV:= .str (AY "rows")
mutual
def L8:Wa→PV
 | .rows k ps=> .tuple [a92,.int (k:Nat),.list (r6 ps)]
 | .again k ws=> .tuple [E2,.int (k:Nat),.list (j0 ws)]
def j0:List Wa→List PV
 |[]=>[]
 |w::ws=>L8 w::j0 ws
end
mutual
def unV:Wa→List (List Nat)
 | .rows k ps=>(Ac k).map fun _=>F9 ps
 | .again k ws=>((Ac k).map fun _=>V6 ws).flatten
def V6:List Wa→List (List Nat)
 |[]=>[]
 |w::ws=>unV w++V6 ws
end
mutual
def dpV:Wa→Nat
 | .rows _ _=>0
 | .again _ ws=>L7 ws+1
def L7:List Wa→Nat
 |[]=>0
 |w::ws=>max (dpV w) (L7 ws)
end
def gFo(ps:List Pa):Prop:=gL ps∧ps≠[]∧dpL ps≤12∧knL ps≤24
mutual
def gVx:Wa→Prop
 | .rows k ps=>gFo ps∧1≤k∧k≤24
 | .again k ws=>(2≤k∧k≤24)∧ws≠[]∧T5 ws
def T5:List Wa→Prop
 |[]=>True
 |w::ws=>gVx w∧T5 ws
end
mutual
def knV:Wa→Nat
 | .rows k _=>k
 | .again k ws=>t8 ws*k
def t8:List Wa→Nat
 |[]=>0
 |w::ws=>knV w+t8 ws
end
mutual
def Y5:Wa→List Nat
 | .rows k ps=>91::(shL ps++93::wt k)
 | .again k ws=>123::(a1b [32] (b8b ws)++125::dg k)
def b8b:List Wa→List (List Nat)
 |[]=>[]
 |w::ws=>Y5 w::b8b ws
end
theorem b3w:∀ws:List Wa,b8b ws=ws.map Y5
 |[]=>by rw [b8b];rfl
 |w::ws=>by rw [b8b,AH,b3w ws]
def O5(ws:List Wa):List Nat:=a1b [32] (ws.map Y5)
theorem a0q(k:Nat)(ps:List Pa):Y5 (.rows k ps)=91::(shL ps++93::wt k):=by rw [Y5]
theorem Y6(k:Nat)(ws:List Wa):Y5 (.again k ws)=123::(O5 ws++125::dg k):=by rw [Y5,b3w];rfl
theorem b3v(w:Wa):O5 [w]=Y5 w:=rfl
theorem b1f(p q:Wa)(ps:List Wa):O5 (p::q::ps)=Y5 p++32::O5 (q::ps):=by
 unfold O5
 rw [AH,AH]
 show Y5 p++[32]++a1b [32] (Y5 q::ps.map Y5)=_
 simp
theorem a8N:∀{ws:List Wa} {w:Wa},T5 ws→w∈ws→gVx w
 |q::ws,w,h,hp=>by
  rw [T5] at h
  rcases Am.mp hp with e|hp
  ·rw [e];exact h.1
  ·exact a8N h.2 hp
theorem b1q:∀{ws:List Wa} {w:Wa},w∈ws→dpV w≤L7 ws
 |q::ws,w,hp=>by
  rw [L7]
  rcases Am.mp hp with e|hp
  ·rw [e];exact Nat.le_max_left _ _
  ·exact Nat.le_trans (b1q hp) (Nat.le_max_right _ _)
mutual
theorem b45:∀{w:Wa},gVx w→1≤knV w
 | .rows k ps,v=>by rw [gVx] at v;rw [knV];exact v.2.1
 | .again k ws,v=>by
   rw [gVx] at v
   rw [knV]
   have:=Nat.mul_le_mul (a4P v.2.1 v.2.2) v.1.1
   lia
theorem a4P:∀{ws:List Wa},ws≠[]→T5 ws→1≤t8 ws
 |[],h,_=>absurd rfl h
 |w::ws,_,v=>by
  rw [T5] at v
  rw [t8]
  have:=b45 v.1
  lia
end
theorem a4O:∀{ws:List Wa},T5 ws→ws.length≤t8 ws
 |[],_=>AZ _
 |w::ws,v=>by
  rw [T5] at v
  have h1:=b45 v.1
  have h2:=a4O v.2
  rw [t8,AV]
  lia
theorem b1M:∀{ws:List Wa} {w:Wa},w∈ws→knV w≤t8 ws
 |q::ws,w,hp=>by
  rw [t8]
  rcases Am.mp hp with e|hp
  ·rw [e];lia
  ·have:=b1M hp
   lia
theorem a2W{k:Nat}{qs ws:List Wa}(g:T5 ws)(h:Wa.again k qs∈ws):T5 qs∧qs≠[]∧2≤k∧k≤24∧t8 qs*k≤t8 ws∧t8 qs≤t8 ws∧L7 qs<L7 ws:=by
 have g1:=a8N g h
 have d:=b1q h
 have e:=b1M h
 rw [gVx] at g1
 rw [dpV] at d
 rw [knV] at e
 have:t8 qs*1≤t8 qs*k:=Nat.mul_le_mul_left _ (by lia)
 exact⟨g1.2.2,g1.2.1,g1.1.1,g1.1.2,e,by lia,by lia⟩
theorem a7i(k:Nat)(ps:List Pa):unV (.rows k ps)=(Ac k).map fun _=>F9 ps:=by rw [unV]
theorem a5D(k:Nat)(ws:List Wa):unV (.again k ws)=((Ac k).map fun _=>V6 ws).flatten:=by rw [unV]
mutual
theorem b2m:∀w:Wa,(unV w).length=knV w
 | .rows k ps=>by rw [a7i,knV];simp
 | .again k ws=>by rw [a5D,a15,knV,a1l ws,Nat.mul_comm]
theorem a1l:∀ws:List Wa,(V6 ws).length=t8 ws
 |[]=>by rw [V6,t8];rfl
 |w::ws=>by rw [V6,t8,AX,b2m w,a1l ws]
end
mutual
theorem c0W:∀{p:Pa},gP p→okP p
 | .run c k,g=>by rw [gP] at g;rw [okP];exact⟨g.2.1,g.2.2,g.1⟩
 | .again k ps,g=>by rw [gP] at g;rw [okP];exact⟨g.1.1,g.1.2,g.2.1,a3P g.2.2⟩
theorem a3P:∀{ps:List Pa},gL ps→okL ps
 |[],_=>by rw [okL];trivial
 |p::ps,g=>by rw [gL] at g;rw [okL];exact⟨c0W g.1,a3P g.2⟩
end
mutual
theorem c1X:∀{p:Pa},okP p→gP p
 | .run c k,g=>by rw [okP] at g;rw [gP];exact⟨g.2.2,g.1,g.2.1⟩
 | .again k ps,g=>by rw [okP] at g;rw [gP];exact⟨⟨g.1,g.2.1⟩,g.2.2.1,b68 g.2.2.2⟩
theorem b68:∀{ps:List Pa},okL ps→gL ps
 |[],_=>by rw [gL];trivial
 |p::ps,g=>by rw [okL] at g;rw [gL];exact⟨c1X g.1,b68 g.2⟩
end
mutual
theorem c0S:∀p:Pa,knP p=(unP p).length
 | .run c k=>by rw [knP,a37]
 | .again k ps=>by rw [knP,a2l,a2b ps,Nat.mul_comm]
theorem a2b:∀ps:List Pa,knL ps=(F9 ps).length
 |[]=>by rw [knL,F9];rfl
 |p::ps=>by rw [knL,F9,AX,c0S p,a2b ps]
end
theorem b3o{t:List Nat}{ps:List Pa}(h:a4Z t=some ps):t=shL ps∧gFo ps:=by
 unfold a4Z at h
 cases e:E9 (a4T 12) 4000 t with
 |none=>rw [e] at h;cases h
 |some x=>
  obtain⟨qs,r⟩:=x
  rw [e,AD] at h
  obtain⟨b1,b2,b3,b4,_,_⟩:=a0l (a1i (n:=12)) e
  dsimp only at h
  split at h
  ·split at h
   ·cases h
   ·rename_i hk
    cases h
    rw [Ad] at b1
    exact⟨b1,b2,b3,b4,by lia⟩
  ·cases h
theorem b7X{ps:List Pa}(g:gFo ps):a4Z (shL ps)=some ps:=by
 obtain⟨g1,g2,g3,g4⟩:=g
 have hl:=b1L g1
 have:=a7R (b7F (n:=12)) (n:=4000) (r:=[]) (ps:=ps) g1 g2 g3 (by lia) b5e (fun t z=>by cases z) (by lia)
 rw [Ad] at this
 unfold a4Z
 rw [this,AD]
 show(if 24<knL ps then none else some ps)=some ps
 rw [if_neg (by lia)]
theorem b3z{c:Nat}:∀{a b:List Nat},c∉a→C5 (· !=c) (a++c::b)=(a,c::b)
 |[],b,_=>by rw [AQ,C5,if_neg (by simp)]
 |x::a,b,h=>by
  have hx:x≠c:=fun z=>h (by rw [z];exact Al)
  rw [AN,C5,if_pos (by simpa using hx),b3z fun z=>h (Ak _ z)]
theorem b9V(k:Nat)(h:k≤24):∀x∈dg k,x≤57:=by
 intro x hx
 unfold dg at hx
 split at hx
 ·simp at hx;lia
 ·simp at hx;lia
theorem c2B(k:Nat)(h:k≤24):∀x∈wt k,x≤57:=by
 intro x hx
 unfold wt at hx
 split at hx
 ·cases hx
 ·exact b9V k h x hx
mutual
theorem b79:∀{p:Pa},gP p→∀x∈Y7 p,x≠93
 | .run c k,g,x,hx=>by
   rw [gP] at g
   rw [a5k] at hx
   rcases Am.mp hx with e|h
   ·lia
   ·have:=c2B k g.2.2 x h
    lia
 | .again k ps,g,x,hx=>by
   rw [gP] at g
   rw [a0r] at hx
   rcases Am.mp hx with e|h
   ·lia
   ·rcases Av.mp h with h|h
    ·exact b4t g.2.2 x h
    ·rcases Am.mp h with e|h
     ·lia
     ·have:=b9V k g.1.2 x h
      lia
theorem b4t:∀{ps:List Pa},gL ps→∀x∈shL ps,x≠93
 |[],_,x,hx=>by cases hx
 |[p],g,x,hx=>by rw [gL] at g;exact b79 g.1 x hx
 |p::q::ps,g,x,hx=>by
  rw [gL] at g
  rw [a97] at hx
  rcases Av.mp hx with h|h
  ·exact b79 g.1 x h
  ·rcases Am.mp h with e|h
   ·lia
   ·exact b4t g.2 x h
end
def c0a(t:List Nat):List Nat→Option (Wa×List Nat)
 |[]=>none
 |_::b=>(a4Z t).bind fun ps=>(F8 b).map fun y=>(.rows y.1 ps,y.2)
def a8j(r:List Nat):Option (Wa×List Nat):=c0a (C5 (· !=93) r).1 (C5 (· !=93) r).2
def E8(P:List Nat→Option (Wa×List Nat)):Nat→List Nat→Option (List Wa×List Nat)
 |0,_=>none
 |n+1,s=>(P s).bind fun x=>match x.2 with
  |32::r=>(E8 P n r).map fun y=>(x.1::y.1,y.2)
  |r=>some ([x.1],r)
def a7w(P:List Nat→Option (Wa×List Nat))(s:List Nat):Option (Wa×List Nat):=(E8 P 4000 s).bind fun x=>match x.2 with
 |125::r=>(F8 r).bind fun y=>if y.1=1 then none else some (.again y.1 x.1,y.2)
 |_=>none
def a6P(ag:List Nat→Option (Wa×List Nat)):List Nat→Option (Wa×List Nat)
 |[]=>none
 |c::r=>if c=123 then ag r else if c=91 then a8j r else none
def a4U:Nat→List Nat→Option (Wa×List Nat)
 |0=>a6P fun _=>none
 |n+1=>a6P (a7w (a4U n))
theorem b3s{s r:List Nat}{w:Wa}(h:a8j s=some (w,r)):91::s=Y5 w++r∧gVx w∧dpV w≤0∧noF r:=by
 unfold a8j at h
 have ap:=a0O (· !=93) s
 have st:=a0P (· !=93) s
 generalize (C5 (· !=93) s).1=a at h ap
 generalize (C5 (· !=93) s).2=b at h ap st
 cases b with
 |nil=>cases h
 |cons c b=>
  have hc:c=93:=by simpa using st c b rfl
  subst hc
  rw [c0a] at h
  cases e:a4Z a with
  |none=>rw [e] at h;cases h
  |some ps=>
   rw [e,AD] at h
   obtain⟨e1,g⟩:=b3o e
   cases e2:F8 b with
   |none=>rw [e2] at h;cases h
   |some y=>
    obtain⟨k,r0⟩:=y
    rw [e2] at h
    cases h
    obtain⟨t1,t2,t3,t4⟩:=a1R e2
    refine⟨?_, ?_,by rw [dpV];exact AZ _,t4⟩
    ·rw [a0q,ap,e1,t1];simp
    ·rw [gVx];exact⟨g,t2,t3⟩
theorem b71{r:List Nat}{k:Nat}{ps:List Pa}(g:gFo ps)(h1:1≤k)(h2:k≤24)(hr:noF r):a8j (shL ps++93::(wt k++r))=some (.rows k ps,r):=by
 unfold a8j
 rw [b3z fun z=>b4t g.1 93 z rfl]
 show(a4Z (shL ps)).bind (fun ps=>(F8 (wt k++r)).map fun y=>(Wa.rows y.1 ps,y.2))=_
 rw [b7X g,AD,a5A h1 h2 hr]
 rfl
theorem a0k{P:List Nat→Option (Wa×List Nat)}{m:Nat}(hP:∀{s r:List Nat} {p:Wa},P s=some (p,r)→s=Y5 p++r∧gVx p∧dpV p≤m∧noF r):∀{n:Nat} {s r:List Nat} {ps:List Wa},E8 P n s=some (ps,r)→s=O5 ps++r∧T5 ps∧ps≠[]∧L7 ps≤m∧noF r∧(∀t,r≠32::t)
 |0,s,r,ps,h=>by cases h
 |n+1,s,r,ps,h=>by
  rw [E8] at h
  cases e:P s with
  |none=>rw [e] at h;cases h
  |some x=>
   obtain⟨p,r0⟩:=x
   rw [e,AD] at h
   obtain⟨a1,a2,a3,a4⟩:=hP e
   dsimp only at h
   split at h
   ·rename_i r1
    cases e2:E8 P n r1 with
    |none=>rw [e2] at h;cases h
    |some y=>
     obtain⟨qs,r2⟩:=y
     rw [e2] at h
     cases h
     obtain⟨b1,b2,b3,b4,b5,b6⟩:=a0k hP e2
     refine⟨?_,by rw [T5];exact⟨a2,b2⟩,by simp,by rw [L7];exact Nat.max_le.mpr ⟨a3,b4⟩,b5,b6⟩
     cases qs with
     |nil=>exact absurd rfl b3
     |cons q qs=>rw [b1f,a1,b1];simp
   ·rename_i hx
    cases h
    exact⟨by rw [b3v];exact a1,by rw [T5,T5];exact⟨a2,trivial⟩,by simp,by rw [L7,L7];exact Nat.max_le.mpr ⟨a3,Nat.zero_le _⟩,a4,fun t z=>hx t z⟩
theorem a1j:∀{n:Nat} {s r:List Nat} {p:Wa},a4U n s=some (p,r)→s=Y5 p++r∧gVx p∧dpV p≤n∧noF r:=by
 have leaf:∀{ag:List Nat→Option (Wa×List Nat)} {n:Nat},(∀{s r:List Nat} {p:Wa},ag s=some (p,r)→123::s=Y5 p++r∧gVx p∧dpV p≤n∧noF r)→∀{s r:List Nat} {p:Wa},a6P ag s=some (p,r)→s=Y5 p++r∧gVx p∧dpV p≤n∧noF r:=by
  intro ag n ha s r p h
  cases s with
  |nil=>cases h
  |cons c s=>
   rw [a6P] at h
   split at h
   ·rename_i hc
    rw [hc]
    exact ha h
   ·split at h
    ·rename_i hl
     rw [hl]
     obtain⟨z1,z2,z3,z4⟩:=b3s h
     exact⟨z1,z2,by lia,z4⟩
    ·cases h
 intro n
 induction n with
 |zero=>intro s r p h;exact leaf (fun z=>by cases z) h
 |succ n ih=>
  intro s r p h
  refine leaf (n:=n+1) (fun {s r p} h=> ?_) h
  unfold a7w at h
  cases e:E8 (a4U n) 4000 s with
  |none=>rw [e] at h;cases h
  |some x=>
   obtain⟨ps,r0⟩:=x
   rw [e,AD] at h
   obtain⟨b1,b2,b3,b4,b5,b6⟩:=a0k ih e
   dsimp only at h
   split at h
   ·rename_i r1
    cases e2:F8 r1 with
    |none=>rw [e2] at h;cases h
    |some y=>
     obtain⟨k,r2⟩:=y
     rw [e2,AD] at h
     dsimp only at h
     split at h
     ·cases h
     ·rename_i hk
      cases h
      obtain⟨t1,t2,t3,t4⟩:=a1R e2
      have hw:wt k=dg k:=by unfold wt;rw [if_neg hk]
      refine⟨?_,by rw [gVx];exact⟨⟨by lia,t3⟩,b3,b2⟩,by rw [dpV];lia,t4⟩
      rw [Y6,b1,t1,hw]
      simp
   ·cases h
theorem a7Q{P:List Nat→Option (Wa×List Nat)}{m:Nat}(hP:∀{r:List Nat} {p:Wa},gVx p→dpV p≤m→knV p≤4000→noF r→P (Y5 p++r)=some (p,r)):∀{n:Nat} {r:List Nat} {ps:List Wa},T5 ps→ps≠[]→L7 ps≤m→t8 ps≤4000→noF r→(∀t,r≠32::t)→ps.length≤n→E8 P n (O5 ps++r)=some (ps,r)
 |0,r,ps,_,ne,_,_,_,_,hl=>absurd (List.eq_nil_of_length_eq_zero (by lia)) ne
 |n+1,r,[],_,ne,_,_,_,_,_=>absurd rfl ne
 |n+1,r,[p],g,_,d,k,f,s,_=>by
  rw [T5] at g
  rw [L7] at d
  rw [t8] at k
  rw [b3v,E8,hP g.1 (Nat.le_trans (Nat.le_max_left _ _) d) (by lia) f,AD]
  dsimp only
  split
  ·rename_i t
   exact absurd rfl (s t)
  ·rfl
 |n+1,r,p::q::ps,g,_,d,k,f,s,hl=>by
  rw [T5] at g
  rw [L7] at d
  rw [t8] at k
  rw [AV] at hl
  have ih:=a7Q hP (n:=n) (r:=r) (ps:=q::ps) g.2 (by simp) (Nat.le_trans (Nat.le_max_right _ _) d) (by lia) f s (by lia)
  have f32:noF (32::(O5 (q::ps)++r)):=fun y t e=>by cases e;rfl
  rw [b1f,List.append_assoc,AN,E8,hP g.1 (Nat.le_trans (Nat.le_max_left _ _) d) (by lia) f32,AD]
  show(E8 P n (O5 (q::ps)++r)).map _=_
  rw [ih]
  rfl
theorem b7G:∀{n:Nat} {r:List Nat} {p:Wa},gVx p→dpV p≤n→knV p≤4000→noF r→a4U n (Y5 p++r)=some (p,r):=by
 have leaf:∀{ag:List Nat→Option (Wa×List Nat)} {r:List Nat} {k:Nat} {ps:List Pa},gVx (.rows k ps)→noF r→a6P ag (Y5 (.rows k ps)++r)=some (.rows k ps,r):=by
  intro ag r k ps g f
  rw [gVx] at g
  rw [a0q,AN,a6P,if_neg (by lia),if_pos rfl,List.append_assoc,AN,b71 g.1 g.2.1 g.2.2 f]
 intro n
 induction n with
 |zero=>
  intro r p g d k f
  cases p with
  |rows j ps=>exact leaf g f
  |again j ps=>rw [dpV] at d;lia
 |succ n ih=>
  intro r p g d k f
  cases p with
  |rows j ps=>exact leaf g f
  |again j ps=>
   rw [gVx] at g
   rw [dpV] at d
   rw [knV] at k
   have hk:t8 ps*1≤t8 ps*j:=Nat.mul_le_mul_left _ (by lia)
   have hl:=a4O g.2.2
   have f41:noF (125::(dg j++r)):=fun y t e=>by cases e;rfl
   have e:=a7Q ih (n:=4000) (r:=125::(dg j++r)) (ps:=ps) g.2.2 g.2.1 (by lia) (by lia) f41 (fun t z=>by cases z) (by lia)
   have hw:wt j=dg j:=by unfold wt;rw [if_neg (by lia)]
   have tk:=a5A (r:=r) (k:=j) (by lia) g.1.2 f
   rw [hw] at tk
   rw [Y6,AN,List.append_assoc,AN,a4U,a6P,if_pos rfl]
   unfold a7w
   rw [e,AD]
   show(F8 (dg j++r)).bind _=_
   rw [tk,AD]
   exact if_neg (by show ¬j=1;lia)
theorem b9C:∀p:Wa,1≤(Y5 p).length
 | .rows k ps=>by rw [a0q,AV];lia
 | .again k ps=>by rw [Y6,AV];lia
theorem b38(a b:Nat):a2R (.val (row [a])) (.val (row [b]))=some (.val (.bool (decide (a≤b)))):=by
 show some (f6.val (.bool (!decide ((S [b]).cps.toList<(S [a]).cps.toList))))=_
 rw [a4b,a4b]
 congr 3
 have:([b]<[a])↔b<a:=by rw [List.cons_lt_cons_iff];simp
 by_cases h:a≤b
 ·rw [decide_eq_true h,decide_eq_false (fun z=>by have:=this.mp z;lia)];rfl
 ·rw [decide_eq_false h,decide_eq_true (this.mpr (by lia))];rfl
theorem a8V{pre r:List Nat}{x:Nat}(hl:(pre++x::r).length≤10000):m9 (.val (row (pre++x::r))) (.val (.int (pre.length:Nat)))=some (.val (row [x])):=by
 refine b66 (by lia) ?_
 rw [b2B,List.getElem?_append_right (AZ _),Nat.sub_self]
 rfl
theorem M6{l:List Nat}(h:l.length≤10000):G3 (.val (row l))=some (.val (.int (l.length:Nat))):=by
 show(if(S l).length≤AU then some (f6.val (.int ((S l).length:Nat))) else none)=_
 rw [a1x,if_pos (by rw [sizeLine_eq];lia)]
theorem b4U(a b:List Nat):gEq (.val (row a)) (.val (row b))=some (.val (.bool (a==b))):=by
 have h:=b8X a b
 rw [b1B (x:= .val (row a)) (y:= .val (row b)) ⟨rfl,rfl⟩] at h
 rw [b3X (x:= .val (row a)) (y:= .val (row b)) ⟨rfl,rfl⟩]
 have h:=Option.some.inj h
 injection h with h
 injection h with h
 rw [Bool.not_inj h]
theorem b8K{pre ds post:List Nat}:cut (pre++(ds++post)) (some (pre.length:Nat)) (some ((pre.length+ds.length:Nat):Int))=ds:=by
 unfold cut
 have h1:HT.sIx (pre++(ds++post)).length 0 (some (pre.length:Nat))=pre.length:=by rw [HT.sIx_nat];simp
 have h2:HT.sIx (pre++(ds++post)).length (pre++(ds++post)).length (some ((pre.length+ds.length:Nat):Int))=pre.length+ds.length:=by
  rw [HT.sIx_nat];simp
 rw [h1,h2,List.drop_left,Nat.add_sub_cancel_left,List.take_left]
theorem b8e{pre ds post:List Nat}(hT:(pre++(ds++post)).length≤10000):gSl (.val (row (pre++(ds++post)))) (some (pre.length:Nat)) (some ((pre.length+ds.length:Nat):Int))=some (.val (row ds)):=by
 show(if(S (pre++(ds++post))).length≤AU then some (f6.val (.str ⟨(cut (S (pre++(ds++post))).cps.toList (some (pre.length:Nat)) (some ((pre.length+ds.length:Nat):Int))).toArray⟩)) else none)=_
 rw [a1x,if_pos (by rw [sizeLine_eq];lia),a4b,b8K]
 rfl
theorem X4{pre s y:List Nat}:B3 (.val (row (pre++s))) (.val (row y)) (.val (.int (pre.length:Nat)))=some (.val (.bool (y.isPrefixOf s))):=by
 show some (f6.val (.bool _))=_
 congr 3
 have f:fromIndex (S (pre++s)).length (pre.length:Nat)=pre.length:=by
  unfold fromIndex
  rw [if_neg (by lia)]
  lia
 rw [f,a1x,a1x]
 unfold Builtin.Str.subAt
 rw [a1x]
 have e:(S (pre++s)).cps.extract pre.length (pre.length+y.length)=(s.take y.length).toArray:=by
  apply Array.ext'
  rw [Array.toList_extract,a4b]
  simp [List.extract]
 rw [e]
 have e2:((s.take y.length).toArray==(S y).cps)=(s.take y.length==y):=by
  show((s.take y.length).toArray==y.toArray)=_
  simp
 rw [e2]
 cases h:y.isPrefixOf s with
 |true=>
  have h:=List.isPrefixOf_iff_prefix.mp h
  obtain⟨t,rfl⟩:=h
  simp
 |false=>
  have h:¬y<+:s:=fun z=>by rw [List.isPrefixOf_iff_prefix.mpr z] at h;cases h
  by_cases hl:pre.length+y.length≤(pre++s).length
  ·rw [decide_eq_true hl,Bool.true_and]
   have:s.take y.length≠y:=fun z=>h (z▸List.take_prefix _ _)
   simpa using this
  ·rw [decide_eq_false hl,Bool.false_and]
theorem b3u{lo hi:Nat}{post:List Nat}(hp:∀y r,post=y::r→¬(lo≤y∧y≤hi)){T:List Nat}(hT:T.length≤10000){q1:Option f6}:∀(ds pre:List Nat) (fuel:Nat),T=pre++(ds++post)→(∀x∈ds,lo≤x∧x≤hi)→ds.length<fuel→
 O6 (a4g (K5 (m2 b1A (b7 4) (m1 G3 (b7 0)))) (K5 (a2Y a2R a2R (b7 2) (m2 m9 (b7 0) (b7 4)) (b7 3)))) a1L fuel [some (.val (row T)),q1,some (.val (row [lo])),some (.val (row [hi])),some (.val (.int (pre.length:Nat)))]
  =some (.nx [some (.val (row T)),q1,some (.val (row [lo])),some (.val (row [hi])),some (.val (.int ((pre.length+ds.length:Nat):Int)))])
 |[],pre,fuel,e,_,hf=>by
  obtain⟨fuel,rfl⟩:∃k,fuel=k+1:=⟨fuel - 1,by have:([]:List Nat).length=0:=rfl;lia⟩
  have gl:=M6 hT
  have c:a4g (K5 (m2 b1A (b7 4) (m1 G3 (b7 0)))) (K5 (a2Y a2R a2R (b7 2) (m2 m9 (b7 0) (b7 4)) (b7 3))) [some (.val (row T)),q1,some (.val (row [lo])),some (.val (row [hi])),some (.val (.int (pre.length:Nat)))]=some false:=by
   cases post with
   |nil=>
    have hlt:decide ((pre.length:Int)<(T.length:Nat))=false:=decide_eq_false (by rw [e];simp)
    simp (disch:=omega) only [a2T,d6,m6,c7,e7,f7,h9,v7,a4t,AD,gl,hlt]
   |cons y r=>
    have hlt:decide ((pre.length:Int)<(T.length:Nat))=true:=decide_eq_true (by rw [e];simp;lia)
    have sa:m9 (.val (row T)) (.val (.int (pre.length:Nat)))=some (.val (row [y])):=by rw [e];exact a8V (by rw [e] at hT;exact hT)
    have hy:=hp y r rfl
    by_cases h1:lo≤y
    ·have h2:decide (y≤hi)=false:=decide_eq_false fun z=>hy ⟨h1,z⟩
     simp (disch:=omega) only [a2T,l9,a4e,d6,m6,c7,e7,f7,h9,v7,a0B,AD,gl,hlt,sa,b38,decide_eq_true h1,h2]
    ·simp (disch:=omega) only [a2T,l9,b2D,d6,m6,c7,e7,f7,h9,v7,a0B,AD,gl,hlt,sa,b38,decide_eq_false h1]
  rw [O6,c,AD,if_neg Ao]
  rfl
 |d::ds,pre,fuel,e,hd,hf=>by
  obtain⟨fuel,rfl⟩:∃k,fuel=k+1:=⟨fuel - 1,by rw [AV] at hf;lia⟩
  rw [AV] at hf
  have gl:=M6 hT
  have e':T=pre++d::(ds++post):=e
  have hlt:decide ((pre.length:Int)<(T.length:Nat))=true:=decide_eq_true (by rw [e'];simp;lia)
  have sa:m9 (.val (row T)) (.val (.int (pre.length:Nat)))=some (.val (row [d])):=by rw [e'];exact a8V (by rw [e'] at hT;exact hT)
  have hd1:=hd d Al
  have c:a4g (K5 (m2 b1A (b7 4) (m1 G3 (b7 0)))) (K5 (a2Y a2R a2R (b7 2) (m2 m9 (b7 0) (b7 4)) (b7 3))) [some (.val (row T)),q1,some (.val (row [lo])),some (.val (row [hi])),some (.val (.int (pre.length:Nat)))]=some true:=by
   simp (disch:=omega) only [a2T,l9,a4e,d6,m6,c7,e7,f7,h9,v7,a0B,AD,gl,hlt,sa,b38,decide_eq_true hd1.1,decide_eq_true hd1.2]
  have b:a1L [some (.val (row T)),q1,some (.val (row [lo])),some (.val (row [hi])),some (.val (.int (pre.length:Nat)))]=some (.nx [some (.val (row T)),q1,some (.val (row [lo])),some (.val (row [hi])),some (.val (.int ((pre++[d]).length:Nat)))]):=by
   unfold a1L a2d
   show some _=_
   rw [AX,List.length_singleton,Int.natCast_add]
   rfl
  have ih:=b3u hp hT (q1:=q1) ds (pre++[d]) fuel (by rw [e];simp) (fun x hx=>hd x (Ak _ hx)) (by lia)
  rw [O6,c,AD,if_pos rfl,b,AD]
  show O6 _ _ fuel _=_
  rw [ih,AX,List.length_singleton,AV,show pre.length+1+ds.length=pre.length+(ds.length+1) by lia]
theorem b4O{pre s:List Nat}(hT:(pre++s).length≤3990):Q1 [row (pre++s),.int (pre.length:Nat)]=some (.val (.int ((pre.length+(C5 isF s).1.length:Nat):Int))):=by
 have ap:=a0O isF s
 have hlen:(C5 isF s).1.length≤s.length:=by have:=congrArg List.length ap;rw [AX] at this;lia
 rw [AX] at hT
 have e:=b3u (lo:=48) (hi:=57) (post:=(C5 isF s).2) (fun y r h z=>by have:=a0P isF s y r h;rw [a1J.mpr z] at this;cases this) (T:=pre++s) (by rw [AX];lia) (q1:=some (.val (.int (pre.length:Nat)))) (C5 isF s).1 pre 4000 (by rw [←ap]) (fun x hx=>a1J.mp (a3q isF s x hx)) (by lia)
 have s0:AY "0"=S [48]:=rfl
 have s9:AY "9"=S [57]:=rfl
 unfold Q1 a5Q a7G b0E
 rw [s0,s9]
 simp (disch:=omega) only [d4,c7,e7,d0,c9,c8,e8,g5,j4,i3,j7,d7,g7,g6,i5,AD,AH,AR,AW,AO,Ad,AN,AQ,AS,AT,W1,W2,e]
theorem b0a{p:Nat→Bool}:∀{w:List Nat},(∀x∈w,p x=true)→C5 p w=(w,[])
 |[],_=>rfl
 |x::r,h=>by
  unfold C5
  rw [if_pos (h x Al),b0a fun y hy=>h y (Ak _ hy)]
def c2R:Option Nat→PV
 |some k=> .int (k:Nat)
 |none=> .none
theorem b8Y{ds:List Nat}(hd:∀x∈ds,isF x=true)(h1:1≤ds.length)(h4:ds.length≤4):b4W (.val (row ds))=some (.val (.int (a54 ds:Nat))):=by
 show(if(S ds).length≤640 then(intText? (S ds)).map (fun n=>f6.val (.int n)) else none)=_
 rw [a1x,if_pos (by lia)]
 have:=PySem.intText_digits (x:=S ds) (by rw [a4b];exact fun c hc=>a1J.mp (hd c hc)) (by rw [a4b];intro z;rw [z] at h1;cases h1) (by rw [a1x];lia)
 rw [this,a4b]
 rfl
theorem b6a{ds:List Nat}(hd:∀x∈ds,isF x=true)(hl:ds.length≤3990):a2y [row ds]=some (.val (if(decide (1≤ds.length)&& decide (ds.length≤4))=true then if(ds.head?==some 48 && decide (1<ds.length))=true then .none else .int (a54 ds:Nat) else .none)):=by
 have fe:=b4O (pre:=[]) (s:=ds) (by simpa using hl)
 rw [b0a hd,AQ,Af,Nat.zero_add] at fe
 have fe:Q1 [row ds,.int 0]=some (.val (.int (ds.length:Nat))):=fe
 have gl:=M6 (l:=ds) (by lia)
 have ne:gNe (.val (.int (ds.length:Nat))) (.val (.int (ds.length:Nat)))=some (.val (.bool false)):=by simp (disch:=omega) only [Bool.not_true,beq_self_eq_true,a4G]
 have c4:a0t= .int 4:=rfl
 unfold a2y a77
 rw [c4]
 by_cases h1:(1:Int)≤(ds.length:Nat)
 ·have d1:decide (1≤ds.length)=true:=decide_eq_true (by lia)
  by_cases h2:((ds.length:Nat):Int)≤4
  ·have d2:decide (ds.length≤4)=true:=decide_eq_true (by lia)
   have it:=b8Y hd (by lia) (by lia)
   obtain⟨d,r,e⟩:∃d r,ds=d::r:=by
    cases ds with
    |nil=>exact absurd h1 (by simp)
    |cons d r=>exact⟨d,r,rfl⟩
   have ix:m9 (.val (row ds)) (.val (.int 0))=some (.val (row [d])):=by
    have:=a8V (pre:=[]) (x:=d) (r:=r) (by rw [AQ,←e];lia)
    rw [AQ,←e] at this
    exact this
   have s0:AY "0"=S [48]:=rfl
   have e0:=b4U [d] [48]
   have hh:(ds.head?==some 48)=([d]==[48]):=by rw [e];simp
   rw [s0,d1,d2,hh]
   by_cases h3:(1:Int)<(ds.length:Nat)
   ·have d3:decide (1<ds.length)=true:=decide_eq_true (by lia)
    rw [d3]
    cases hq:([d]==[48]) with
    |true=>
     rw [hq] at e0
     simp (disch:=omega) only [A6,a2S,l9,a4e,d6,m6,d4,c7,d0,c9,c8,e8,i3,j7,d7,g7,o0,d8,p9,n5,i4,g6,i5,f7,h9,j3,m8,v7,J9,a0B,AD,Ah,AH,AR,AO,Ad,Bool.not_true,gl,fe,ne,decide_eq_true h1,decide_eq_true h2,ix,e0,decide_eq_true h3,l9]
     try rfl
    |false=>
     rw [hq] at e0
     simp (disch:=omega) only [a2S,l9,a4e,d6,m6,d4,c7,d0,c9,c8,e8,i3,j7,d7,g7,d8,n5,i4,g6,i5,f7,h9,j3,m8,v7,J9,a4t,AD,Ah,AH,AR,AO,Ad,Bool.not_true,gl,fe,ne,decide_eq_true h1,decide_eq_true h2,ix,e0,it,l9]
     try rfl
   ·have d3:decide (1<ds.length)=false:=decide_eq_false (by lia)
    rw [d3]
    cases hq:([d]==[48]) with
    |true=>
     rw [hq] at e0
     simp (disch:=omega) only [A6,a2S,l9,a4e,d6,m6,d4,c7,d0,c9,c8,e8,i3,j7,d7,g7,d8,n5,i4,g6,i5,f7,h9,j3,m8,v7,J9,a0B,AD,Ah,AH,AR,AO,Ad,Bool.not_true,gl,fe,ne,decide_eq_true h1,decide_eq_true h2,ix,e0,decide_eq_false h3,it,l9]
     try rfl
    |false=>
     rw [hq] at e0
     simp (disch:=omega) only [a2S,l9,a4e,d6,m6,d4,c7,d0,c9,c8,e8,i3,j7,d7,g7,d8,n5,i4,g6,i5,f7,h9,j3,m8,v7,J9,a4t,AD,Ah,AH,AR,AO,Ad,Bool.not_true,gl,fe,ne,decide_eq_true h1,decide_eq_true h2,ix,e0,it,l9]
     try rfl
  ·have d2:decide (ds.length≤4)=false:=decide_eq_false (by lia)
   rw [d1,d2]
   simp (disch:=omega) only [a2S,l9,a4e,m6,d4,c7,i3,j7,d7,o0,d8,p9,g6,i5,f7,h9,j3,m8,a4i,AD,Ah,AH,AR,AO,Ad,Bool.not_false,gl,decide_eq_true h1,decide_eq_false h2,l9]
   try rfl
 ·have d1:decide (1≤ds.length)=false:=decide_eq_false (by lia)
  rw [d1]
  simp (disch:=omega) only [a2S,l9,b2D,m6,d4,c7,i3,j7,d7,o0,d8,p9,g6,i5,f7,h9,j3,m8,a4i,AD,Ah,AH,AR,AO,Ad,Bool.not_false,gl,decide_eq_false h1,l9]
  try rfl
theorem a3j:a2Q false (.val .none) (.val .none)=some (.val (.bool true)):=Eq.trans rfl rfl
theorem b41(i:Int):a2Q false (.val (.int i)) (.val .none)=some (.val (.bool false)):=Eq.trans rfl rfl
theorem b0U(ps:List PV):a2Q false (.val (.tuple ps)) (.val .none)=some (.val (.bool false)):=Eq.trans rfl rfl
theorem b8F{ds:List Nat}(hd:∀x∈ds,isF x=true)(hl:ds.length≤3990):G4 [row ds,.int 2,.int 24]=some (.val (c2R (b1P ds))):=by
 have hn:=b6a hd hl
 unfold G4 a29 b1P
 cases c1:(decide (1≤ds.length)&& decide (ds.length≤4)) with
 |false=>
  rw [c1] at hn
  rw [if_neg Ao] at hn ⊢
  simp (disch:=omega) only [d6,d4,c7,e7,d0,c9,c8,e8,g5,j4,i3,j7,d7,g7,o0,d8,p9,g6,i5,f7,h9,m8,a4i,AD,AH,AR,AW,AO,AN,AQ,AS,AT,hn,a3j]
  try rfl
 |true=>
  rw [c1,if_pos rfl] at hn
  rw [if_pos rfl]
  cases c2:(ds.head?==some 48 && decide (1<ds.length)) with
  |true=>
   rw [c2,if_pos rfl] at hn
   rw [if_pos rfl]
   simp (disch:=omega) only [d6,d4,c7,e7,d0,c9,c8,e8,g5,j4,i3,j7,d7,g7,o0,d8,p9,g6,i5,f7,h9,m8,a4i,AD,AH,AR,AW,AO,AN,AQ,AS,AT,hn,a3j]
   try rfl
  |false=>
   rw [c2,if_neg Ao] at hn
   rw [if_neg Ao]
   by_cases h1:(2:Int)≤(a54 ds:Nat)
   ·have d1:decide (2≤a54 ds)=true:=decide_eq_true (by lia)
    by_cases h2:((a54 ds:Nat):Int)≤24
    ·have d2:decide (a54 ds≤24)=true:=decide_eq_true (by lia)
     rw [d1,d2]
     simp (disch:=omega) only [a2S,l9,a4e,d6,d4,c7,e7,d0,c9,c8,e8,g5,j4,d7,g7,d8,n5,i4,g6,i5,f7,h9,j3,m8,J9,AD,Ah,AH,AR,AW,AO,AN,AQ,AS,AT,Bool.not_true,W1,W2,hn,b41,decide_eq_true h1,decide_eq_true h2,l9]
     try rfl
    ·have d2:decide (a54 ds≤24)=false:=decide_eq_false (by lia)
     rw [d1,d2]
     simp (disch:=omega) only [a2S,l9,a4e,d6,d4,c7,e7,d0,c9,c8,e8,g5,j4,i3,j7,d7,g7,o0,d8,p9,g6,i5,f7,h9,j3,m8,J9,AD,Ah,AH,AR,AW,AO,AN,AQ,AS,AT,Bool.not_false,hn,b41,decide_eq_true h1,decide_eq_false h2,l9]
     try rfl
   ·have d1:decide (2≤a54 ds)=false:=decide_eq_false (by lia)
    rw [d1]
    simp (disch:=omega) only [a2S,l9,b2D,d6,d4,c7,e7,d0,c9,c8,e8,g5,j4,i3,j7,d7,g7,o0,d8,p9,g6,i5,f7,h9,j3,m8,J9,AD,Ah,AH,AR,AW,AO,AN,AQ,AS,AT,Bool.not_false,hn,b41,decide_eq_false h1,l9]
    try rfl
theorem b6f(c:Nat)(s:List Nat):([c].isPrefixOf s)=true↔∃r,s=c::r:=by
 rw [List.isPrefixOf_iff_prefix]
 exact⟨fun⟨r,h⟩=>⟨r,h.symm⟩,fun⟨r,h⟩=>⟨r,h.symm⟩⟩
def c2Y(T:List Nat):Option (Nat×List Nat)→PV
 |some (k,r)=> .tuple [.int (k:Nat),.int ((T.length - r.length:Nat):Int)]
 |none=> .none
theorem c0D(i j:Nat):gEq (.val (.int (i:Nat))) (.val (.int (j:Nat)))=some (.val (.bool (decide (i=j)))):=by
 rw [P0]
 congr 3
 by_cases h:i=j
 ·rw [decide_eq_true h,h];simp
 ·rw [decide_eq_false h,beq_eq_false_iff_ne];lia
theorem a7g{pre s:List Nat}(hT:(pre++s).length≤3990):v6 [row (pre++s),.int (pre.length:Nat)]=some (.val (c2Y (pre++s) (F8 s))):=by
 have fe:=b4O hT
 have ap:=a0O isF s
 have al:=a3q isF s
 unfold F8
 generalize hds:(C5 isF s).1=ds at*
 generalize hpo:(C5 isF s).2=post at*
 have e0:=c0D (pre.length+ds.length) pre.length
 by_cases c:ds=[]
 ·rw [if_pos c]
  subst c
  rw [decide_eq_true (by simp)] at e0
  have hl:(pre++s).length - s.length=pre.length+([]:List Nat).length:=by rw [AX];simp
  show _=some (f6.val (.tuple [.int 1,.int (((pre++s).length - s.length:Nat):Int)]))
  rw [Af,Nat.add_zero] at fe hl
  rw [hl]
  unfold v6 a52
  simp (disch:=omega) only [d6,d4,c7,e7,d0,c9,c8,z7,e8,g5,j4,i3,j7,d7,g7,o0,d8,p9,g6,i5,f7,h9,AD,AH,AR,AW,AO,AN,AQ,AS,AT,AV,Af,↓reduceIte,sz,Nat.reduceAdd,Ai,beq_self_eq_true,P0,fe]
  try rfl
 ·rw [if_neg c]
  have hp:0<ds.length:=List.length_pos_iff.mpr c
  rw [decide_eq_false (by lia)] at e0
  have sl:=b8e (pre:=pre) (ds:=ds) (post:=post) (by rw [←ap];lia)
  rw [←ap] at sl
  have hlen:ds.length+post.length=s.length:=by have:=congrArg List.length ap;rw [AX] at this;lia
  rw [AX] at hT
  have be:=b8F al (by lia)
  have v24:Q8= .int 24:=rfl
  have hr:(pre++s).length - post.length=pre.length+ds.length:=by rw [AX];lia
  unfold v6 a52
  rw [v24]
  cases hn:b1P ds with
  |none=>
   rw [hn] at be
   have be:G4 [row ds,.int 2,.int 24]=some (.val .none):=be
   simp (disch:=omega) only [d6,d4,c7,e7,d0,c9,c8,e8,g5,j4,i3,j7,d7,g7,o0,d8,p9,n5,i4,g6,i5,f7,h9,AD,AH,AR,AW,AO,AN,AQ,AS,AT,p3,B8,R7,fe,e0,p3,sl,be,a3j]
   try rfl
  |some k=>
   rw [hn] at be
   have be:G4 [row ds,.int 2,.int 24]=some (.val (.int (k:Nat))):=be
   show _=some (f6.val (.tuple [.int (k:Nat),.int (((pre++s).length - post.length:Nat):Int)]))
   rw [hr]
   simp (disch:=omega) only [d6,d4,c7,e7,d0,c9,c8,z7,e8,g5,j4,i3,j7,d7,g7,d8,n5,i4,g6,i5,f7,h9,AD,AH,AR,AW,AO,AN,AQ,AS,AT,AV,Af,↓reduceIte,p3,B8,R7,sz,Nat.reduceAdd,Ai,fe,e0,p3,sl,be,b41]
   try rfl
theorem b6L{pre s:List Nat}(j:Nat):cut (pre++s) (some (pre.length:Nat)) (some ((pre.length+j:Nat):Int))=s.take j:=by
 unfold cut
 have h1:HT.sIx (pre++s).length 0 (some (pre.length:Nat))=pre.length:=by rw [HT.sIx_nat];simp
 rw [h1,HT.sIx_nat,List.drop_left,AX]
 by_cases h:j≤s.length
 ·rw [Nat.min_eq_left (by lia),Nat.add_sub_cancel_left]
 ·rw [Nat.min_eq_right (by lia),Nat.add_sub_cancel_left,List.take_of_length_le (AZ _),List.take_of_length_le (by lia)]
theorem b9E{pre s:List Nat}(hT:(pre++s).length≤10000)(j:Nat):gSl (.val (row (pre++s))) (some (pre.length:Nat)) (some ((pre.length+j:Nat):Int))=some (.val (row (s.take j))):=by
 show(if(S (pre++s)).length≤AU then some (f6.val (.str ⟨(cut (S (pre++s)).cps.toList (some (pre.length:Nat)) (some ((pre.length+j:Nat):Int))).toArray⟩)) else none)=_
 rw [a1x,if_pos (by rw [sizeLine_eq];lia),a4b,b6L]
 rfl
abbrev fnP:PV:=a8b (AY "fold_part_at")
def b3r(T:List Nat):Option (Pa×List Nat)→PV
 |some (p,r)=> .tuple [x9 p,.int ((T.length - r.length:Nat):Int)]
 |none=> .none
def b2c(T:List Nat):Option (List Pa×List Nat)→PV
 |some (ps,r)=> .tuple [.list (r6 ps),.int ((T.length - r.length:Nat):Int)]
 |none=> .none
theorem c11:a2R (.val (row [97])) (.val (row []))=some (.val (.bool false)):=by rfl
theorem b90{RA RF RP:List PV→Option f6}{ag:List Nat→Option (Pa×List Nat)}{left:Int}(hA:∀pre r:List Nat,(pre++r).length≤3990→RA [row (pre++r),.int (pre.length:Nat),.int left,fnP,row [41]]=some (.val (b3r (pre++r) (ag r)))){pre s:List Nat}(hT:(pre++s).length≤3990):
 k9 1 (Z3 RA RF RP) [row (pre++s),.int (pre.length:Nat),.int left]=some (.val (b3r (pre++s) (a6O ag s))):=by
 have st:=X4 (pre:=pre) (s:=s) (y:=[40])
 have sl:=b9E (pre:=pre) (s:=s) (by lia) 1
 have e1:(pre.length:Int)+1=((pre.length+1:Nat):Int):=by lia
 have s1:AY "("=S [40]:=rfl
 have s2:AY "a"=S [97]:=rfl
 have s3:AY "z"=S [122]:=rfl
 have s4:AY ")"=S [41]:=rfl
 unfold Z3
 rw [s1,s2,s3,s4]
 cases s with
 |nil=>
  have st:B3 (.val (row (pre++[]))) (.val (row [40])) (.val (.int (pre.length:Nat)))=some (.val (.bool false)):=st
  have sl:gSl (.val (row (pre++[]))) (some (pre.length:Nat)) (some ((pre.length+1:Nat):Int))=some (.val (row [])):=sl
  show _=some (f6.val .none)
  generalize pre++[]=T at st sl ⊢
  simp (disch:=omega) only [m7,l9,b2D,d6,d4,c7,e7,i3,j7,d7,g7,o0,d8,p9,n5,i4,g6,i5,n8,f7,h9,B1,j3,AD,Ah,AH,AR,AW,AO,AN,AQ,Bool.not_false,p3,B8,R7,D5,st,e1,p3,sl,l9,c11]
  try rfl
 |cons c r=>
  have hA:=hA (pre++[c]) r (by rw [List.append_assoc];exact hT)
  have tm:=a7g (pre:=pre++[c]) (s:=r) (by rw [List.append_assoc];exact hT)
  have sg:=a8V (pre:=pre) (r:=r) (x:=c) (by lia)
  rw [List.append_assoc,AX,List.length_singleton] at hA tm
  have hA:RA [row (pre++c::r),.int ((pre.length+1:Nat):Int),.int left,fnP,row [41]]=_:=hA
  have tm:v6 [row (pre++c::r),.int ((pre.length+1:Nat):Int)]=_:=tm
  have eT:pre++([c]++r)=pre++c::r:=rfl
  rw [eT] at hA tm
  rw [a6O]
  by_cases hc:c=40
  ·rw [if_pos hc]
   have st:B3 (.val (row (pre++c::r))) (.val (row [40])) (.val (.int (pre.length:Nat)))=some (.val (.bool true)):=by rw [st,hc];rfl
   generalize pre++c::r=T at st hA ⊢
   simp (disch:=omega) only [m7,d6,d4,c7,e7,d0,c9,c8,e8,i3,j7,d7,o0,d8,p9,g6,i5,n8,B1,AD,AH,AR,AW,AO,AN,AQ,D5,st,e1,hA]
   try rfl
  ·rw [if_neg hc]
   have st:B3 (.val (row (pre++c::r))) (.val (row [40])) (.val (.int (pre.length:Nat)))=some (.val (.bool false)):=by
    rw [st]
    have:([40].isPrefixOf (c::r))=false:=by
     rw [Bool.eq_false_iff]
     intro z
     obtain⟨t,e⟩:=(b6f 40 (c::r)).mp z
     injection e with e _
     exact hc e
    rw [this]
   have sl:gSl (.val (row (pre++c::r))) (some (pre.length:Nat)) (some ((pre.length+1:Nat):Int))=some (.val (row [c])):=sl
   by_cases hl:lt1 c=true
   ·rw [if_pos hl]
    have hl':=a8Q.mp hl
    have g1:decide (97≤c)=true:=decide_eq_true hl'.1
    have g2:decide (c≤122)=true:=decide_eq_true hl'.2
    cases ht:F8 r with
    |none=>
     rw [ht] at tm
     have tm:v6 [row (pre++c::r),.int ((pre.length+1:Nat):Int)]=some (.val .none):=tm
     show _=some (f6.val .none)
     generalize pre++c::r=T at st sl tm ⊢
     simp (disch:=omega) only [m7,l9,a4e,d6,d4,c7,e7,d0,c9,c8,e8,g5,j4,i3,j7,d7,g7,o0,d8,p9,n5,i4,g6,i5,n8,f7,h9,B1,j3,AD,Ah,AH,AR,AW,AO,AN,AQ,AS,AT,Bool.not_true,p3,B8,R7,D5,st,e1,p3,sl,l9,b38,g1,g2,tm,a3j]
     try rfl
    |some y=>
     obtain⟨k,r2⟩:=y
     rw [ht] at tm
     have tm:v6 [row (pre++c::r),.int ((pre.length+1:Nat):Int)]=some (.val (.tuple [.int (k:Nat),.int (((pre++c::r).length - r2.length:Nat):Int)])):=tm
     show _=some (f6.val (.tuple [x9 (.run c k),.int (((pre++c::r).length - r2.length:Nat):Int)]))
     have ro:a9j [row [c],.int (k:Nat)]=some (.val (x9 (.run c k))):=by rw [x9];rfl
     generalize (pre++c::r).length - r2.length=e at tm ⊢
     generalize pre++c::r=T at st sl tm sg ⊢
     simp (disch:=omega) only [m7,l9,a4e,Z9,v9,d6,d4,c7,e7,d0,c9,c8,z7,e8,g5,j4,i3,j7,d7,g7,d8,n5,i4,g6,i5,n8,f7,h9,B1,j3,AD,Ah,AH,AR,AW,AO,AN,AQ,AS,AT,AV,Af,↓reduceIte,Bool.not_true,p3,B8,R7,sz,Nat.reduceAdd,Ai,D5,st,e1,p3,sl,l9,b38,g1,g2,tm,b0U,sg,ro]
     try rfl
   ·rw [if_neg hl]
    show _=some (f6.val .none)
    by_cases g1:97≤c
    ·have g2:¬c≤122:=fun z=>hl (a8Q.mpr ⟨g1,z⟩)
     generalize pre++c::r=T at st sl ⊢
     simp (disch:=omega) only [m7,l9,a4e,d6,d4,c7,e7,i3,j7,d7,g7,o0,d8,p9,n5,i4,g6,i5,n8,f7,h9,B1,j3,AD,Ah,AH,AR,AW,AO,AN,AQ,Bool.not_false,p3,B8,R7,D5,st,e1,p3,sl,l9,b38,decide_eq_true g1,decide_eq_false g2]
     try rfl
    ·generalize pre++c::r=T at st sl ⊢
     simp (disch:=omega) only [m7,l9,b2D,d6,d4,c7,e7,i3,j7,d7,g7,o0,d8,p9,n5,i4,g6,i5,n8,f7,h9,B1,j3,AD,Ah,AH,AR,AW,AO,AN,AQ,Bool.not_false,p3,B8,R7,D5,st,e1,p3,sl,l9,b38,decide_eq_false g1]
     try rfl
theorem b9B:∀p:Pa,1≤(Y7 p).length
 | .run c k=>by rw [a5k,AV];lia
 | .again k ps=>by rw [a0r,AV];lia
theorem a4N(ps:List PV)(i:Int):a2Q false (.val (.tuple [.list ps,.int i])) (.val .none)=some (.val (.bool false)):=rfl
abbrev Snd(P:List Nat→Option (Pa×List Nat))(m:Nat):Prop:=∀{s r:List Nat} {p:Pa},P s=some (p,r)→s=Y7 p++r∧gP p∧dpP p≤m∧noF r
theorem c1M{RA RF RP:List PV→Option f6}{P:List Nat→Option (Pa×List Nat)}{m:Nat}(hP:Snd P m){left:Nat}{pre s:List Nat}(hT:(pre++s).length≤3990)(hR:RP [row (pre++s),.int (pre.length:Nat),.int (left:Nat),fnP]=some (.val (b2c (pre++s) (E9 P 4000 s)))):
 k9 2 (a0C RA RF RP) [row (pre++s),.int (pre.length:Nat),.int ((left+1:Nat):Int),fnP,row [41]]=some (.val (b3r (pre++s) (a7v P s))):=by
 have c0:(((left+1:Nat):Int)==0)=false:=by rw [beq_eq_false_iff_ne];lia
 have e0:((left+1:Nat):Int) - 1=(left:Nat):=by lia
 unfold a7v
 unfold a0C
 cases hw:E9 P 4000 s with
 |none=>
  rw [hw] at hR
  have hR:RP [row (pre++s),.int (pre.length:Nat),.int (left:Nat),fnP]=some (.val .none):=hR
  show _=some (f6.val .none)
  generalize pre++s=T at hR ⊢
  simp (disch:=omega) only [A6,d6,d4,c7,e7,d0,c9,c8,e8,g5,j4,i3,j7,d7,g7,o0,d8,p9,n5,i4,g6,i5,f7,h9,m8,a4i,AD,AH,AR,AW,AO,AN,AQ,AS,AT,P0,c0,e0,hR,a3j]
  try rfl
 |some x=>
  obtain⟨ps,r⟩:=x
  obtain⟨b1,b2,b3,b4,b5,b6⟩:=a0l hP hw
  rw [hw] at hR
  have hR:RP [row (pre++s),.int (pre.length:Nat),.int (left:Nat),fnP]=some (.val (.tuple [.list (r6 ps),.int (((pre++s).length - r.length:Nat):Int)])):=hR
  have eT:pre++s=(pre++shL ps)++r:=by rw [b1,List.append_assoc]
  have hl:(pre++s).length - r.length=(pre++shL ps).length:=by rw [eT,AX (as:=pre++shL ps)];lia
  have st:=X4 (pre:=pre++shL ps) (s:=r) (y:=[41])
  rw [←eT,←hl] at st
  rw [AD]
  have i0:∀x:PV,m9 (.val (.tuple [.list (r6 ps),x])) (.val (.int 0))=some (.val (.list (r6 ps))):=fun _=>rfl
  by_cases h41:∃r1,r=41::r1
  ·obtain⟨r1,e1⟩:=h41
   subst e1
   have st:B3 (.val (row (pre++s))) (.val (row [41])) (.val (.int (((pre++s).length - (41::r1).length:Nat):Int)))=some (.val (.bool true)):=st
   have eT2:pre++s=(pre++shL ps++[41])++r1:=by rw [eT];simp
   have tm:=a7g (pre:=pre++shL ps++[41]) (s:=r1) (by rw [←eT2];exact hT)
   have hl2:(pre++shL ps++[41]).length=(pre++s).length - (41::r1).length+1:=by rw [hl,AX (as:=pre++shL ps)];rfl
   rw [←eT2,hl2] at tm
   have e1:(((pre++s).length - (41::r1).length:Nat):Int)+1=(((pre++s).length - (41::r1).length+1:Nat):Int):=by lia
   show _=some (f6.val (b3r (pre++s) ((F8 r1).bind fun y=>if y.1=1 then none else some (.again y.1 ps,y.2))))
   cases ht:F8 r1 with
   |none=>
    rw [ht] at tm
    have tm:v6 [row (pre++s),.int (((pre++s).length - (41::r1).length+1:Nat):Int)]=some (.val .none):=tm
    show _=some (f6.val .none)
    generalize (pre++s).length - (41::r1).length=e at*
    generalize pre++s=T at*
    simp (disch:=omega) only [m7,A6,v9,d6,d4,c7,e7,d0,c9,c8,e8,g5,j4,i3,j7,d7,g7,o0,d8,p9,n5,i4,g6,i5,n8,f7,h9,B1,j3,m8,a4i,J9,AD,Ah,AH,AR,AW,AO,AN,AQ,AS,AT,Bool.not_true,P0,c0,e0,hR,a4N,D5,st,e1,tm,a3j]
    try rfl
   |some y=>
    obtain⟨k,r2⟩:=y
    rw [ht] at tm
    have tm:v6 [row (pre++s),.int (((pre++s).length - (41::r1).length+1:Nat):Int)]=some (.val (.tuple [.int (k:Nat),.int (((pre++s).length - r2.length:Nat):Int)])):=tm
    by_cases hk:k=1
    ·have c1:((k:Int)==1)=true:=by rw [hk];rfl
     rw [AD,if_pos hk]
     show _=some (f6.val .none)
     generalize (pre++s).length - (41::r1).length=e at*
     generalize (pre++s).length - r2.length=e2 at*
     generalize pre++s=T at*
     simp (disch:=omega) only [m7,A6,Z9,v9,d6,d4,c7,e7,d0,c9,c8,e8,g5,j4,i3,j7,d7,g7,o0,d8,p9,n5,i4,g6,i5,n8,f7,h9,B1,j3,m8,J9,AD,Ah,AH,AR,AW,AO,AN,AQ,AS,AT,Bool.not_true,P0,c0,e0,hR,a4N,D5,st,e1,tm,b0U,c1]
     try rfl
    ·have c1:((k:Int)==1)=false:=by rw [beq_eq_false_iff_ne];lia
     rw [AD,if_neg hk]
     show _=some (f6.val (.tuple [x9 (.again k ps),.int (((pre++s).length - r2.length:Nat):Int)]))
     have pe:x9 (.again k ps)= .tuple [.str (AY "again"),.int (k:Nat),.list (r6 ps)]:=by rw [x9]
     rw [pe]
     generalize (pre++s).length - (41::r1).length=e at*
     generalize (pre++s).length - r2.length=e2 at*
     generalize pre++s=T at*
     simp (disch:=omega) only [m7,A6,Z9,v9,d6,d4,c7,e7,d0,c9,c8,z7,e8,g5,j4,i3,j7,d7,g7,d8,n5,i4,g6,i5,n8,f7,h9,B1,j3,m8,J9,AD,Ah,AH,AR,AW,AO,AN,AQ,AS,AT,AV,Af,↓reduceIte,Bool.not_true,sz,Nat.reduceAdd,Ai,P0,c0,e0,hR,a4N,D5,st,e1,tm,b0U,c1,i0]
     try rfl
  ·have hno:([41].isPrefixOf r)=false:=by
    rw [Bool.eq_false_iff]
    exact fun z=>h41 ((b6f 41 r).mp z)
   rw [hno] at st
   refine Eq.trans (b:=some (f6.val .none)) ?_ ?_
   ·generalize (pre++s).length - r.length=e at*
    generalize pre++s=T at*
    simp (disch:=omega) only [A6,v9,d6,d4,c7,e7,d0,c9,c8,e8,g5,j4,i3,j7,d7,g7,o0,d8,p9,n5,i4,g6,i5,n8,f7,h9,B1,j3,m8,J9,AD,Ah,AH,AR,AW,AO,AN,AQ,AS,AT,Bool.not_false,P0,c0,e0,hR,a4N,D5,st]
    try rfl
   ·dsimp only
    split
    ·exact absurd ⟨_,rfl⟩ h41
    ·rfl
theorem b8D{RA RF RP:List PV→Option f6}{T:List Nat}{i:Nat}:k9 2 (a0C RA RF RP) [row T,.int (i:Nat),.int 0,fnP,row [41]]=some (.val .none):=by
 unfold a0C
 simp (disch:=omega) only [d6,d4,c7,e7,i3,j7,d7,o0,d8,p9,g6,i5,f7,h9,AD,AH,AR,AW,AO,AN,AQ,beq_self_eq_true,P0]
 try rfl
theorem b5m:∀(a b:List Pa),r6 (a++b)=r6 a++r6 b
 |[],b=>by rw [r6];rfl
 |p::a,b=>by rw [AN,r6,r6,b5m a b];rfl
theorem fz4(nn:MS)(s0 s1 s2 s3 s5:Option f6)(L:List PV):a7J 4 nn [s0,s1,s2,s3,some (.ow (.lst L)),s5]=nn [s0,s1,s2,s3,some (.val (.list L)),s5]:=rfl
theorem b0J{x:Str}{g:List PV→Option f6}{i:Nat}{m:MA}{ρ:g0}{qs:List PV}{r:f6}{tab:List (Str×(List PV→Option f6))}(h:ρ[i]?=some (some (.val (a8b x))))(hl:tab.lookup x=some g)(hm:m ρ=some qs)(hg:g qs=some r):a1q tab i m ρ=some r:=by
 unfold a1q
 rw [h]
 show(tab.lookup x).bind (fun g=>(m ρ).bind g)=_
 rw [hl,AD,hm,AD,hg]
theorem b5l{RA RF RP:List PV→Option f6}{P:List Nat→Option (Pa×List Nat)}{m:Nat}(hP:Snd P m){left:Nat}{T:List Nat}(hT:T.length≤3990)(hF:∀pre s:List Nat,T=pre++s→RF [row T,.int (pre.length:Nat),.int (left:Nat)]=some (.val (b3r T (P s)))):∀(n:Nat) (pre s:List Nat) (acc:List Pa) (q5:Option f6),T=pre++s→s.length<n→acc.length+s.length≤9000→
 O6 (mtV (mC (.bool true))) (G1 RA RF RP) n [some (.val (row T)),some (.val (.int (pre.length:Nat))),some (.val (.int (left:Nat))),some (.val fnP),some (.own (r6 acc)),q5]=some (.rt (.val (b2c T ((E9 P n s).map fun x=>(acc++x.1,x.2)))))
 |0,_,s,_,_,_,h,_=>by lia
 |n+1,pre,s,acc,q5,e,hn,ha=>by
  have hf:=hF pre s e
  have cv:∀q4 q5,a1q [("fold_part_at",RF)] 3 (b0 (b7 0) (b0 (b7 1) (b0 (b7 2) f8))) [some (.val (row T)),some (.val (.int (pre.length:Nat))),some (.val (.int (left:Nat))),some (.val fnP),q4,q5]=some (.val (b3r T (P s))):=fun q4 q5=>b0J (x:=AY "fold_part_at") (g:=RF) (qs:=[row T,.int (pre.length:Nat),.int (left:Nat)]) rfl rfl (by simp (disch:=omega) only [c7,e7,d0,c9,c8,AD]) hf
  have sp:AY " "=S [32]:=rfl
  have tt:mtV (mC (.bool true)) [some (.val (row T)),some (.val (.int (pre.length:Nat))),some (.val (.int (left:Nat))),some (.val fnP),some (.own (r6 acc)),q5]=some true:=rfl
  rw [O6,tt,AD,if_pos rfl,E9]
  cases hw:P s with
  |none=>
   rw [hw] at cv
   have cv:∀q4 q5,a1q [("fold_part_at",RF)] 3 (b0 (b7 0) (b0 (b7 1) (b0 (b7 2) f8))) [some (.val (row T)),some (.val (.int (pre.length:Nat))),some (.val (.int (left:Nat))),some (.val fnP),q4,q5]=some (.val .none):=cv
   have hb:G1 RA RF RP [some (.val (row T)),some (.val (.int (pre.length:Nat))),some (.val (.int (left:Nat))),some (.val fnP),some (.own (r6 acc)),q5]=some (.rt (.val .none)):=by
    unfold G1
    simp (disch:=omega) only [d6,d4,c7,e7,g5,j4,i3,j7,d7,g7,o0,d8,p9,f7,h9,AD,AS,AT,cv,a3j]
    try rfl
   rw [hb]
   rfl
  |some x=>
   obtain⟨p,r⟩:=x
   rw [hw] at cv
   obtain⟨a1,a2,a3,a4⟩:=hP hw
   have hl1:=b9B p
   have hsl:s.length=(Y7 p).length+r.length:=by rw [a1,AX]
   have eT:T=(pre++Y7 p)++r:=by rw [e,a1,List.append_assoc]
   have hl:T.length - r.length=(pre++Y7 p).length:=by rw [eT,AX (as:=pre++Y7 p)];lia
   have cv:∀q4 q5,a1q [("fold_part_at",RF)] 3 (b0 (b7 0) (b0 (b7 1) (b0 (b7 2) f8))) [some (.val (row T)),some (.val (.int (pre.length:Nat))),some (.val (.int (left:Nat))),some (.val fnP),q4,q5]=some (.val (.tuple [x9 p,.int ((T.length - r.length:Nat):Int)])):=cv
   have st:=X4 (pre:=pre++Y7 p) (s:=r) (y:=[32])
   rw [←eT,←hl] at st
   have is:a2Q false (.val (.tuple [x9 p,.int ((T.length - r.length:Nat):Int)])) (.val .none)=some (.val (.bool false)):=rfl
   have i0:∀x:PV,m9 (.val (.tuple [x9 p,x])) (.val (.int 0))=some (.val (x9 p)):=fun _=>rfl
   have hpl:(r6 acc).length=acc.length:=by
    have:∀l:List Pa,(r6 l).length=l.length:=fun l=>by
     induction l with
     |nil=>rw [r6];rfl
     |cons a l ih=>rw [r6,AV,AV,ih]
    exact this acc
   have ap:A1 4 (m2 m9 (b7 5) (mC (.int 0))) [some (.val (row T)),some (.val (.int (pre.length:Nat))),some (.val (.int (left:Nat))),some (.val fnP),some (.own (r6 acc)),some (.val (.tuple [x9 p,.int ((T.length - r.length:Nat):Int)]))]=some (.nx [some (.val (row T)),some (.val (.int (pre.length:Nat))),some (.val (.int (left:Nat))),some (.val fnP),some (.own (r6 (acc++[p]))),some (.val (.tuple [x9 p,.int ((T.length - r.length:Nat):Int)]))]):=by
    rw [A8 (r:= .val (x9 p)) (p:=x9 p) (by simp (disch:=omega) only [d6,d4,c7,e7,AD,i0]) rfl rfl (by lia),b5m,r6,r6]
    rfl
   rw [AD]
   by_cases h32:∃r1,r=32::r1
   ·obtain⟨r1,er⟩:=h32
    subst er
    have st:B3 (.val (row T)) (.val (row [32])) (.val (.int ((T.length - (32::r1).length:Nat):Int)))=some (.val (.bool true)):=st
    have eT2:T=(pre++Y7 p++[32])++r1:=by rw [eT];simp
    have hl2:(pre++Y7 p++[32]).length=T.length - (32::r1).length+1:=by rw [hl,AX (as:=pre++Y7 p)];rfl
    have e1:((T.length - (32::r1).length:Nat):Int)+1=((T.length - (32::r1).length+1:Nat):Int):=by lia
    rw [AV] at hsl
    have ih:=b5l (RA:=RA) (RP:=RP) hP hT hF n (pre++Y7 p++[32]) r1 (acc++[p]) (some (.val (.tuple [x9 p,.int ((T.length - (32::r1).length:Nat):Int)]))) eT2 (by lia) (by rw [AX,List.length_singleton];lia)
    rw [hl2] at ih
    have hb:G1 RA RF RP [some (.val (row T)),some (.val (.int (pre.length:Nat))),some (.val (.int (left:Nat))),some (.val fnP),some (.own (r6 acc)),q5]=some (.nx [some (.val (row T)),some (.val (.int ((T.length - (32::r1).length+1:Nat):Int))),some (.val (.int (left:Nat))),some (.val fnP),some (.own (r6 (acc++[p]))),some (.val (.tuple [x9 p,.int ((T.length - (32::r1).length:Nat):Int)]))]):=by
     unfold G1
     rw [sp]
     generalize T.length - (32::r1).length=e at*
     simp (disch:=omega) only [m7,v9,d6,d4,c7,e7,g5,j4,d7,g7,d8,n5,i4,n8,f7,h9,B1,j3,AD,Ah,AS,AT,Bool.not_true,cv,is,ap,D5,st,e1]
     try rfl
    rw [hb,AD]
    show O6 _ _ n _=some (.rt (.val (b2c T (((E9 P n r1).map fun y=>(p::y.1,y.2)).map fun x=>(acc++x.1,x.2)))))
    rw [ih]
    cases E9 P n r1 with
    |none=>rfl
    |some y=>
     show some (Fl.rt (f6.val (b2c T (some (acc++[p]++y.1,y.2)))))=some (.rt (.val (b2c T (some (acc++p::y.1,y.2)))))
     rw [List.append_assoc]
     rfl
   ·have hno:([32].isPrefixOf r)=false:=by
     rw [Bool.eq_false_iff]
     exact fun z=>h32 ((b6f 32 r).mp z)
    rw [hno] at st
    have hb:G1 RA RF RP [some (.val (row T)),some (.val (.int (pre.length:Nat))),some (.val (.int (left:Nat))),some (.val fnP),some (.own (r6 acc)),q5]=some (.rt (.val (b2c T (some (acc++[p],r))))):=by
     show _=some (Fl.rt (.val (.tuple [.list (r6 (acc++[p])),.int ((T.length - r.length:Nat):Int)])))
     unfold G1
     rw [sp]
     generalize T.length - r.length=e at*
     simp (disch:=omega) only [v9,d6,d4,c7,e7,d0,c9,c8,z7,g5,j4,i3,j7,d7,g7,o0,d8,p9,n5,i4,n8,f7,h9,B1,j3,AD,Ah,AS,AT,AV,Af,↓reduceIte,Bool.not_false,sz,Nat.reduceAdd,Ai,cv,is,ap,D5,st,fz4]
     try rfl
    rw [hb]
    refine Eq.trans (b:=some (Fl.rt (.val (b2c T (some (acc++[p],r)))))) rfl ?_
    dsimp only
    split
    ·exact absurd ⟨_,rfl⟩ h32
    ·rfl
theorem b97{RA RF RP:List PV→Option f6}{P:List Nat→Option (Pa×List Nat)}{m:Nat}(hP:Snd P m){left:Nat}{pre s:List Nat}(hT:(pre++s).length≤3990)(hF:∀pre s:List Nat,(pre++s).length≤3990→RF [row (pre++s),.int (pre.length:Nat),.int (left:Nat)]=some (.val (b3r (pre++s) (P s)))):
 k9 2 (a3D RA RF RP) [row (pre++s),.int (pre.length:Nat),.int (left:Nat),fnP]=some (.val (b2c (pre++s) (E9 P 4000 s))):=by
 have hl:=hT
 rw [AX] at hl
 have e:=b5l (RA:=RA) (RF:=RF) (RP:=RP) hP (left:=left) (T:=pre++s) hT (fun a b h=>by rw [h];exact hF a b (by rw [←h];exact hT)) 4000 pre s [] none rfl (by lia) (by simp;lia)
 have em:((E9 P 4000 s).map fun x=>(([]:List Pa)++x.1,x.2))=E9 P 4000 s:=by
  cases E9 P 4000 s with
  |none=>rfl
  |some x=>rfl
 rw [em,show r6 []=[] by rw [r6]] at e
 unfold a3D
 simp (disch:=omega) only [d0,A9,g5,W7,d7,g7,g6,i5,AD,AH,AR,AW,AO,AN,AQ,AS,AT,Af,↓reduceIte,sz,Ai,e]
theorem b2S:∀(left m:Nat),3*left+2≤m→∀pre s:List Nat,(pre++s).length≤3990→A0 m [row (pre++s),.int (pre.length:Nat),.int (left:Nat)]=some (.val (b3r (pre++s) (a4T left s)))
 |0,m,hm,pre,s,hT=>by
  obtain⟨m,rfl⟩:∃j,m=j+2:=⟨m - 2,by lia⟩
  exact b90 (ag:=fun _=>none) (left:=0) (RA:=S9 (m+1)) (RF:=A0 (m+1)) (RP:=N9 (m+1)) (fun a b _=>b8D (RA:=S9 m) (RF:=A0 m) (RP:=N9 m) (T:=a++b) (i:=a.length)) hT
 |left+1,m,hm,pre,s,hT=>by
  obtain⟨m,rfl⟩:∃j,m=j+3:=⟨m - 3,by lia⟩
  refine b90 (ag:=a7v (a4T left)) (left:=((left+1:Nat):Int)) (RA:=S9 (m+2)) (RF:=A0 (m+2)) (RP:=N9 (m+2)) (fun a b h=> ?_) hT
  exact c1M (RA:=S9 (m+1)) (RF:=A0 (m+1)) (RP:=N9 (m+1)) (a1i (n:=left)) h (b97 (RA:=S9 m) (RF:=A0 m) (RP:=N9 m) (a1i (n:=left)) h fun a b h=>b2S left m (by lia) a b h)
theorem b7H{t:List Nat}(hT:t.length≤3990):a17 [row t,.int 0,.int 12,fnP]=some (.val (b2c t (E9 (a4T 12) 4000 t))):=
 b97 (RA:=S9 41) (RF:=A0 41) (RP:=N9 41) (a1i (n:=12)) (left:=12) (pre:=[]) (s:=t) hT fun a b h=>b2S 12 41 (by lia) a b h
def b8w(n:MX):FX→Option FX
 | .fl (.nx ρ)=>n ρ
 |f=>some f
def c1C(m n:MX)(ρ:g0)(b:Bool):Option FX:=if b=true then m ρ else n ρ
def b72:FX→Option (f6 ⊕ XT)
 | .fl (.rt r)=>some (.inl r)
 | .fl (.nx _)=>some (.inl (.val .none))
 | .rz c _=>some (.inr c)
 |_=>none
theorem Q6(m n:MX)(ρ:g0):a6S m n ρ=(m ρ).bind (b8w n):=Eq.trans rfl rfl
theorem a0u(n:MX)(ρ:g0):b8w n (.fl (.nx ρ))=n ρ:=Eq.trans rfl rfl
theorem a1m(n:MX)(c:XT)(ρ:g0):b8w n (.rz c ρ)=some (.rz c ρ):=Eq.trans rfl rfl
theorem V3(c:MT)(m n:MX)(ρ:g0):b4e c m n ρ=(c ρ).bind (c1C m n ρ):=Eq.trans rfl rfl
theorem a5l(m n:MX)(ρ:g0):c1C m n ρ true=m ρ:=Eq.trans rfl rfl
theorem a38(m n:MX)(ρ:g0):c1C m n ρ false=n ρ:=Eq.trans rfl rfl
theorem a0j(m:MS)(ρ:g0):a5J m ρ=(m ρ).map .fl:=Eq.trans rfl rfl
theorem a1h(c:Str)(p:PV)(ρ:g0):b23 c (b0 (mC p) f8) ρ=some (.rz ⟨c,[]⟩ ρ):=by
 unfold b23
 simp (disch:=omega) only [d4,d0,c9,c8,AD,AV,Af,↓reduceIte,sz,Nat.reduceAdd,Ai]
theorem V5(n:Nat)(b:MX)(ps:List PV):b6i n b ps=(b (ps.map (fun p=>some (f6.val p))++Ab n none)).bind b72:=Eq.trans rfl rfl
theorem b3t(r:f6):b72 (.fl (.rt r))=some (.inl r):=Eq.trans rfl rfl
theorem a1k(c:XT)(ρ:g0):b72 (.rz c ρ)=some (.inr c):=Eq.trans rfl rfl
theorem b5c{i:Nat}{g:List PV→Option (f6 ⊕ XT)}{m:MA}{ρ:g0}{ps:List PV}{p:PV}(h1:m ρ=some ps)(h2:g ps=some (.inl (.val p))):a4h i g m ρ=some (.fl (.nx (ρ.set i (some (.val p))))):=by
 unfold a4h b0K
 rw [h1,AD,h2]
 rfl
theorem b5d{i:Nat}{g:List PV→Option (f6 ⊕ XT)}{m:MA}{ρ:g0}{ps:List PV}{c:XT}(h1:m ρ=some ps)(h2:g ps=some (.inr c)):a4h i g m ρ=some (.rz c ρ):=by
 unfold a4h b0K
 rw [h1,AD,h2]
 rfl
theorem b9a{g:List PV→Option (f6 ⊕ XT)}{m:MA}{ρ:g0}{ps:List PV}{c:XT}(h1:m ρ=some ps)(h2:g ps=some (.inr c)):b02 g m ρ=some (.rz c ρ):=by
 unfold b02 b0K
 rw [h1,AD,h2]
 rfl
theorem b56{b:MX}{i:Nat}{inm:Str→Bool}{hd:MS}{ρ:g0}{f:Fl}(h:b ρ=some (.fl f)):a3M b i inm hd ρ=some f:=by
 unfold a3M
 rw [h];rfl
theorem b57{b:MX}{i:Nat}{inm:Str→Bool}{hd:MS}{ρ ρ':g0}{c:XT}(h:b ρ=some (.rz c ρ'))(hc:inm c.cls=true):a3M b i inm hd ρ=(hd (ρ'.set i (some (.val (xcV c))))).map (a9c i):=by
 unfold a3M
 rw [h,AD]
 exact if_pos hc
theorem b5b{b:MX}{inm:Str→Bool}{hd:MS}{ρ ρ':g0}{c:XT}(h:b ρ=some (.rz c ρ'))(hc:inm c.cls=true):a9u b inm hd ρ=hd ρ':=by
 unfold a9u
 rw [h,AD]
 exact if_pos hc
theorem b67:∀{ps:List Pa} {p:Pa},gL ps→p∈ps→gP p
 |q::ps,p,h,hp=>by
  rw [gL] at h
  rcases Am.mp hp with e|hp
  ·rw [e];exact h.1
  ·exact b67 h.2 hp
theorem b46{R:List PV→Option f6}{q0:Option f6}:∀(ps:List Pa) (a:Int) (q2:Option f6),gL ps→(∀k qs,Pa.again k qs∈ps→R [.list (r6 qs)]=some (.val (.int (knL qs:Nat))))→
 ∃q2',M4 (V1 R) (k7 2) (r6 ps) [q0,some (.val (.int a)),q2]=some (.nx [q0,some (.val (.int (a+(knL ps:Nat)))),q2'])
 |[],a,q2,_,_=>⟨q2,by rw [r6,knL];show some _=_;simp⟩
 |p::ps,a,q2,g,hR=>by
  rw [gL] at g
  obtain⟨q2',e⟩:=b46 (R:=R) (q0:=q0) ps (a+(knP p:Nat)) (some (.val (x9 p))) g.2 fun k qs h=>hR k qs (Ak _ h)
  refine⟨q2', ?_⟩
  have hb:V1 R [q0,some (.val (.int a)),some (.val (x9 p))]=some (.nx [q0,some (.val (.int (a+(knP p:Nat)))),some (.val (x9 p))]):=by
   have aug:∀(m:M) (y:Int),m [q0,some (.val (.int a)),some (.val (x9 p))]=some (.val (.int y))→a2d 1 (gI fun i j=> .int (i+j)) m [q0,some (.val (.int a)),some (.val (x9 p))]=some (.nx [q0,some (.val (.int (a+y))),some (.val (x9 p))]):=fun m y hm=>by
    unfold a2d
    show((m [q0,some (.val (.int a)),some (.val (x9 p))]).bind _)=_
    rw [hm]
    rfl
   unfold V1
   rcases a61 p with⟨c,k,rfl,ep⟩|⟨k,qs,rfl,ep⟩
   ·have i0:m9 (.val (x9 (.run c k))) (.val (.int 0))=some (.val a42):=by rw [ep];rfl
    have i2:m9 (.val (x9 (.run c k))) (.val (.int 2))=some (.val (.int (k:Nat))):=by rw [ep];rfl
    simp (disch:=omega) only [d6,d4,c7,e7,d8,p9,f7,h9,AD,i0,b6S]
    rw [knP]
    exact aug _ _ (by simp (disch:=omega) only [d6,d4,c7,e7,AD,i2])
   ·have i0:m9 (.val (x9 (.again k qs))) (.val (.int 0))=some (.val E2):=by rw [ep];rfl
    have i1:m9 (.val (x9 (.again k qs))) (.val (.int 1))=some (.val (.int (k:Nat))):=by rw [ep];rfl
    have i2:m9 (.val (x9 (.again k qs))) (.val (.int 2))=some (.val (.list (r6 qs))):=by rw [ep];rfl
    have hr:=hR k qs Al
    have mm:V0 (.val (.int (k:Nat))) (.val (.int (knL qs:Nat)))=some (.val (.int ((k:Int)*(knL qs:Nat)))):=R6 (by have g1:=g.1;rw [gP] at g1;lia)
    simp (disch:=omega) only [d6,d4,c7,e7,d8,n5,f7,h9,AD,i0,b6Q]
    refine aug _ _ ?_
    simp (disch:=omega) only [d6,d4,c7,e7,d0,c9,c8,e8,AD,i1,i2,hr,mm]
    rw [knP,Nat.mul_comm,Int.natCast_mul]
  rw [r6,M4]
  show(V1 R [q0,some (.val (.int a)),some (.val (x9 p))]).bind _=_
  rw [hb,AD,knL,Int.natCast_add,←Int.add_assoc]
  exact e
theorem b2V:∀(n:Nat) (ps:List Pa),gL ps→dpL ps<n→a1c n [.list (r6 ps)]=some (.val (.int (knL ps:Nat)))
 |0,_,_,h=>by lia
 |n+1,ps,g,hd=>by
  obtain⟨q2,e⟩:=b46 (R:=a1c n) (q0:=some (.val (.list (r6 ps)))) ps 0 none g fun k qs hq=>by
   have:=a57 hq
   rw [dpP] at this
   have gq:=b67 g hq
   rw [gP] at gq
   exact b2V n qs gq.2.2 (by lia)
  have hit:PyData.items? (.list (r6 ps))=some (r6 ps):=rfl
  rw [Int.zero_add] at e
  show k9 2 (a3z (a1c n)) [.list (r6 ps)]=_
  unfold a3z
  simp (disch:=omega) only [d4,c7,c8,g5,j4,d7,g7,g6,i5,z6,AD,AH,AR,AW,AO,AN,AQ,AS,AT,A7,W1,W2,hit,e]
abbrev nfX:XT:=⟨"NoFold",[]⟩
theorem b9v{t:List Nat}(hT:t.length≤3990):N7 [row t]=some (match a4Z t with
 |some ps=> .inl (.val (.list (r6 ps)))
 |none=> .inr nfX):=by
 have hs:a1I "str" (.val (row t))=some (.val (.bool true)):=rfl
 have pe:=b7H hT
 have v12:L6= .int 12:=rfl
 have v24:Q8= .int 24:=rfl
 have gl:=M6 (l:=t) (by lia)
 unfold a4Z
 unfold N7 a78
 rw [v12,v24]
 cases hw:E9 (a4T 12) 4000 t with
 |none=>
  rw [hw] at pe
  have pe:a17 [row t,.int 0,.int 12,fnP]=some (.val .none):=pe
  simp (disch:=omega) only [d6,m6,d4,c7,e7,d0,c9,c8,e8,g5,j4,i4,n8,f7,h9,B1,j3,m8,a4i,AD,Ah,AH,AR,AW,AO,AN,AQ,AS,AT,Bool.not_true,V5,Q6,V3,hs,a38,a0j,a0u,pe,a3j,a5l,a1h,a1m,a1k]
  try rfl
 |some x=>
  obtain⟨ps,r⟩:=x
  obtain⟨b1,b2,b3,b4,_,_⟩:=a0l (a1i (n:=12)) hw
  rw [hw] at pe
  have pe:a17 [row t,.int 0,.int 12,fnP]=some (.val (.tuple [.list (r6 ps),.int ((t.length - r.length:Nat):Int)])):=pe
  have i0:∀x:PV,m9 (.val (.tuple [.list (r6 ps),x])) (.val (.int 0))=some (.val (.list (r6 ps))):=fun _=>rfl
  have kn:=b2V 16 ps b2 (by lia)
  have kn:a6c [.list (r6 ps)]=_:=kn
  have hl:r.length≤t.length:=by rw [b1,AX];lia
  cases r with
  |cons c r=>
   have c1:(((t.length - (c::r).length:Nat):Int)==(t.length:Nat))=false:=by
    rw [beq_eq_false_iff_ne]
    rw [AV] at hl ⊢
    lia
   have ne:gNe (.val (.int ((t.length - (c::r).length:Nat):Int))) (.val (.int (t.length:Nat)))=some (.val (.bool true)):=by rw [a4G,c1];rfl
   generalize t.length - (c::r).length=e at*
   simp (disch:=omega) only [v9,d6,m6,d4,c7,e7,d0,c9,c8,e8,g5,j4,i4,n8,f7,h9,B1,j3,m8,a4i,J9,AD,Ah,AH,AR,AW,AO,AN,AQ,AS,AT,Bool.not_true,Bool.not_false,a4G,V5,Q6,V3,hs,a38,a0j,a0u,pe,a4N,gl,c1,a5l,a1h,a1m,a1k]
   try rfl
  |nil=>
   have e0:t.length - ([]:List Nat).length=t.length:=rfl
   rw [e0] at pe
   by_cases hk:24<knL ps
   ·have g1:decide ((24:Int)<(knL ps:Nat))=true:=decide_eq_true (by lia)
    show _=some (match(if 24<knL ps then none else some ps) with
     |some ps=>(Sum.inl (.val (.list (r6 ps))):f6 ⊕ XT)
     |none=> .inr nfX)
    rw [if_pos hk]
    simp (disch:=omega) only [A6,v9,d6,m6,d4,c7,e7,d0,c9,c8,e8,g5,j4,i4,n8,f7,h9,B1,j3,m8,J9,AD,Ah,AH,AR,AW,AO,AN,AQ,AS,AT,Bool.not_true,beq_self_eq_true,a4G,V5,Q6,V3,hs,a38,a0j,a0u,pe,a4N,gl,i0,kn,g1,a5l,a1h,a1m,a1k]
    try rfl
   ·have g1:decide ((24:Int)<(knL ps:Nat))=false:=decide_eq_false (by lia)
    show _=some (match(if 24<knL ps then none else some ps) with
     |some ps=>(Sum.inl (.val (.list (r6 ps))):f6 ⊕ XT)
     |none=> .inr nfX)
    rw [if_neg hk]
    simp (disch:=omega) only [A6,v9,d6,m6,d4,c7,e7,d0,c9,c8,e8,g5,j4,i3,j7,i4,n8,f7,h9,B1,j3,m8,J9,AD,Ah,AH,AR,AW,AO,AN,AQ,AS,AT,Bool.not_true,beq_self_eq_true,a4G,V5,Q6,V3,hs,a38,a0j,a0u,pe,a4N,gl,i0,kn,g1,b3t]
    try rfl
theorem b8T{pre s:List Nat}{c:Nat}:b4P (S (pre++s)) (S [c]) (pre.length:Nat)=if(C5 (· !=c) s).2=[] then -1 else((pre.length+(C5 (· !=c) s).1.length:Nat):Int):=by
 have sp:=PySem.StrLaws.find3_spec (S (pre++s)) c (pre.length:Nat)
 have f:fromIndex (S (pre++s)).length (pre.length:Nat)=pre.length:=by
  unfold fromIndex
  rw [if_neg (by lia)]
  lia
 have gd:∀v,(S (pre++s)).cps.getD v 0=(pre++s).getD v 0:=fun v=>by simp [S,Array.getD,List.getD_eq_getElem?_getD];split<;>simp_all
 rw [f,a1x] at sp
 simp only [gd] at sp
 have ap:=a0O (· !=c) s
 have ha:=a3q (· !=c) s
 have hs:=a0P (· !=c) s
 obtain⟨a,hA⟩:∃a,a=(C5 (· !=c) s).1:=⟨_,rfl⟩
 obtain⟨b,hB⟩:∃b,b=(C5 (· !=c) s).2:=⟨_,rfl⟩
 rw [←hA] at ap ha ⊢
 rw [←hB] at ap hs ⊢
 subst ap
 have show_:b4P (S (pre++(a++b))) (S [c]) (pre.length:Nat)=Txt.find3 (S (pre++(a++b))) ⟨#[c]⟩ (pre.length:Nat):=rfl
 rw [show_]
 have inA:∀v,pre.length≤v→v<pre.length+a.length→(pre++(a++b)).getD v 0≠c:=fun v h1 h2=>by
  rw [List.getD_eq_getElem?_getD,List.getElem?_append_right h1,BC (by lia),Ax (by lia)]
  have:=ha _ (List.getElem_mem (l:=a) (n:=v - pre.length) (by lia))
  simpa using this
 cases hb:b with
 |nil=>
  rw [if_pos rfl]
  rcases sp with⟨h,_⟩|⟨k,_,h2,h3,h4,_⟩
  ·rw [hb] at h;exact h
  ·exfalso
   rw [hb] at h3
   simp at h3
   exact inA k h2 (by lia) h4
 |cons y r=>
  rw [if_neg (by simp)]
  have hy:y=c:=by have:=hs y r hb;simpa using this
  have aty:(pre++(a++b)).getD (pre.length+a.length) 0=c:=by
   rw [hb,List.getD_eq_getElem?_getD,List.getElem?_append_right (by lia),List.getElem?_append_right (by lia),show pre.length+a.length - pre.length - a.length=0 by lia]
   exact hy
  rcases sp with⟨_,h⟩|⟨k,h1,h2,h3,h4,h5⟩
  ·exact absurd aty (h _ (by lia) (by rw [hb];simp))
  ·rw [hb] at h1
   rw [h1]
   have hk1:¬k<pre.length+a.length:=fun z=>inA k h2 z h4
   have hk2:¬pre.length+a.length<k:=fun z=>h5 _ (by lia) z aty
   have:k=pre.length+a.length:=by lia
   rw [this]
theorem b92:∀ls:List (List Nat),a1b [] ls=ls.flatten
 |[]=>rfl
 |[x]=>by simp [a1b]
 |x::y::r=>by
  have:=b92 (y::r)
  simp only [a1b,List.flatten_cons] at this ⊢
  rw [this];simp
theorem b43{rows:List (List Nat)}{y:f6}(h:PyData.items? y.rd=some (rows.map row))(hl:rows.flatten.length≤10000):M5 (.val (.str (AY ""))) y=some (.val (row rows.flatten)):=by
 have:=a6b (sep:=[]) h (by
  have e:(rows.map (·.length)).sum=rows.flatten.length:=by rw [List.length_flatten]
  rw [e,Af,Nat.mul_zero,Nat.add_zero];lia)
 rw [b92] at this
 exact this
theorem a0s:∀ps:List Pa,F9 ps=(ps.map unP).flatten
 |[]=>by rw [F9];rfl
 |p::ps=>by rw [F9,AH,List.flatten_cons,a0s ps]
theorem b2Z{R:List PV→Option f6}{q0:Option f6}:∀(ps:List Pa) (acc:List (List Nat)) (q2:Option f6),okL ps→(F9 ps).length≤24→(∀k qs,Pa.again k qs∈ps→R [.list (r6 qs)]=some (.val (row (F9 qs))))→acc.length+ps.length<10000→
 ∃q2',M4 (D7 R) (k7 2) (r6 ps) [q0,some (.own (acc.map row)),q2]=some (.nx [q0,some (.own ((acc++ps.map unP).map row)),q2'])
 |[],acc,q2,_,_,_,_=>⟨q2,by rw [r6,AR,Ad];rfl⟩
 |p::ps,acc,q2,ok,hl,hR,hn=>by
  rw [AV] at hn
  rw [F9,AX] at hl
  obtain⟨q2',e⟩:=b2Z (R:=R) (q0:=q0) ps (acc++[unP p]) (some (.val (x9 p))) ok.2 (by lia) (fun k qs h=>hR k qs (Ak _ h)) (by rw [AX,List.length_singleton];lia)
  refine⟨q2', ?_⟩
  have hb:D7 R [q0,some (.own (acc.map row)),some (.val (x9 p))]=some (.nx [q0,some (.own ((acc++[unP p]).map row)),some (.val (x9 p))]):=by
   have fin:∀m:M,m [q0,some (.own (acc.map row)),some (.val (x9 p))]=some (.val (row (unP p)))→A1 1 m [q0,some (.own (acc.map row)),some (.val (x9 p))]=some (.nx [q0,some (.own ((acc++[unP p]).map row)),some (.val (x9 p))]):=fun m hm=>by
    rw [A8 hm rfl rfl (by rw [Ae];lia),As]
    rfl
   rcases a61 p with⟨c,k,rfl,ep⟩|⟨k,qs,rfl,ep⟩
   ·have i0:m9 (.val (x9 (.run c k))) (.val (.int 0))=some (.val a42):=by rw [ep];rfl
    have i1:m9 (.val (x9 (.run c k))) (.val (.int 1))=some (.val (row [c])):=by rw [ep];rfl
    have i2:m9 (.val (x9 (.run c k))) (.val (.int 2))=some (.val (.int (k:Nat))):=by rw [ep];rfl
    rw [a37] at hl
    have cm:=a0I (ι:=fun j:Nat=>PyData.int (j:Nat)) (f:=fun _=>row [c]) (k:=1) (it:=a1z (b0 (m2 m9 (b7 2) (mC (.int 2))) f8)) (elt:=a0g R) (tg:=k7 3) (ρ:=[q0,some (.own (acc.map row)),some (.val (x9 (.run c k)))]) (Ac k) (b00 (n:=k) (by simp (disch:=omega) only [d6,d4,c7,e7,AD,i2]) (by lia)) (by rw [BA];lia) fun j _=>⟨_,rfl,by unfold a0g;simp (disch:=omega) only [d6,d4,c7,e7,c8,AD,AW,AO,AN,AQ,AS,AT,i1]⟩
    have jn:M5 (.val (.str (AY ""))) (.own ((Ac k).map fun _=>row [c]))=some (.val (row (unP (.run c k)))):=by
     have:=b3Y (k:=k) (by lia) fun _=>c
     rw [unP]
     exact this
    unfold D7
    simp (disch:=omega) only [d6,d4,c7,e7,d8,p9,f7,h9,AD,i0,b6S]
    exact fin _ (by simp (disch:=omega) only [d6,d4,AD,cm,jn])
   ·have i0:m9 (.val (x9 (.again k qs))) (.val (.int 0))=some (.val E2):=by rw [ep];rfl
    have i1:m9 (.val (x9 (.again k qs))) (.val (.int 1))=some (.val (.int (k:Nat))):=by rw [ep];rfl
    have i2:m9 (.val (x9 (.again k qs))) (.val (.int 2))=some (.val (.list (r6 qs))):=by rw [ep];rfl
    rw [a2l] at hl
    have hk:=ok.1
    obtain⟨k1,k2,_,_⟩:=hk
    have hr:=hR k qs Al
    have cm:=a0I (ι:=fun j:Nat=>PyData.int (j:Nat)) (f:=fun _=>row (F9 qs)) (k:=1) (it:=a1z (b0 (m2 m9 (b7 2) (mC (.int 1))) f8)) (elt:=a0h R) (tg:=k7 3) (ρ:=[q0,some (.own (acc.map row)),some (.val (x9 (.again k qs)))]) (Ac k) (b00 (n:=k) (by simp (disch:=omega) only [d6,d4,c7,e7,AD,i1]) (by lia)) (by rw [BA];lia) fun j _=>⟨_,rfl,by unfold a0h;simp (disch:=omega) only [d6,d4,c7,e7,d0,c9,c8,e8,AD,AW,AO,AN,AQ,AS,AT,i2,hr]⟩
    have jn:M5 (.val (.str (AY ""))) (.own ((Ac k).map fun _=>row (F9 qs)))=some (.val (row (unP (.again k qs)))):=by
     rw [unP]
     exact b43 (y:= .own ((Ac k).map fun _=>row (F9 qs))) (by rw [At];rfl) (by rw [a15];lia)
    unfold D7
    simp (disch:=omega) only [d6,d4,c7,e7,d8,n5,f7,h9,AD,i0,b6Q]
    exact fin _ (by simp (disch:=omega) only [d6,d4,AD,cm,jn])
  rw [r6,M4]
  show(D7 R [q0,some (.own (acc.map row)),some (.val (x9 p))]).bind _=_
  rw [hb,AD]
  rw [List.append_assoc] at e
  exact e
theorem a6R:∀(n:Nat) (ps:List Pa),okL ps→(F9 ps).length≤24→dpL ps<n→P4 n [.list (r6 ps)]=some (.val (row (F9 ps)))
 |0,_,_,_,h=>by lia
 |n+1,ps,ok,hl,hd=>by
  have hm:=a7j ok
  obtain⟨q2,e⟩:=b2Z (R:=P4 n) (q0:=some (.val (.list (r6 ps)))) ps [] none ok hl (fun k qs hq=>by
   obtain⟨h1,h2,h3,h4,h5,h6,h7⟩:=b5t ok hq
   exact a6R n qs h1 (by lia) (by lia)) (by simp;lia)
  have hit:PyData.items? (.list (r6 ps))=some (r6 ps):=rfl
  rw [AQ] at e
  have jn:M5 (.val (.str (AY ""))) (.bo (.lst ((ps.map unP).map row)))=some (.val (row (F9 ps))):=by
   rw [a0s]
   exact b43 (y:= .bo (.lst ((ps.map unP).map row))) rfl (by rw [←a0s];lia)
  show k9 2 (Z4 (P4 n)) [.list (r6 ps)]=_
  unfold Z4
  simp (disch:=omega) only [c7,d0,c8,A9,g5,W7,d7,g7,g6,z6,AD,AH,AR,AW,AO,AN,AQ,AS,AT,Af,↓reduceIte,A7,sz,Ai,hit]
  rw [show(some (f6.own []))=some (f6.own (([]:List (List Nat)).map row)) from rfl,e]
  simp (disch:=omega) only [d6,d4,a1M,e7,i3,j7,g7,i5,AD,jn]
theorem a3R:∀ps:List Pa,r6 ps=ps.map x9
 |[]=>by rw [r6];rfl
 |p::ps=>by rw [r6,AH,a3R ps]
theorem b2b(ps:List Pa):(r6 ps).length=ps.length:=by rw [a3R,Ae]
theorem a6s{k:Nat}(hk:k<25):b1C (.val (.int (k:Nat)))=some (.val (row (dg k))):=by
 match k,hk with
 |0,_=>rfl
 |1,_=>rfl
 |2,_=>rfl
 |3,_=>rfl
 |4,_=>rfl
 |5,_=>rfl
 |6,_=>rfl
 |7,_=>rfl
 |8,_=>rfl
 |9,_=>rfl
 |10,_=>rfl
 |11,_=>rfl
 |12,_=>rfl
 |13,_=>rfl
 |14,_=>rfl
 |15,_=>rfl
 |16,_=>rfl
 |17,_=>rfl
 |18,_=>rfl
 |19,_=>rfl
 |20,_=>rfl
 |21,_=>rfl
 |22,_=>rfl
 |23,_=>rfl
 |24,_=>rfl
 |k+25,h=>lia
theorem c0e{k:Nat}(hk:k<25):P3 [.int (k:Nat)]=some (.val (row (wt k))):=by
 unfold P3 a4c wt
 by_cases c:k=1
 ·subst c
  rfl
 ·rw [if_neg c]
  have c':((k:Int)==1)=false:=by rw [beq_eq_false_iff_ne];lia
  simp (disch:=omega) only [d6,m6,d4,c7,i3,j7,d7,g7,d8,n5,i4,g6,i5,f7,h9,AD,AH,AR,AO,Ad,P0,c',a6s hk]
theorem b36{ls:List (List Nat)}{y:f6}(h:PyData.items? y.rd=some (ls.map row))(hl:(ls.map fun l=>l.length+1).sum≤10000):M5 (.val (.str (AY " "))) y=some (.val (row (a1b [32] ls))):=by
 refine a6b (sep:=[32]) h ?_
 have e:∀ls:List (List Nat),(ls.map (·.length)).sum+ls.length*[32].length=(ls.map fun l=>l.length+1).sum:=fun ls=>by
  induction ls with
  |nil=>rfl
  |cons x r ih=>
   simp only [AH,List.sum_cons,AV,Af] at ih ⊢
   lia
 rw [e];lia
theorem b9D{RF RP:List PV→Option f6}{p:Pa}(ok:okP p)(hl:(unP p).length≤24)(hF:∀k qs,p= .again k qs→RF [.list (r6 qs)]=some (.val (row (shL qs)))):k9 0 (O0 RF RP) [x9 p]=some (.val (row (Y7 p))):=by
 have hsl:=b2f ok
 unfold O0
 rcases a61 p with⟨c,k,rfl,ep⟩|⟨k,qs,rfl,ep⟩
 ·have i0:m9 (.val (x9 (.run c k))) (.val (.int 0))=some (.val a42):=by rw [ep];rfl
  have i1:m9 (.val (x9 (.run c k))) (.val (.int 1))=some (.val (row [c])):=by rw [ep];rfl
  have i2:m9 (.val (x9 (.run c k))) (.val (.int 2))=some (.val (.int (k:Nat))):=by rw [ep];rfl
  rw [a37] at hl
  have w:=c0e (k:=k) (by lia)
  have ad:=E7 (l:=[c]) (k:=wt k) (by have:=b2p k;simp;lia)
  rw [a5k]
  simp (disch:=omega) only [d6,d4,c7,d0,c9,c8,e8,i3,j7,d7,o0,d8,p9,g6,i5,f7,h9,AD,AH,AR,AO,Ad,AN,AQ,i0,i1,i2,b6S,w,ad]
 ·have i0:m9 (.val (x9 (.again k qs))) (.val (.int 0))=some (.val E2):=by rw [ep];rfl
  have i1:m9 (.val (x9 (.again k qs))) (.val (.int 1))=some (.val (.int (k:Nat))):=by rw [ep];rfl
  have i2:m9 (.val (x9 (.again k qs))) (.val (.int 2))=some (.val (.list (r6 qs))):=by rw [ep];rfl
  have hr:=hF k qs rfl
  obtain⟨k1,k2,_,okq⟩:=ok
  have d2:=a2P k
  rw [a0r,AV,AX,AV] at hsl
  have a1:=E7 (l:=[40]) (k:=shL qs) (by simp;lia)
  have a2:=E7 (l:=40::shL qs) (k:=[41]) (by simp;lia)
  have a3:=E7 (l:=40::(shL qs++[41])) (k:=dg k) (by simp;lia)
  have e:40::(shL qs++[41])++dg k=Y7 (.again k qs):=by rw [a0r];simp
  rw [e] at a3
  have s1:AY "("=S [40]:=rfl
  have s2:AY ")"=S [41]:=rfl
  rw [s1,s2]
  simp (disch:=omega) only [d6,m6,d4,c7,d0,c9,c8,e8,i3,j7,d7,g7,d8,n5,i4,g6,i5,f7,h9,AD,AH,AR,AO,Ad,AN,AQ,i0,i1,i2,b6Q,hr,a1,a2,a6s (k:=k) (by lia),a3]
theorem b3x:∀(n:Nat) (ps:List Pa),okL ps→(F9 ps).length≤24→2*dpL ps+2≤n→Q5 n [.list (r6 ps)]=some (.val (row (shL ps)))
 |0,_,_,_,h=>by lia
 |1,_,_,_,h=>by lia
 |m+2,ps,ok,hl,hd=>by
  have hm:=a7j ok
  have cm:=a0I (ι:=x9) (f:=fun p=>row (Y7 p)) (k:=1) (it:=a0i (b7 0)) (elt:=a1p (Q5 (m+1)) (E3 (m+1))) (tg:=k7 1) (ρ:=[some (.val (.list (r6 ps)))]) ps
   (a2A (r:= .val (.list (r6 ps))) rfl (by rw [a3R];rfl)) (by lia) fun p hp=>⟨_,rfl,by
    have:=b2n hp
    have e:E3 (m+1) [x9 p]=some (.val (row (Y7 p))):=b9D (RF:=Q5 m) (RP:=E3 m) (a6V ok hp) (by lia) fun k qs hq=>by
     subst hq
     obtain⟨h1,h2,h3,h4,h5,h6,h7⟩:=b5t ok hp
     exact b3x m qs h1 (by lia) (by lia)
    unfold a1p
    simp (disch:=omega) only [c7,e7,d0,c9,c8,e8,AD,AW,AO,AN,AQ,AS,AT,e]⟩
  have hs:=a7d ok
  have jn:M5 (.val (.str (AY " "))) (.own (ps.map fun p=>row (Y7 p)))=some (.val (row (shL ps))):=
   b36 (ls:=ps.map Y7) (y:= .own (ps.map fun p=>row (Y7 p))) (by rw [At];rfl) (by
    rw [At]
    have h6:(ps.map ((fun l=>l.length+1)∘Y7)).sum=(ps.map fun p=>(Y7 p).length+1).sum:=rfl
    lia)
  show k9 0 (a1E (Q5 (m+1)) (E3 (m+1))) [.list (r6 ps)]=_
  unfold a1E
  simp (disch:=omega) only [d6,d4,i3,j7,g6,i5,AD,AH,AR,AO,Ad,cm,jn]
theorem b2Y{R:List PV→Option f6}{q0:Option f6}:∀(ps:List Pa) (acc:List (List Nat)) (q2:Option f6),okL ps→(F9 ps).length≤24→(∀k qs,Pa.again k qs∈ps→R [.list (r6 qs)]=some (.val (row (shL qs))))→acc.length+ps.length<10000→
 ∃q2',M4 (T2 R) (k7 2) (r6 ps) [q0,some (.own (acc.map row)),q2]=some (.nx [q0,some (.own ((acc++ps.map Y7).map row)),q2'])
 |[],acc,q2,_,_,_,_=>⟨q2,by rw [r6,AR,Ad];rfl⟩
 |p::ps,acc,q2,ok,hl,hR,hn=>by
  rw [AV] at hn
  rw [F9,AX] at hl
  obtain⟨q2',e⟩:=b2Y (R:=R) (q0:=q0) ps (acc++[Y7 p]) (some (.val (x9 p))) ok.2 (by lia) (fun k qs h=>hR k qs (Ak _ h)) (by rw [AX,List.length_singleton];lia)
  refine⟨q2', ?_⟩
  have hsl:=b2f ok.1
  have hb:T2 R [q0,some (.own (acc.map row)),some (.val (x9 p))]=some (.nx [q0,some (.own ((acc++[Y7 p]).map row)),some (.val (x9 p))]):=by
   have fin:∀m:M,m [q0,some (.own (acc.map row)),some (.val (x9 p))]=some (.val (row (Y7 p)))→A1 1 m [q0,some (.own (acc.map row)),some (.val (x9 p))]=some (.nx [q0,some (.own ((acc++[Y7 p]).map row)),some (.val (x9 p))]):=fun m hm=>by
    rw [A8 hm rfl rfl (by rw [Ae];lia),As]
    rfl
   unfold T2
   rcases a61 p with⟨c,k,rfl,ep⟩|⟨k,qs,rfl,ep⟩
   ·have i0:m9 (.val (x9 (.run c k))) (.val (.int 0))=some (.val a42):=by rw [ep];rfl
    have i1:m9 (.val (x9 (.run c k))) (.val (.int 1))=some (.val (row [c])):=by rw [ep];rfl
    have i2:m9 (.val (x9 (.run c k))) (.val (.int 2))=some (.val (.int (k:Nat))):=by rw [ep];rfl
    rw [a37] at hl
    by_cases ck:k=1
    ·subst ck
     simp (disch:=omega) only [d6,d4,c7,e7,d8,p9,n5,f7,h9,AD,Int.cast_ofNat_Int,beq_self_eq_true,P0,i0,i2,b8P]
     exact fin _ (by simp (disch:=omega) only [d6,d4,c7,e7,AD,i1];rw [a5k];rfl)
    ·have c':((k:Int)==1)=false:=by rw [beq_eq_false_iff_ne];lia
     have d2:=a2P k
     have ad:=E7 (l:=[c]) (k:=dg k) (by simp;lia)
     simp (disch:=omega) only [d6,d4,c7,e7,d8,n5,f7,h9,AD,P0,i0,i2,b8P,c']
     exact fin _ (by simp (disch:=omega) only [d6,m6,d4,c7,e7,AD,AN,AQ,i1,i2,a6s (k:=k) (by lia),ad];rw [a5k];unfold wt;rw [if_neg ck])
   ·have i0:m9 (.val (x9 (.again k qs))) (.val (.int 0))=some (.val E2):=by rw [ep];rfl
    have i1:m9 (.val (x9 (.again k qs))) (.val (.int 1))=some (.val (.int (k:Nat))):=by rw [ep];rfl
    have i2:m9 (.val (x9 (.again k qs))) (.val (.int 2))=some (.val (.list (r6 qs))):=by rw [ep];rfl
    have hr:=hR k qs Al
    have hk:=ok.1
    obtain⟨k1,k2,_,okq⟩:=hk
    have d2:=a2P k
    rw [a0r,AV,AX,AV] at hsl
    have a1:=E7 (l:=[40]) (k:=shL qs) (by simp;lia)
    have a2:=E7 (l:=40::shL qs) (k:=[41]) (by simp;lia)
    have a3:=E7 (l:=40::(shL qs++[41])) (k:=dg k) (by simp;lia)
    have e:40::(shL qs++[41])++dg k=Y7 (.again k qs):=by rw [a0r];simp
    rw [e] at a3
    have s1:AY "("=S [40]:=rfl
    have s2:AY ")"=S [41]:=rfl
    rw [s1,s2]
    simp (disch:=omega) only [d6,d4,c7,e7,d8,p9,f7,h9,AD,i0,c0v]
    exact fin _ (by simp (disch:=omega) only [d6,m6,d4,c7,e7,d0,c9,c8,e8,AD,AN,AQ,i1,i2,hr,a1,a2,a6s (k:=k) (by lia),a3])
  rw [r6,M4]
  show(T2 R [q0,some (.own (acc.map row)),some (.val (x9 p))]).bind _=_
  rw [hb,AD]
  rw [List.append_assoc] at e
  exact e
theorem b0Z:∀(n:Nat) (ps:List Pa),okL ps→(F9 ps).length≤24→dpL ps<n→a0b n [.list (r6 ps)]=some (.val (row (shL ps)))
 |0,_,_,_,h=>by lia
 |n+1,ps,ok,hl,hd=>by
  have hm:=a7j ok
  obtain⟨q2,e⟩:=b2Y (R:=a0b n) (q0:=some (.val (.list (r6 ps)))) ps [] none ok hl (fun k qs hq=>by
   obtain⟨h1,h2,h3,h4,h5,h6,h7⟩:=b5t ok hq
   exact b0Z n qs h1 (by lia) (by lia)) (by simp;lia)
  have hit:PyData.items? (.list (r6 ps))=some (r6 ps):=rfl
  rw [AQ] at e
  have hs:=a7d ok
  have jn:M5 (.val (.str (AY " "))) (.bo (.lst ((ps.map Y7).map row)))=some (.val (row (shL ps))):=
   b36 (ls:=ps.map Y7) (y:= .bo (.lst ((ps.map Y7).map row))) rfl (by
    rw [At]
    have h6:(ps.map ((fun l=>l.length+1)∘Y7)).sum=(ps.map fun p=>(Y7 p).length+1).sum:=rfl
    lia)
  show k9 2 (a2s (a0b n)) [.list (r6 ps)]=_
  unfold a2s
  simp (disch:=omega) only [c7,d0,c8,A9,g5,W7,d7,g7,g6,z6,AD,AH,AR,AW,AO,AN,AQ,AS,AT,Af,↓reduceIte,A7,sz,Ai,hit]
  rw [show(some (f6.own []))=some (f6.own (([]:List (List Nat)).map row)) from rfl,e]
  simp (disch:=omega) only [d6,d4,a1M,e7,i3,j7,g7,i5,AD,jn]
theorem Y3(c:Int):∃N:Int,0≤N∧B4 [.int c]=some (.val (.int N)):=by
 refine⟨(c % 2147483629+48611)*69621 % 2147483629,by lia, ?_⟩
 unfold B4 a6x
 simp (disch:=omega) only [m7,R6,z5,d6,d4,c7,i3,j7,g6,i5,AD,AH,AR,AO,Ad]
theorem a8H{cs:List Int}(h:0<cs.length)(a:Int):∃c:Int,m9 (.val (.list (cs.map .int))) (.val (.int (a %(cs.length:Int))))=some (.val (.int c)):=by
 have h0:0≤a %(cs.length:Int):=Int.emod_nonneg _ (by lia)
 have h1:a %(cs.length:Int)<cs.length:=Int.emod_lt_of_pos _ (by lia)
 have hk:(a %(cs.length:Int)).toNat<cs.length:=by lia
 refine⟨cs[(a %(cs.length:Int)).toNat],a6H ?_⟩
 rw [b3S h0,BB,Ax hk]
 rfl
theorem c0r{N:Int}(h:0≤N):∃c,(97≤c∧c≤122)∧m9 (.val (.str (AY "abcxz"))) (.val (.int (N / 405 % 5)))=some (.val (row [c])):=by
 have:N / 405 % 5=0∨N / 405 % 5=1∨N / 405 % 5=2∨N / 405 % 5=3∨N / 405 % 5=4:=by lia
 rcases this with e|e|e|e|e<;>rw [e]
 ·exact⟨97,by simp,rfl⟩
 ·exact⟨98,by simp,rfl⟩
 ·exact⟨99,by simp,rfl⟩
 ·exact⟨120,by simp,rfl⟩
 ·exact⟨122,by simp,rfl⟩
theorem b5T{R:List PV→Option f6}{cs:List Int}(hcs:0<cs.length){deep g B:Nat}(hdeep:deep≤3)
 (hR:0<deep→∀a room:Nat,1≤room→room≤24→a≤B→∃(qs:List Pa) (a':Nat),okL qs∧qs≠[]∧(F9 qs).length≤room∧dpL qs+1≤deep∧a'≤a+g∧R [.list (cs.map .int),.int (a:Nat),.int (room:Nat),.int ((deep:Int) - 1)]=some (.val (.tuple [.list (r6 qs),.int (a':Nat)])))
 {a left:Nat} (ha:a≤40000) (hB:a+2≤B) (hl:0<left) (hl2:left≤24) {acc:List PV} (hacc:acc.length<1000) (q2 q6 q7 q8 q9 q10:Option f6):
 ∃(p:Pa) (a' left':Nat) (q8' q9' q10':Option f6),okP p∧dpP p≤deep∧(unP p).length+left'=left∧a'≤a+2+g∧
  L4 R [some (.val (.list (cs.map .int))),some (.val (.int (a:Nat))),q2,some (.val (.int (deep:Nat))),some (.own acc),some (.val (.int (left:Nat))),q6,q7,q8,q9,q10]
  =some (.nx [some (.val (.list (cs.map .int))),some (.val (.int (a':Nat))),q2,some (.val (.int (deep:Nat))),some (.own (acc++[x9 p])),some (.val (.int (left':Nat))),q6,q7,q8',q9',q10']):=by
 obtain⟨c,hc⟩:=a8H hcs (((a+1:Nat):Int))
 obtain⟨N,hN,eN⟩:=Y3 (c+5*((a+1:Nat):Int))
 have gl:G3 (.val (.list (cs.map .int)))=some (.val (.int (cs.length:Nat))):=by rw [U1,Ae]
 have e1:(a:Int)+1=((a+1:Nat):Int):=by lia
 have p0:decide ((0:Int)<(left:Int))=true:=decide_eq_true (by lia)
 by_cases hb:0<deep∧1<left∧N % 3=0
 ·obtain⟨b1,b2,b3⟩:=hb
  obtain⟨m,hm,ma1,ma2⟩:∃m:Nat,(if(left:Int) - 1<3 then(left:Int) - 1 else 3)=(m:Int)∧1≤m∧m+1≤left∧m≤3:=⟨(if(left:Int) - 1<3 then(left:Int) - 1 else 3).toNat,by split<;>lia,by split<;>lia,by split<;>lia,by split<;>lia⟩
  have r0:0≤N / 3 %(m:Int):=Int.emod_nonneg _ (by lia)
  have r1:N / 3 %(m:Int)<m:=Int.emod_lt_of_pos _ (by lia)
  obtain⟨k,hk,k1,k2,k3⟩:∃k:Nat,2+N / 3 %(m:Int)=(k:Int)∧2≤k∧k≤left∧k≤4:=⟨(2+N / 3 %(m:Int)).toNat,by lia,by lia,by lia,by lia⟩
  have hroom:1≤left / k:=(Nat.le_div_iff_mul_le (by lia)).mpr (by lia)
  have hroom2:left / k≤24:=Nat.le_trans (Nat.div_le_self _ _) hl2
  obtain⟨qs,a',okq,qne,hq,dq,ha',eR⟩:=hR b1 (a+2) (left / k) hroom hroom2 (by lia)
  have hmul:k*(F9 qs).length≤left:=by
   have:=Nat.mul_le_mul_left k hq
   have:=Nat.mul_div_le left k
   lia
  have hlu:B5 [.list (r6 qs)]=some (.val (row (F9 qs))):=a6R 16 qs okq (by lia) (by lia)
  have gl2:=M6 (l:=F9 qs) (by lia)
  have c1:decide ((0:Int)<(deep:Int))=true:=decide_eq_true (by lia)
  have c2:decide ((1:Int)<(left:Int))=true:=decide_eq_true (by lia)
  have c3:(N % 3==0)=true:=by rw [beq_iff_eq];exact b3
  have e2:((a+1:Nat):Int)+1=((a+2:Nat):Int):=by lia
  have e3:(left:Int)/(k:Int)=((left / k:Nat):Int):=(Int.natCast_ediv left k).symm
  have e4:(left:Int) - (k:Int)*((F9 qs).length:Int)=((left - k*(F9 qs).length:Nat):Int):=by rw [Int.ofNat_sub hmul,Int.natCast_mul]
  refine⟨.again k qs,a',left - k*(F9 qs).length,some (.val (.int N)),some (.val (.int (k:Nat))),some (.val (.list (r6 qs))),⟨k1,by lia,qne,okq⟩,by rw [dpP];lia,by rw [a2l];lia,by lia, ?_⟩
  have ep:x9 (.again k qs)= .tuple [E2,.int (k:Nat),.list (r6 qs)]:=by rw [x9]
  have ap:=A8 (i:=4) (m:=U2 (b0 (mC (.str (AY "again"))) (b0 (b7 9) (b0 (b7 10) f8)))) (ρ:=[some (.val (.list (cs.map .int))),some (.val (.int (a':Nat))),q2,some (.val (.int (deep:Nat))),some (.own acc),some (.val (.int (left:Nat))),q6,q7,some (.val (.int N)),some (.val (.int (k:Nat))),some (.val (.list (r6 qs)))]) (r:= .val (x9 (.again k qs))) (p:=x9 (.again k qs)) (ps:=acc) (by rw [ep];simp (disch:=omega) only [d4,c7,e7,d0,c9,c8,z7,AD,AV,Af,↓reduceIte,sz,Nat.reduceAdd,Ai]) rfl rfl (by lia)
  unfold L4
  simp (disch:=omega) only [m7,A6,R6,z5,G8,d6,m6,d4,c7,e7,d0,c9,c8,e8,g5,j4,d7,g7,d8,p9,f7,h9,v7,a0B,b21,b8o,AD,AS,AT,P0,p0,e1,gl,hc,eN,c1,c2,c3,hm,hk,e2,e3,eR,ap,hlu,gl2,e4]
 ·obtain⟨col,hcol,ecol⟩:=c0r hN
  have w0:0≤N / 81 % 5 / 4∧N / 81 % 5 / 4≤1:=by lia
  obtain⟨m,hm,ma1,ma2⟩:∃m:Nat,(if 3+9*(N / 81 % 5 / 4)<(left:Int) then 3+9*(N / 81 % 5 / 4) else(left:Int))=(m:Int)∧1≤m∧m≤left:=⟨(if 3+9*(N / 81 % 5 / 4)<(left:Int) then 3+9*(N / 81 % 5 / 4) else(left:Int)).toNat,by split<;>lia,by split<;>lia,by split<;>lia⟩
  have r0:0≤N / 3 %(m:Int):=Int.emod_nonneg _ (by lia)
  have r1:N / 3 %(m:Int)<m:=Int.emod_lt_of_pos _ (by lia)
  obtain⟨k,hk,k1,k2⟩:∃k:Nat,1+N / 3 %(m:Int)=(k:Int)∧1≤k∧k≤left:=⟨(1+N / 3 %(m:Int)).toNat,by lia,by lia,by lia⟩
  have e4:(left:Int) - (k:Int)=((left - k:Nat):Int):=by lia
  refine⟨.run col k,a+1,left - k,some (.val (.int N)),some (.val (.int (k:Nat))),q10,⟨k1,by lia,hcol⟩,by rw [dpP];lia,by rw [a37];lia,by lia, ?_⟩
  have ep:x9 (.run col k)= .tuple [a42,row [col],.int (k:Nat)]:=by rw [x9]
  have ap:=A8 (i:=4) (m:=U2 (b0 (mC (.str (AY "run"))) (b0 (m2 m9 (mC (.str (AY "abcxz"))) (m2 (gIc (fun _ j=>0<j) fun i j=> .int (i % j)) (m2 (gIc a1A fun i j=> .int (i / j)) (b7 8) (mC (.int 405))) (mC (.int 5)))) (b0 (b7 9) f8)))) (ρ:=[some (.val (.list (cs.map .int))),some (.val (.int ((a+1:Nat):Int))),q2,some (.val (.int (deep:Nat))),some (.own acc),some (.val (.int (left:Nat))),q6,q7,some (.val (.int N)),some (.val (.int (k:Nat))),q10]) (r:= .val (x9 (.run col k))) (p:=x9 (.run col k)) (ps:=acc) (by rw [ep];simp (disch:=omega) only [z5,G8,d6,d4,c7,e7,d0,c9,c8,z7,AD,AV,Af,↓reduceIte,sz,Nat.reduceAdd,Ai,ecol]) rfl rfl (by lia)
  unfold L4
  by_cases b1:0<deep
  ·have c1:decide ((0:Int)<(deep:Int))=true:=decide_eq_true (by lia)
   by_cases b2:1<left
   ·have c2:decide ((1:Int)<(left:Int))=true:=decide_eq_true (by lia)
    have c3:(N % 3==0)=false:=by rw [beq_eq_false_iff_ne];exact fun z=>hb ⟨b1,b2,z⟩
    simp (disch:=omega) only [m7,A6,R6,z5,G8,d6,m6,d4,c7,e7,d0,c9,c8,e8,g5,j4,d7,g7,d8,p9,n5,f7,h9,v7,a0B,AD,AS,AT,P0,p0,e1,gl,hc,eN,c1,c2,c3,hm,hk,ap,e4]
   ·have c2:decide ((1:Int)<(left:Int))=false:=decide_eq_false (by lia)
    simp (disch:=omega) only [m7,A6,R6,z5,G8,d6,m6,d4,c7,e7,d0,c9,c8,e8,g5,j4,d7,g7,d8,p9,n5,f7,h9,v7,a0B,a4t,AD,AS,AT,p0,e1,gl,hc,eN,c1,c2,hm,hk,ap,e4]
  ·have c1:decide ((0:Int)<(deep:Int))=false:=decide_eq_false (by lia)
   simp (disch:=omega) only [m7,A6,R6,z5,G8,d6,m6,d4,c7,e7,d0,c9,c8,e8,g5,j4,d7,g7,d8,p9,n5,f7,h9,v7,a4t,AD,AS,AT,p0,e1,gl,hc,eN,c1,hm,hk,ap,e4]
theorem a3n(ps:List Pa)(p:Pa):r6 (ps++[p])=r6 ps++[x9 p]:=by rw [a3R,a3R,As];rfl
theorem b8j(ps:List Pa)(p:Pa):(F9 (ps++[p])).length=(F9 ps).length+(unP p).length:=by
 rw [a0s,a0s,As,List.flatten_append,AX]
 simp
theorem a6W:∀{ps:List Pa} {p:Pa},okL ps→okP p→okL (ps++[p])
 |[],p,_,h=>⟨h,trivial⟩
 |q::ps,p,h,g=>⟨h.1,a6W h.2 g⟩
theorem a6B:∀{ps:List Pa} {p:Pa} {d:Nat},dpL ps≤d→dpP p≤d→dpL (ps++[p])≤d
 |[],p,d,_,h=>by
  show dpL [p]≤d
  rw [dpL,dpL];lia
 |q::ps,p,d,h,g=>by
  rw [dpL] at h
  rw [AN,dpL]
  have:=a6B (ps:=ps) (p:=p) (d:=d) (by lia) g
  lia
def grw:Nat→Nat
 |0=>8
 |d+1=>4*(2+grw d)
theorem b4S{cs:List Int}(hcs:0<cs.length):∀(n deep a room:Nat),deep<n→deep≤3→1≤room→room≤24→a≤30000 - grw deep→grw deep≤5000→
 ∃(ps:List Pa) (a':Nat),okL ps∧ps≠[]∧(F9 ps).length≤room∧dpL ps≤deep∧a'≤a+grw deep∧N8 n [.list (cs.map .int),.int (a:Nat),.int (room:Nat),.int (deep:Nat)]=some (.val (.tuple [.list (r6 ps),.int (a':Nat)]))
 |0,deep,a,room,h,_,_,_,_,_=>by lia
 |n+1,deep,a,room,hn,hd,hr1,hr2,ha,hg=>by
  obtain⟨c,hc⟩:=a8H hcs (a:Int)
  obtain⟨N,hN,eN⟩:=Y3 (c+(a:Int))
  have gl:G3 (.val (.list (cs.map .int)))=some (.val (.int (cs.length:Nat))):=by rw [U1,Ae]
  obtain⟨mn,emn,mn1,mn2⟩:∃mn:Nat,1+N % 4=(mn:Int)∧1≤mn∧mn≤4:=⟨(1+N % 4).toNat,by lia,by lia,by lia⟩
  obtain⟨gi,hgi,hgi2,hR⟩:∃gi:Nat,4*(2+gi)≤grw deep∧gi≤5000∧(0<deep→∀b rm:Nat,1≤rm→rm≤24→b≤a+3*(2+gi)+2→∃(qs:List Pa) (a':Nat),okL qs∧qs≠[]∧(F9 qs).length≤rm∧dpL qs+1≤deep∧a'≤b+gi∧N8 n [.list (cs.map .int),.int (b:Nat),.int (rm:Nat),.int ((deep:Int) - 1)]=some (.val (.tuple [.list (r6 qs),.int (a':Nat)]))):=by
   cases deep with
   |zero=>exact⟨0,by show 4*(2+0)≤8;lia,by lia,fun h=>absurd h (Nat.lt_irrefl 0)⟩
   |succ d=>
    have e:grw (d+1)=4*(2+grw d):=rfl
    refine⟨grw d,by lia,by lia,fun _ b rm h1 h2 h3=> ?_⟩
    obtain⟨qs,a',x1,x2,x3,x4,x5,x6⟩:=b4S hcs n d b rm (by lia) (by lia) h1 h2 (by lia) (by lia)
    exact⟨qs,a',x1,x2,x3,by lia,x5,by rw [show((d+1:Nat):Int) - 1=(d:Int) by lia];exact x6⟩
  obtain⟨ρ1,e1,ps,a',left,q7,q8,q9,q10,x1,x2,x3,x4,x5,x6,rfl⟩:=a0F (body:=L4 (N8 n)) (tg:=k7 7) (fun i ρ=>∃(ps:List Pa) (a' left:Nat) (q7 q8 q9 q10:Option f6),okL ps∧(0<i→ps≠[])∧(F9 ps).length+left=room∧dpL ps≤deep∧a'≤a+i*(2+gi)∧ps.length≤i∧
   ρ=[some (.val (.list (cs.map .int))),some (.val (.int (a':Nat))),some (.val (.int (room:Nat))),some (.val (.int (deep:Nat))),some (.own (r6 ps)),some (.val (.int (left:Nat))),some (.val (.int (mn:Nat))),q7,q8,q9,q10])
   (ps:=a1N 0 ((mn:Nat):Int)) (ρ:=[some (.val (.list (cs.map .int))),some (.val (.int (a:Nat))),some (.val (.int (room:Nat))),some (.val (.int (deep:Nat))),some (.own []),some (.val (.int (room:Nat))),some (.val (.int (mn:Nat))),none,none,none,none])
   (by
    rintro i p hp ρ ⟨ps,a',left,q7,q8,q9,q10,x1,x2,x3,x4,x5,x6,rfl⟩
    obtain⟨rfl,hi⟩:=a66 hp
    have hi4:i<4:=by lia
    have hb:i*(2+gi)≤3*(2+gi):=Nat.mul_le_mul_right _ (by lia)
    have e5:(i+1)*(2+gi)=i*(2+gi)+(2+gi):=Nat.succ_mul _ _
    by_cases hl:0<left
    ·obtain⟨p,b,left',r8,r9,r10,y1,y2,y3,y4,y5⟩:=b5T (R:=N8 n) hcs (deep:=deep) (g:=gi) (B:=a+3*(2+gi)+2) hd hR (a:=a') (left:=left) (by lia) (by lia) hl (by lia) (acc:=r6 ps) (by rw [b2b];lia) (some (.val (.int (room:Nat)))) (some (.val (.int (mn:Nat)))) (some (.val (.int ((0:Int)+(i:Int))))) q8 q9 q10
     refine a1Q rfl y5 ⟨ps++[p],b,left',some (.val (.int ((0:Int)+(i:Int)))),r8,r9,r10,a6W x1 y1,fun _=>by simp,by rw [b8j];lia,a6B x4 y2,by lia,by rw [AX,List.length_singleton];lia,by rw [a3n]⟩
    ·have p0:decide ((0:Int)<(left:Int))=false:=decide_eq_false (by lia)
     refine a1Q rfl (ρ2:=[some (.val (.list (cs.map .int))),some (.val (.int (a':Nat))),some (.val (.int (room:Nat))),some (.val (.int (deep:Nat))),some (.own (r6 ps)),some (.val (.int (left:Nat))),some (.val (.int (mn:Nat))),some (.val (.int ((0:Int)+(i:Int)))),q8,q9,q10]) ?_ ⟨ps,a',left,_,q8,q9,q10,x1,fun _ z=>by
      subst z
      rw [F9] at x3
      simp at x3
      lia,x3,x4,by lia,by lia,rfl⟩
     show L4 (N8 n) [some (.val (.list (cs.map .int))),some (.val (.int (a':Nat))),some (.val (.int (room:Nat))),some (.val (.int (deep:Nat))),some (.own (r6 ps)),some (.val (.int (left:Nat))),some (.val (.int (mn:Nat))),some (.val (.int ((0:Int)+(i:Int)))),q8,q9,q10]=_
     unfold L4
     simp (disch:=omega) only [A6,d6,d4,c7,e7,d8,n5,i4,f7,h9,AD,p0]) ⟨[],a,room,none,none,none,none,trivial,fun h=>absurd h (Nat.lt_irrefl 0),by rw [F9];simp,by rw [dpL];lia,by simp,AZ _,by rw [r6]⟩
  have hlen:(a1N 0 ((mn:Nat):Int)).length=mn:=by rw [a5w,Ae,BA]
  rw [hlen] at x2 x5
  have hb:mn*(2+gi)≤4*(2+gi):=Nat.mul_le_mul_right _ mn2
  refine⟨ps,a',x1,x2 (by lia),by lia,x4,by lia, ?_⟩
  have fz:∀(nn:MS) (s0 s1 s2 s3 s5 s6 s7 s8 s9 s10:Option f6) (L:List PV),a7J 4 nn [s0,s1,s2,s3,some (.ow (.lst L)),s5,s6,s7,s8,s9,s10]=nn [s0,s1,s2,s3,some (.val (.list L)),s5,s6,s7,s8,s9,s10]:=fun _ _ _ _ _ _ _ _ _ _ _ _=>rfl
  show k9 7 (a3B (N8 n)) [.list (cs.map .int),.int (a:Nat),.int (room:Nat),.int (deep:Nat)]=_
  unfold a3B
  simp (disch:=omega) only [m7,z5,d6,m6,d4,c7,e7,d0,c9,c8,z7,A9,e8,g5,j4,W7,i3,j7,d7,g7,g6,i5,z6,Y2,a2C,AD,AH,AR,AW,AO,AN,AQ,AS,AT,AV,Af,↓reduceIte,sz,Nat.reduceAdd,Ai,gl,hc,eN,emn,e1,fz]
theorem a7x{ns:List Int}{k:Int}(h0:0≤k):∃c:Int,Q2 [.list (ns.map .int),.int k]=some (.val (.int c)):=by
 unfold Q2 a5R
 by_cases h:k<ns.length
 ·have hk:k.toNat<ns.length:=by lia
  have e:L2.atI (ns.map PyData.int) k=some (.int ns[k.toNat]):=by
   rw [b3S h0,BB,Ax hk];rfl
  refine⟨ns[k.toNat], ?_⟩
  simp (disch:=omega) only [a2T,U1,d6,m6,c7,e7,d7,d8,g6,f7,h9,AD,AH,AR,AO,Ad,Ae,a6H e]
  simp only [h,decide_true]
  simp (disch:=omega) only [d6,c7,e7,i3,j7,o0,p9,i5,AD,a6H e]
 ·refine⟨0, ?_⟩
  simp (disch:=omega) only [a2T,U1,d6,m6,c7,e7,d7,d8,g6,f7,h9,AD,AH,AR,AO,Ad,Ae]
  simp only [h,decide_false]
  simp (disch:=omega) only [d4,i3,j7,g7,n5,i4,i5,AD]
theorem b2h(cs:List Int)(lo hi:Option Int):gSl (.val (.list (cs.map .int))) lo hi=some (.own ((cut cs lo hi).map .int)):=by
 show some _=_
 rw [show cut (cs.map PyData.int) lo hi=(cut cs lo hi).map PyData.int by unfold cut;rw [Ae,List.map_take,List.map_drop]]
theorem b2G(ns:List Int)(hn:ns.length≤63){at_:Nat}(ha:at_≤100):∃ps:List Pa,okL ps∧ps≠[]∧(F9 ps).length≤12∧dpL ps≤3∧a08 [.list (ns.map .int),.int (at_:Nat),.int 12]=some (.val (.list (r6 ps))):=by
 have gs:=b2h ns (some (at_:Nat)) none
 have hcut:=a8I ns (some ((at_:Nat):Int)) none
 have cat:u7 (.own ((cut ns (some ((at_:Nat):Int)) none).map .int)) (.own [.int 1])=some (.own ((cut ns (some ((at_:Nat):Int)) none++[1]).map .int)):=by
  rw [b1x (by rw [Ae,sizeLine_eq];simp only [AV,Af];lia),As]
  rfl
 have hcs:0<(cut ns (some ((at_:Nat):Int)) none++[1]).length:=by rw [AX,List.length_singleton];lia
 generalize cut ns (some ((at_:Nat):Int)) none++[1]=cs at cat hcs
 obtain⟨c,hc⟩:=a7x (ns:=ns) (k:=(at_:Nat)) (by lia)
 obtain⟨N,hN,eN⟩:=Y3 c
 have hx:∃room:Nat,1≤room∧room≤12∧m9 (.own [.int 12,.int 12,.int 6,.int 5]) (.val (.int (N / 4 % 4)))=some (.val (.int (room:Nat))):=by
  have:N / 4 % 4=0∨N / 4 % 4=1∨N / 4 % 4=2∨N / 4 % 4=3:=by lia
  rcases this with e|e|e|e<;>rw [e]
  ·exact⟨12,by lia,by lia,rfl⟩
  ·exact⟨12,by lia,by lia,rfl⟩
  ·exact⟨6,by lia,by lia,rfl⟩
  ·exact⟨5,by lia,by lia,rfl⟩
 obtain⟨room,hr1,hr2,hx⟩:=hx
 obtain⟨ps,a',x1,x2,x3,x4,_,x6⟩:=b4S hcs 6 3 0 room (by lia) (by lia) hr1 (by lia) (by decide) (by decide)
 refine⟨ps,x1,x2,by lia,x4, ?_⟩
 have x6:a6e [.list (cs.map .int),.int 0,.int (room:Nat),.int 3]=_:=x6
 have fz:∀(nn:MS) (s0 s1 s2 s4:Option f6) (L:List PV),a7J 3 nn [s0,s1,s2,some (.ow (.lst L)),s4]=nn [s0,s1,s2,some (.val (.list L)),s4]:=fun _ _ _ _ _ _=>rfl
 unfold a08 a74
 simp (disch:=omega) only [z5,G8,Z9,d6,d4,c7,e7,d0,c9,c8,A9,e8,g5,j4,W7,i3,j7,d7,g7,g6,i5,AD,AH,AR,AW,AO,AN,AQ,AS,AT,AV,Af,↓reduceIte,p3,B8,a0J,R7,sz,Nat.reduceAdd,Ai,Int.reduceDiv,gs,cat,hc,eN,hx,fz,x6]
abbrev fnW:PV:=a8b (AY "weaving_part_at")
def a8F(T:List Nat):Option (Wa×List Nat)→PV
 |some (p,r)=> .tuple [L8 p,.int ((T.length - r.length:Nat):Int)]
 |none=> .none
def a65(T:List Nat):Option (List Wa×List Nat)→PV
 |some (ps,r)=> .tuple [.list (j0 ps),.int ((T.length - r.length:Nat):Int)]
 |none=> .none
theorem b86{b:MX}{inm:Str→Bool}{hd:MS}{ρ:g0}{f:Fl}(h:b ρ=some (.fl f)):a9u b inm hd ρ=some f:=by
 unfold a9u
 rw [h];rfl
theorem b63(t:List Nat)(i:Int):b0P (.val (row t)) (.val (row [93])) (.val (.int i))=some (.val (.int (b4P (S t) (S [93]) i))):=rfl
theorem b9y{pre s:List Nat}(hT:(pre++s).length≤3990):a3i [row (pre++s),.int (pre.length:Nat)]=some (.val (a8F (pre++s) (a8j s))):=by
 have fd:=b63 (pre++s) (pre.length:Nat)
 rw [b8T] at fd
 have ap:=a0O (· !=93) s
 have st:=a0P (· !=93) s
 have s93:AY "]"=S [93]:=rfl
 unfold a8j
 unfold a3i b0D
 rw [s93]
 generalize (C5 (· !=93) s).1=a at*
 generalize (C5 (· !=93) s).2=b at*
 cases b with
 |nil=>
  rw [if_pos rfl] at fd
  show _=some (f6.val .none)
  generalize pre++s=T at*
  simp (disch:=omega) only [a2T,d6,d4,c7,e7,g5,j4,d7,g7,d8,g6,f7,h9,AD,AH,AR,AW,AO,AN,AQ,AS,AT,Int.reduceNeg,D5,fd]
  try rfl
 |cons c b=>
  have hc:c=93:=by simpa using st c b rfl
  subst hc
  rw [if_neg (by simp)] at fd
  have g1:decide (((pre.length+a.length:Nat):Int)<0)=false:=decide_eq_false (by lia)
  have eT:pre++s=(pre++a++[93])++b:=by rw [ap];simp
  have sl:=b8e (pre:=pre) (ds:=a) (post:=93::b) (by rw [←ap];lia)
  rw [←ap] at sl
  have hla:a.length≤3990:=by rw [ap] at hT;simp at hT;lia
  have rd0:=b9v hla
  have tm:=a7g (pre:=pre++a++[93]) (s:=b) (by rw [←eT];exact hT)
  have hl2:(pre++a++[93]).length=pre.length+a.length+1:=by simp;lia
  rw [←eT,hl2] at tm
  have e1:((pre.length+a.length:Nat):Int)+1=((pre.length+a.length+1:Nat):Int):=by lia
  have ma:(b0 (T4 (b7 0) (I0 (b7 1)) (I0 (b7 2))) f8) [some (.val (row (pre++s))),some (.val (.int (pre.length:Nat))),some (.val (.int ((pre.length+a.length:Nat):Int))),none,none]=some [row a]:=by
   generalize pre++s=T at*
   simp (disch:=omega) only [c7,e7,d0,c9,c8,AD,p3,B8,R7,sl]
  show _=some (f6.val (a8F (pre++s) ((a4Z a).bind fun ps=>(F8 b).map fun y=>(Wa.rows y.1 ps,y.2))))
  cases hr:a4Z a with
  |none=>
   rw [hr] at rd0
   have rd0:N7 [row a]=some (.inr nfX):=rd0
   have tr:a9u (a4h 3 N7 (b0 (T4 (b7 0) (I0 (b7 1)) (I0 (b7 2))) f8)) (inL ["NoFold"]) (t6 (mC .none)) [some (.val (row (pre++s))),some (.val (.int (pre.length:Nat))),some (.val (.int ((pre.length+a.length:Nat):Int))),none,none]=some (.rt (.val .none)):=by
    rw [b5b (b5d ma rd0) (show inL ["NoFold"] "NoFold"=true by decide+kernel)]
    rfl
   show _=some (f6.val .none)
   generalize pre++s=T at*
   generalize pre.length+a.length=e at*
   simp (disch:=omega) only [a2T,d6,d4,c7,e7,g5,j4,d7,g7,o0,d8,n5,i4,g6,i5,f7,h9,AD,AH,AR,AW,AO,AN,AQ,AS,AT,D5,fd,g1,tr]
   try rfl
  |some ps=>
   rw [hr] at rd0
   have rd0:N7 [row a]=some (.inl (.val (.list (r6 ps)))):=rd0
   have tr:a9u (a4h 3 N7 (b0 (T4 (b7 0) (I0 (b7 1)) (I0 (b7 2))) f8)) (inL ["NoFold"]) (t6 (mC .none)) [some (.val (row (pre++s))),some (.val (.int (pre.length:Nat))),some (.val (.int ((pre.length+a.length:Nat):Int))),none,none]=some (.nx [some (.val (row (pre++s))),some (.val (.int (pre.length:Nat))),some (.val (.int ((pre.length+a.length:Nat):Int))),some (.val (.list (r6 ps))),none]):=by
    rw [b86 (b5c ma rd0)]
    rfl
   rw [AD]
   cases ht:F8 b with
   |none=>
    rw [ht] at tm
    have tm:v6 [row (pre++s),.int ((pre.length+a.length+1:Nat):Int)]=some (.val .none):=tm
    show _=some (f6.val .none)
    generalize pre++s=T at*
    generalize pre.length+a.length=e at*
    simp (disch:=omega) only [m7,a2T,d6,d4,c7,e7,d0,c9,c8,e8,g5,j4,i3,j7,d7,g7,o0,d8,p9,n5,i4,g6,i5,f7,h9,AD,AH,AR,AW,AO,AN,AQ,AS,AT,D5,fd,g1,tr,e1,tm,a3j]
    try rfl
   |some y=>
    obtain⟨k,r2⟩:=y
    rw [ht] at tm
    have tm:v6 [row (pre++s),.int ((pre.length+a.length+1:Nat):Int)]=some (.val (.tuple [.int (k:Nat),.int (((pre++s).length - r2.length:Nat):Int)])):=tm
    show _=some (f6.val (.tuple [L8 (.rows k ps),.int (((pre++s).length - r2.length:Nat):Int)]))
    have pe:L8 (.rows k ps)= .tuple [.str (AY "rows"),.int (k:Nat),.list (r6 ps)]:=by rw [L8]
    rw [pe]
    generalize (pre++s).length - r2.length=e2 at*
    generalize pre++s=T at*
    generalize pre.length+a.length=e at*
    simp (disch:=omega) only [m7,a2T,Z9,v9,d6,d4,c7,e7,d0,c9,c8,z7,e8,g5,j4,i3,j7,d7,g7,d8,n5,i4,g6,i5,f7,h9,AD,AH,AR,AW,AO,AN,AQ,AS,AT,AV,Af,↓reduceIte,sz,Nat.reduceAdd,Ai,D5,fd,g1,tr,e1,tm,b0U]
    try rfl
theorem c0d{RA RF RP:List PV→Option f6}{ag:List Nat→Option (Wa×List Nat)}{left:Int}(hA:∀pre r:List Nat,(pre++r).length≤3990→RA [row (pre++r),.int (pre.length:Nat),.int left,fnW,row [125]]=some (.val (a8F (pre++r) (ag r)))){pre s:List Nat}(hT:(pre++s).length≤3990):
 k9 0 (R4 RA RP RF) [row (pre++s),.int (pre.length:Nat),.int left]=some (.val (a8F (pre++s) (a6P ag s))):=by
 have st:=X4 (pre:=pre) (s:=s) (y:=[123])
 have st2:=X4 (pre:=pre) (s:=s) (y:=[91])
 have e1:(pre.length:Int)+1=((pre.length+1:Nat):Int):=by lia
 have s1:AY "{"=S [123]:=rfl
 have s2:AY "["=S [91]:=rfl
 have s3:AY "}"=S [125]:=rfl
 unfold R4
 rw [s1,s2,s3]
 cases s with
 |nil=>
  have st:B3 (.val (row (pre++[]))) (.val (row [123])) (.val (.int (pre.length:Nat)))=some (.val (.bool false)):=st
  have st2:B3 (.val (row (pre++[]))) (.val (row [91])) (.val (.int (pre.length:Nat)))=some (.val (.bool false)):=st2
  show _=some (f6.val .none)
  generalize pre++[]=T at st st2 ⊢
  simp (disch:=omega) only [d4,c7,e7,i3,j7,d7,g7,d8,n5,i4,g6,i5,n8,B1,AD,AH,AR,AO,Ad,D5,st,st2]
  try rfl
 |cons c r=>
  have hA:=hA (pre++[c]) r (by rw [List.append_assoc];exact hT)
  have tm:=b9y (pre:=pre++[c]) (s:=r) (by rw [List.append_assoc];exact hT)
  rw [List.append_assoc,AX,List.length_singleton] at hA tm
  have hA:RA [row (pre++c::r),.int ((pre.length+1:Nat):Int),.int left,fnW,row [125]]=some (.val (a8F (pre++c::r) (ag r))):=hA
  have tm:a3i [row (pre++c::r),.int ((pre.length+1:Nat):Int)]=some (.val (a8F (pre++c::r) (a8j r))):=tm
  have no:∀d,c≠d→([d].isPrefixOf (c::r))=false:=fun d hc=>by
   rw [Bool.eq_false_iff]
   intro z
   obtain⟨t,e⟩:=(b6f d (c::r)).mp z
   injection e with e _
   exact hc e
  rw [a6P]
  by_cases hc:c=123
  ·rw [if_pos hc]
   have st:B3 (.val (row (pre++c::r))) (.val (row [123])) (.val (.int (pre.length:Nat)))=some (.val (.bool true)):=by rw [st,hc];rfl
   generalize pre++c::r=T at st hA ⊢
   simp (disch:=omega) only [m7,d6,d4,c7,e7,d0,c9,c8,e8,i3,j7,d7,o0,d8,p9,g6,i5,n8,B1,AD,AH,AR,AO,Ad,D5,st,e1,hA]
   try rfl
  ·rw [if_neg hc]
   rw [no 123 hc] at st
   by_cases hl:c=91
   ·rw [if_pos hl]
    have st2:B3 (.val (row (pre++c::r))) (.val (row [91])) (.val (.int (pre.length:Nat)))=some (.val (.bool true)):=by rw [st2,hl];rfl
    generalize pre++c::r=T at st st2 tm ⊢
    simp (disch:=omega) only [m7,d6,d4,c7,e7,d0,c9,c8,e8,i3,j7,d7,g7,o0,d8,p9,n5,i4,g6,i5,n8,B1,AD,AH,AR,AO,Ad,D5,st,st2,e1,tm]
    try rfl
   ·rw [if_neg hl]
    rw [no 91 hl] at st2
    show _=some (f6.val .none)
    generalize pre++c::r=T at st st2 ⊢
    simp (disch:=omega) only [d4,c7,e7,i3,j7,d7,g7,d8,n5,i4,g6,i5,n8,B1,AD,AH,AR,AO,Ad,D5,st,st2]
    try rfl
theorem b1I(ps:List PV)(i:Int):a2Q false (.val (.tuple [.list ps,.int i])) (.val .none)=some (.val (.bool false)):=rfl
abbrev c0i(P:List Nat→Option (Wa×List Nat))(m:Nat):Prop:=∀{s r:List Nat} {p:Wa},P s=some (p,r)→s=Y5 p++r∧gVx p∧dpV p≤m∧noF r
theorem c0l{RA RF RP:List PV→Option f6}{P:List Nat→Option (Wa×List Nat)}{m:Nat}(hP:c0i P m){left:Nat}{pre s:List Nat}(hT:(pre++s).length≤3990)(hR:RP [row (pre++s),.int (pre.length:Nat),.int (left:Nat),fnW]=some (.val (a65 (pre++s) (E8 P 4000 s)))):
 k9 2 (X8 RA RP RF) [row (pre++s),.int (pre.length:Nat),.int ((left+1:Nat):Int),fnW,row [125]]=some (.val (a8F (pre++s) (a7w P s))):=by
 have c0:(((left+1:Nat):Int)==0)=false:=by rw [beq_eq_false_iff_ne];lia
 have e0:((left+1:Nat):Int) - 1=(left:Nat):=by lia
 unfold a7w
 unfold X8
 cases hw:E8 P 4000 s with
 |none=>
  rw [hw] at hR
  have hR:RP [row (pre++s),.int (pre.length:Nat),.int (left:Nat),fnW]=some (.val .none):=hR
  show _=some (f6.val .none)
  generalize pre++s=T at hR ⊢
  simp (disch:=omega) only [A6,d6,d4,c7,e7,d0,c9,c8,e8,g5,j4,i3,j7,d7,g7,o0,d8,p9,n5,i4,g6,i5,f7,h9,m8,a4i,AD,AH,AR,AW,AO,AN,AQ,AS,AT,P0,c0,e0,hR,a3j]
  try rfl
 |some x=>
  obtain⟨ps,r⟩:=x
  obtain⟨b1,b2,b3,b4,b5,b6⟩:=a0k hP hw
  rw [hw] at hR
  have hR:RP [row (pre++s),.int (pre.length:Nat),.int (left:Nat),fnW]=some (.val (.tuple [.list (j0 ps),.int (((pre++s).length - r.length:Nat):Int)])):=hR
  have eT:pre++s=(pre++O5 ps)++r:=by rw [b1,List.append_assoc]
  have hl:(pre++s).length - r.length=(pre++O5 ps).length:=by rw [eT,AX (as:=pre++O5 ps)];lia
  have st:=X4 (pre:=pre++O5 ps) (s:=r) (y:=[125])
  rw [←eT,←hl] at st
  rw [AD]
  have i0:∀x:PV,m9 (.val (.tuple [.list (j0 ps),x])) (.val (.int 0))=some (.val (.list (j0 ps))):=fun _=>rfl
  by_cases h125:∃r1,r=125::r1
  ·obtain⟨r1,e1⟩:=h125
   subst e1
   have st:B3 (.val (row (pre++s))) (.val (row [125])) (.val (.int (((pre++s).length - (125::r1).length:Nat):Int)))=some (.val (.bool true)):=st
   have eT2:pre++s=(pre++O5 ps++[125])++r1:=by rw [eT];simp
   have tm:=a7g (pre:=pre++O5 ps++[125]) (s:=r1) (by rw [←eT2];exact hT)
   have hl2:(pre++O5 ps++[125]).length=(pre++s).length - (125::r1).length+1:=by rw [hl,AX (as:=pre++O5 ps)];rfl
   rw [←eT2,hl2] at tm
   have e1:(((pre++s).length - (125::r1).length:Nat):Int)+1=(((pre++s).length - (125::r1).length+1:Nat):Int):=by lia
   show _=some (f6.val (a8F (pre++s) ((F8 r1).bind fun y=>if y.1=1 then none else some (.again y.1 ps,y.2))))
   cases ht:F8 r1 with
   |none=>
    rw [ht] at tm
    have tm:v6 [row (pre++s),.int (((pre++s).length - (125::r1).length+1:Nat):Int)]=some (.val .none):=tm
    show _=some (f6.val .none)
    generalize (pre++s).length - (125::r1).length=e at*
    generalize pre++s=T at*
    simp (disch:=omega) only [m7,A6,v9,d6,d4,c7,e7,d0,c9,c8,e8,g5,j4,i3,j7,d7,g7,o0,d8,p9,n5,i4,g6,i5,n8,f7,h9,B1,j3,m8,a4i,J9,AD,Ah,AH,AR,AW,AO,AN,AQ,AS,AT,Bool.not_true,P0,c0,e0,hR,b1I,D5,st,e1,tm,a3j]
    try rfl
   |some y=>
    obtain⟨k,r2⟩:=y
    rw [ht] at tm
    have tm:v6 [row (pre++s),.int (((pre++s).length - (125::r1).length+1:Nat):Int)]=some (.val (.tuple [.int (k:Nat),.int (((pre++s).length - r2.length:Nat):Int)])):=tm
    by_cases hk:k=1
    ·have c1:((k:Int)==1)=true:=by rw [hk];rfl
     rw [AD,if_pos hk]
     show _=some (f6.val .none)
     generalize (pre++s).length - (125::r1).length=e at*
     generalize (pre++s).length - r2.length=e2 at*
     generalize pre++s=T at*
     simp (disch:=omega) only [m7,A6,Z9,v9,d6,d4,c7,e7,d0,c9,c8,e8,g5,j4,i3,j7,d7,g7,o0,d8,p9,n5,i4,g6,i5,n8,f7,h9,B1,j3,m8,J9,AD,Ah,AH,AR,AW,AO,AN,AQ,AS,AT,Bool.not_true,P0,c0,e0,hR,b1I,D5,st,e1,tm,b0U,c1]
     try rfl
    ·have c1:((k:Int)==1)=false:=by rw [beq_eq_false_iff_ne];lia
     rw [AD,if_neg hk]
     show _=some (f6.val (.tuple [L8 (.again k ps),.int (((pre++s).length - r2.length:Nat):Int)]))
     have pe:L8 (.again k ps)= .tuple [.str (AY "again"),.int (k:Nat),.list (j0 ps)]:=by rw [L8]
     rw [pe]
     generalize (pre++s).length - (125::r1).length=e at*
     generalize (pre++s).length - r2.length=e2 at*
     generalize pre++s=T at*
     simp (disch:=omega) only [m7,A6,Z9,v9,d6,d4,c7,e7,d0,c9,c8,z7,e8,g5,j4,i3,j7,d7,g7,d8,n5,i4,g6,i5,n8,f7,h9,B1,j3,m8,J9,AD,Ah,AH,AR,AW,AO,AN,AQ,AS,AT,AV,Af,↓reduceIte,Bool.not_true,sz,Nat.reduceAdd,Ai,P0,c0,e0,hR,b1I,D5,st,e1,tm,b0U,c1,i0]
     try rfl
  ·have hno:([125].isPrefixOf r)=false:=by
    rw [Bool.eq_false_iff]
    exact fun z=>h125 ((b6f 125 r).mp z)
   rw [hno] at st
   refine Eq.trans (b:=some (f6.val .none)) ?_ ?_
   ·generalize (pre++s).length - r.length=e at*
    generalize pre++s=T at*
    simp (disch:=omega) only [A6,v9,d6,d4,c7,e7,d0,c9,c8,e8,g5,j4,i3,j7,d7,g7,o0,d8,p9,n5,i4,g6,i5,n8,f7,h9,B1,j3,m8,J9,AD,Ah,AH,AR,AW,AO,AN,AQ,AS,AT,Bool.not_false,P0,c0,e0,hR,b1I,D5,st]
    try rfl
   ·dsimp only
    split
    ·exact absurd ⟨_,rfl⟩ h125
    ·rfl
theorem b6B{RA RF RP:List PV→Option f6}{T:List Nat}{i:Nat}:k9 2 (X8 RA RP RF) [row T,.int (i:Nat),.int 0,fnW,row [125]]=some (.val .none):=by
 unfold X8
 simp (disch:=omega) only [d6,d4,c7,e7,i3,j7,d7,o0,d8,p9,g6,i5,f7,h9,AD,AH,AR,AW,AO,AN,AQ,beq_self_eq_true,P0]
 try rfl
theorem b3m:∀(a b:List Wa),j0 (a++b)=j0 a++j0 b
 |[],b=>by rw [j0];rfl
 |p::a,b=>by rw [AN,j0,j0,b3m a b];rfl
theorem b3k{RA RF RP:List PV→Option f6}{P:List Nat→Option (Wa×List Nat)}{m:Nat}(hP:c0i P m){left:Nat}{T:List Nat}(hT:T.length≤3990)(hF:∀pre s:List Nat,T=pre++s→RF [row T,.int (pre.length:Nat),.int (left:Nat)]=some (.val (a8F T (P s)))):∀(n:Nat) (pre s:List Nat) (acc:List Wa) (q5:Option f6),T=pre++s→s.length<n→acc.length+s.length≤9000→
 O6 (mtV (mC (.bool true))) (D4 RA RP RF) n [some (.val (row T)),some (.val (.int (pre.length:Nat))),some (.val (.int (left:Nat))),some (.val fnW),some (.own (j0 acc)),q5]=some (.rt (.val (a65 T ((E8 P n s).map fun x=>(acc++x.1,x.2)))))
 |0,_,s,_,_,_,h,_=>by lia
 |n+1,pre,s,acc,q5,e,hn,ha=>by
  have hf:=hF pre s e
  have cv:∀q4 q5,a1q [("weaving_part_at",RF)] 3 (b0 (b7 0) (b0 (b7 1) (b0 (b7 2) f8))) [some (.val (row T)),some (.val (.int (pre.length:Nat))),some (.val (.int (left:Nat))),some (.val fnW),q4,q5]=some (.val (a8F T (P s))):=fun q4 q5=>b0J (x:=AY "weaving_part_at") (g:=RF) (qs:=[row T,.int (pre.length:Nat),.int (left:Nat)]) rfl rfl (by simp (disch:=omega) only [c7,e7,d0,c9,c8,AD]) hf
  have sp:AY " "=S [32]:=rfl
  have tt:mtV (mC (.bool true)) [some (.val (row T)),some (.val (.int (pre.length:Nat))),some (.val (.int (left:Nat))),some (.val fnW),some (.own (j0 acc)),q5]=some true:=rfl
  rw [O6,tt,AD,if_pos rfl,E8]
  cases hw:P s with
  |none=>
   rw [hw] at cv
   have cv:∀q4 q5,a1q [("weaving_part_at",RF)] 3 (b0 (b7 0) (b0 (b7 1) (b0 (b7 2) f8))) [some (.val (row T)),some (.val (.int (pre.length:Nat))),some (.val (.int (left:Nat))),some (.val fnW),q4,q5]=some (.val .none):=cv
   have hb:D4 RA RP RF [some (.val (row T)),some (.val (.int (pre.length:Nat))),some (.val (.int (left:Nat))),some (.val fnW),some (.own (j0 acc)),q5]=some (.rt (.val .none)):=by
    unfold D4
    simp (disch:=omega) only [d6,d4,c7,e7,g5,j4,i3,j7,d7,g7,o0,d8,p9,f7,h9,AD,AS,AT,cv,a3j]
    try rfl
   rw [hb]
   rfl
  |some x=>
   obtain⟨p,r⟩:=x
   rw [hw] at cv
   obtain⟨a1,a2,a3,a4⟩:=hP hw
   have hl1:=b9C p
   have hsl:s.length=(Y5 p).length+r.length:=by rw [a1,AX]
   have eT:T=(pre++Y5 p)++r:=by rw [e,a1,List.append_assoc]
   have hl:T.length - r.length=(pre++Y5 p).length:=by rw [eT,AX (as:=pre++Y5 p)];lia
   have cv:∀q4 q5,a1q [("weaving_part_at",RF)] 3 (b0 (b7 0) (b0 (b7 1) (b0 (b7 2) f8))) [some (.val (row T)),some (.val (.int (pre.length:Nat))),some (.val (.int (left:Nat))),some (.val fnW),q4,q5]=some (.val (.tuple [L8 p,.int ((T.length - r.length:Nat):Int)])):=cv
   have st:=X4 (pre:=pre++Y5 p) (s:=r) (y:=[32])
   rw [←eT,←hl] at st
   have is:a2Q false (.val (.tuple [L8 p,.int ((T.length - r.length:Nat):Int)])) (.val .none)=some (.val (.bool false)):=rfl
   have i0:∀x:PV,m9 (.val (.tuple [L8 p,x])) (.val (.int 0))=some (.val (L8 p)):=fun _=>rfl
   have hpl:(j0 acc).length=acc.length:=by
    have:∀l:List Wa,(j0 l).length=l.length:=fun l=>by
     induction l with
     |nil=>rw [j0];rfl
     |cons a l ih=>rw [j0,AV,AV,ih]
    exact this acc
   have ap:A1 4 (m2 m9 (b7 5) (mC (.int 0))) [some (.val (row T)),some (.val (.int (pre.length:Nat))),some (.val (.int (left:Nat))),some (.val fnW),some (.own (j0 acc)),some (.val (.tuple [L8 p,.int ((T.length - r.length:Nat):Int)]))]=some (.nx [some (.val (row T)),some (.val (.int (pre.length:Nat))),some (.val (.int (left:Nat))),some (.val fnW),some (.own (j0 (acc++[p]))),some (.val (.tuple [L8 p,.int ((T.length - r.length:Nat):Int)]))]):=by
    rw [A8 (r:= .val (L8 p)) (p:=L8 p) (by simp (disch:=omega) only [d6,d4,c7,e7,AD,i0]) rfl rfl (by lia),b3m,j0,j0]
    rfl
   rw [AD]
   by_cases h32:∃r1,r=32::r1
   ·obtain⟨r1,er⟩:=h32
    subst er
    have st:B3 (.val (row T)) (.val (row [32])) (.val (.int ((T.length - (32::r1).length:Nat):Int)))=some (.val (.bool true)):=st
    have eT2:T=(pre++Y5 p++[32])++r1:=by rw [eT];simp
    have hl2:(pre++Y5 p++[32]).length=T.length - (32::r1).length+1:=by rw [hl,AX (as:=pre++Y5 p)];rfl
    have e1:((T.length - (32::r1).length:Nat):Int)+1=((T.length - (32::r1).length+1:Nat):Int):=by lia
    rw [AV] at hsl
    have ih:=b3k (RA:=RA) (RP:=RP) hP hT hF n (pre++Y5 p++[32]) r1 (acc++[p]) (some (.val (.tuple [L8 p,.int ((T.length - (32::r1).length:Nat):Int)]))) eT2 (by lia) (by rw [AX,List.length_singleton];lia)
    rw [hl2] at ih
    have hb:D4 RA RP RF [some (.val (row T)),some (.val (.int (pre.length:Nat))),some (.val (.int (left:Nat))),some (.val fnW),some (.own (j0 acc)),q5]=some (.nx [some (.val (row T)),some (.val (.int ((T.length - (32::r1).length+1:Nat):Int))),some (.val (.int (left:Nat))),some (.val fnW),some (.own (j0 (acc++[p]))),some (.val (.tuple [L8 p,.int ((T.length - (32::r1).length:Nat):Int)]))]):=by
     unfold D4
     rw [sp]
     generalize T.length - (32::r1).length=e at*
     simp (disch:=omega) only [m7,v9,d6,d4,c7,e7,g5,j4,d7,g7,d8,n5,i4,n8,f7,h9,B1,j3,AD,Ah,AS,AT,Bool.not_true,cv,is,ap,D5,st,e1]
     try rfl
    rw [hb,AD]
    show O6 _ _ n _=some (.rt (.val (a65 T (((E8 P n r1).map fun y=>(p::y.1,y.2)).map fun x=>(acc++x.1,x.2)))))
    rw [ih]
    cases E8 P n r1 with
    |none=>rfl
    |some y=>
     show some (Fl.rt (f6.val (a65 T (some (acc++[p]++y.1,y.2)))))=some (.rt (.val (a65 T (some (acc++p::y.1,y.2)))))
     rw [List.append_assoc]
     rfl
   ·have hno:([32].isPrefixOf r)=false:=by
     rw [Bool.eq_false_iff]
     exact fun z=>h32 ((b6f 32 r).mp z)
    rw [hno] at st
    have hb:D4 RA RP RF [some (.val (row T)),some (.val (.int (pre.length:Nat))),some (.val (.int (left:Nat))),some (.val fnW),some (.own (j0 acc)),q5]=some (.rt (.val (a65 T (some (acc++[p],r))))):=by
     show _=some (Fl.rt (.val (.tuple [.list (j0 (acc++[p])),.int ((T.length - r.length:Nat):Int)])))
     unfold D4
     rw [sp]
     generalize T.length - r.length=e at*
     simp (disch:=omega) only [v9,d6,d4,c7,e7,d0,c9,c8,z7,g5,j4,i3,j7,d7,g7,o0,d8,p9,n5,i4,n8,f7,h9,B1,j3,AD,Ah,AS,AT,AV,Af,↓reduceIte,Bool.not_false,sz,Nat.reduceAdd,Ai,cv,is,ap,D5,st,fz4]
     try rfl
    rw [hb]
    refine Eq.trans (b:=some (Fl.rt (.val (a65 T (some (acc++[p],r)))))) rfl ?_
    dsimp only
    split
    ·exact absurd ⟨_,rfl⟩ h32
    ·rfl
theorem b7S{RA RF RP:List PV→Option f6}{P:List Nat→Option (Wa×List Nat)}{m:Nat}(hP:c0i P m){left:Nat}{pre s:List Nat}(hT:(pre++s).length≤3990)(hF:∀pre s:List Nat,(pre++s).length≤3990→RF [row (pre++s),.int (pre.length:Nat),.int (left:Nat)]=some (.val (a8F (pre++s) (P s)))):
 k9 2 (a2t RA RP RF) [row (pre++s),.int (pre.length:Nat),.int (left:Nat),fnW]=some (.val (a65 (pre++s) (E8 P 4000 s))):=by
 have hl:=hT
 rw [AX] at hl
 have e:=b3k (RA:=RA) (RF:=RF) (RP:=RP) hP (left:=left) (T:=pre++s) hT (fun a b h=>by rw [h];exact hF a b (by rw [←h];exact hT)) 4000 pre s [] none rfl (by lia) (by simp;lia)
 have em:((E8 P 4000 s).map fun x=>(([]:List Wa)++x.1,x.2))=E8 P 4000 s:=by
  cases E8 P 4000 s with
  |none=>rfl
  |some x=>rfl
 rw [em,show j0 []=[] by rw [j0]] at e
 unfold a2t
 simp (disch:=omega) only [d0,A9,g5,W7,d7,g7,g6,i5,AD,AH,AR,AW,AO,AN,AQ,AS,AT,Af,↓reduceIte,sz,Ai,e]
theorem b0T:∀(left m:Nat),3*left+2≤m→∀pre s:List Nat,(pre++s).length≤3990→u8 m [row (pre++s),.int (pre.length:Nat),.int (left:Nat)]=some (.val (a8F (pre++s) (a4U left s)))
 |0,m,hm,pre,s,hT=>by
  obtain⟨m,rfl⟩:∃j,m=j+2:=⟨m - 2,by lia⟩
  exact c0d (ag:=fun _=>none) (left:=0) (RA:=O2 (m+1)) (RF:=u8 (m+1)) (RP:=K3 (m+1)) (fun a b _=>b6B (RA:=O2 m) (RF:=u8 m) (RP:=K3 m) (T:=a++b) (i:=a.length)) hT
 |left+1,m,hm,pre,s,hT=>by
  obtain⟨m,rfl⟩:∃j,m=j+3:=⟨m - 3,by lia⟩
  refine c0d (ag:=a7w (a4U left)) (left:=((left+1:Nat):Int)) (RA:=O2 (m+2)) (RF:=u8 (m+2)) (RP:=K3 (m+2)) (fun a b h=> ?_) hT
  exact c0l (RA:=O2 (m+1)) (RF:=u8 (m+1)) (RP:=K3 (m+1)) (a1j (n:=left)) h (b7S (RA:=O2 m) (RF:=u8 m) (RP:=K3 m) (a1j (n:=left)) h fun a b h=>b0T left m (by lia) a b h)
theorem b6e{t:List Nat}(hT:t.length≤3990):a1a [row t,.int 0,.int 12,fnW]=some (.val (a65 t (E8 (a4U 12) 4000 t))):=
 b7S (RA:=O2 41) (RF:=u8 41) (RP:=K3 41) (a1j (n:=12)) (left:=12) (pre:=[]) (s:=t) hT fun a b h=>b0T 12 41 (by lia) a b h
theorem c14{l:List Nat}{k:Nat}(h:l.length*k≤10000)(hk:k≤10000):V0 (.val (row l)) (.val (.int (k:Nat)))=some (.val (row (((Ac k).map fun _=>l).flatten))):=by
 show(if okC (fun k n=>0≤k∧k≤1000000∧n*k≤16777216) (k:Int) (S l).length=true then some (f6.val (.str ⟨(Ab (k:Int).toNat (S l).cps.toList).flatten.toArray⟩)) else none)=_
 have e:((Ac k).map fun _=>l)=Ab k l:=by rw [List.map_const',BA]
 rw [if_pos (a3O.mpr ⟨by lia,by lia,by
  rw [a1x,←Int.natCast_mul]
  lia⟩),e,a4b,BI]
 rfl
theorem b8n{RU RP:List PV→Option f6}{p:Pa}(ok:okP p)(hl:(unP p).length≤24)(hU:∀k qs,p= .again k qs→RU [.list (r6 qs)]=some (.val (row (F9 qs)))):k9 0 (V9 RU RP) [x9 p]=some (.val (row (unP p))):=by
 unfold V9
 rcases a61 p with⟨c,k,rfl,ep⟩|⟨k,qs,rfl,ep⟩
 ·have i0:m9 (.val (x9 (.run c k))) (.val (.int 0))=some (.val a42):=by rw [ep];rfl
  have i1:m9 (.val (x9 (.run c k))) (.val (.int 1))=some (.val (row [c])):=by rw [ep];rfl
  have i2:m9 (.val (x9 (.run c k))) (.val (.int 2))=some (.val (.int (k:Nat))):=by rw [ep];rfl
  rw [a37] at hl
  have ml:=c14 (l:=[c]) (k:=k) (by simp;lia) (by lia)
  have e:(((Ac k).map fun _=>[c]).flatten)=unP (.run c k):=by
   rw [unP]
   generalize Ac k=r
   induction r with
   |nil=>rfl
   |cons a r ih=>rw [AH,List.flatten_cons,ih,AH];rfl
  rw [e] at ml
  simp (disch:=omega) only [d6,d4,c7,i3,j7,d7,o0,d8,p9,g6,i5,f7,h9,AD,AH,AR,AO,Ad,i0,i1,i2,b6S,ml]
 ·have i0:m9 (.val (x9 (.again k qs))) (.val (.int 0))=some (.val E2):=by rw [ep];rfl
  have i1:m9 (.val (x9 (.again k qs))) (.val (.int 1))=some (.val (.int (k:Nat))):=by rw [ep];rfl
  have i2:m9 (.val (x9 (.again k qs))) (.val (.int 2))=some (.val (.list (r6 qs))):=by rw [ep];rfl
  rw [a2l] at hl
  obtain⟨k1,k2,_,_⟩:=ok
  have hr:=hU k qs rfl
  have ml:=c14 (l:=F9 qs) (k:=k) (by rw [Nat.mul_comm];lia) (by lia)
  have e:(((Ac k).map fun _=>F9 qs).flatten)=unP (.again k qs):=by rw [unP]
  rw [e] at ml
  simp (disch:=omega) only [d6,d4,c7,d0,c9,c8,e8,i3,j7,d7,g7,d8,n5,i4,g6,i5,f7,h9,AD,AH,AR,AO,Ad,i0,i1,i2,b6Q,hr,ml]
theorem b4A:∀(n:Nat) (ps:List Pa),okL ps→(F9 ps).length≤24→2*dpL ps+2≤n→Y1 n [.list (r6 ps)]=some (.val (row (F9 ps)))
 |0,_,_,_,h=>by lia
 |1,_,_,_,h=>by lia
 |m+2,ps,ok,hl,hd=>by
  have hm:=a7j ok
  have cm:=a0I (ι:=x9) (f:=fun p=>row (unP p)) (k:=1) (it:=a0i (b7 0)) (elt:=a2X (Y1 (m+1)) (M8 (m+1))) (tg:=k7 1) (ρ:=[some (.val (.list (r6 ps)))]) ps
   (a2A (r:= .val (.list (r6 ps))) rfl (by rw [a3R];rfl)) (by lia) fun p hp=>⟨_,rfl,by
    have:=b2n hp
    have e:M8 (m+1) [x9 p]=some (.val (row (unP p))):=b8n (RU:=Y1 m) (RP:=M8 m) (a6V ok hp) (by lia) fun k qs hq=>by
     subst hq
     obtain⟨h1,h2,h3,h4,h5,h6,h7⟩:=b5t ok hp
     exact b4A m qs h1 (by lia) (by lia)
    unfold a2X
    simp (disch:=omega) only [c7,e7,d0,c9,c8,e8,AD,AW,AO,AN,AQ,AS,AT,e]⟩
  have jn:M5 (.val (.str (AY ""))) (.own (ps.map fun p=>row (unP p)))=some (.val (row (F9 ps))):=by
   rw [a0s]
   exact b43 (y:= .own (ps.map fun p=>row (unP p))) (by rw [At];rfl) (by rw [←a0s];lia)
  show k9 0 (a3E (Y1 (m+1)) (M8 (m+1))) [.list (r6 ps)]=_
  unfold a3E
  simp (disch:=omega) only [d6,d4,i3,j7,g6,i5,AD,AH,AR,AO,Ad,cm,jn]
mutual
def coP:Pa→Nat
 | .run _ _=>1
 | .again _ ps=>1+coL ps
def coL:List Pa→Nat
 |[]=>0
 |p::ps=>coP p+coL ps
end
theorem b4H{R:List PV→Option f6}{q0:Option f6}:∀(ps:List Pa) (a:Int) (q2:Option f6),(∀k qs,Pa.again k qs∈ps→R [.list (r6 qs)]=some (.val (.int (coL qs:Nat))))→
 ∃q2',M4 (a3k R) (k7 2) (r6 ps) [q0,some (.val (.int a)),q2]=some (.nx [q0,some (.val (.int (a+(coL ps:Nat)))),q2'])
 |[],a,q2,_=>⟨q2,by rw [r6,coL];show some _=_;rw [Int.natCast_zero,Int.add_zero]⟩
 |p::ps,a,q2,hR=>by
  obtain⟨q2',e⟩:=b4H (R:=R) (q0:=q0) ps (a+(coP p:Nat)) (some (.val (x9 p))) fun k qs h=>hR k qs (Ak _ h)
  refine⟨q2', ?_⟩
  have hb:a3k R [q0,some (.val (.int a)),some (.val (x9 p))]=some (.nx [q0,some (.val (.int (a+(coP p:Nat)))),some (.val (x9 p))]):=by
   have aug:∀(x:Int) (m:M) (y:Int),m [q0,some (.val (.int x)),some (.val (x9 p))]=some (.val (.int y))→a2d 1 (gI fun i j=> .int (i+j)) m [q0,some (.val (.int x)),some (.val (x9 p))]=some (.nx [q0,some (.val (.int (x+y))),some (.val (x9 p))]):=fun x m y hm=>by
    unfold a2d
    show((m [q0,some (.val (.int x)),some (.val (x9 p))]).bind _)=_
    rw [hm]
    rfl
   unfold a3k
   rcases a61 p with⟨c,k,rfl,ep⟩|⟨k,qs,rfl,ep⟩
   ·have i0:m9 (.val (x9 (.run c k))) (.val (.int 0))=some (.val a42):=by rw [ep];rfl
    rw [coP]
    simp (disch:=omega) only [d6,d4,c7,e7,d7,g7,d8,n5,i4,f7,h9,AD,Int.cast_ofNat_Int,aug a (mC (.int 1)) 1 rfl,i0,b8P]
   ·have i0:m9 (.val (x9 (.again k qs))) (.val (.int 0))=some (.val E2):=by rw [ep];rfl
    have i2:m9 (.val (x9 (.again k qs))) (.val (.int 2))=some (.val (.list (r6 qs))):=by rw [ep];rfl
    have hr:=hR k qs Al
    rw [coP]
    simp (disch:=omega) only [d6,d4,c7,e7,d7,g7,d8,p9,f7,h9,AD,aug a (mC (.int 1)) 1 rfl,i0,c0v]
    rw [aug (a+1) _ (coL qs:Nat) (by simp (disch:=omega) only [d6,d4,c7,e7,d0,c9,c8,e8,AD,i2,hr])]
    rw [Int.natCast_add,Int.add_assoc]
    rfl
  rw [r6,M4]
  show(a3k R [q0,some (.val (.int a)),some (.val (x9 p))]).bind _=_
  rw [hb,AD,coL,Int.natCast_add,←Int.add_assoc]
  exact e
theorem b4I:∀(n:Nat) (ps:List Pa),dpL ps<n→a6J n [.list (r6 ps)]=some (.val (.int (coL ps:Nat)))
 |0,_,h=>by lia
 |n+1,ps,hd=>by
  obtain⟨q2,e⟩:=b4H (R:=a6J n) (q0:=some (.val (.list (r6 ps)))) ps 0 none fun k qs hq=>by
   have d:=a57 hq
   rw [dpP] at d
   exact b4I n qs (by lia)
  have hit:PyData.items? (.list (r6 ps))=some (r6 ps):=rfl
  rw [Int.zero_add] at e
  show k9 2 (b1l (a6J n)) [.list (r6 ps)]=_
  unfold b1l
  simp (disch:=omega) only [d4,c7,c8,g5,j4,d7,g7,g6,i5,z6,AD,AH,AR,AW,AO,AN,AQ,AS,AT,A7,W1,W2,hit,e]
theorem b2W{R:List PV→Option f6}{q0:Option f6}:∀(ps:List Pa) (a:Int) (q2:Option f6),(∀k qs,Pa.again k qs∈ps→R [.list (r6 qs)]=some (.val (.int (coL qs:Nat))))→
 ∃q2',M4 (L3 R) (k7 2) (r6 ps) [q0,some (.val (.int a)),q2]=some (.nx [q0,some (.val (.int (a+(coL ps:Nat) - (ps.length:Nat)))),q2'])
 |[],a,q2,_=>⟨q2,by rw [r6,coL];show some _=_;simp⟩
 |p::ps,a,q2,hR=>by
  have key:∀b:Int,b=a+(coP p:Nat) - 1→L3 R [q0,some (.val (.int a)),some (.val (x9 p))]=some (.nx [q0,some (.val (.int b)),some (.val (x9 p))])→∃q2',M4 (L3 R) (k7 2) (r6 (p::ps)) [q0,some (.val (.int a)),q2]=some (.nx [q0,some (.val (.int (a+(coL (p::ps):Nat) - ((p::ps).length:Nat)))),q2']):=fun b eb hb=>by
   obtain⟨q2',e⟩:=b2W (R:=R) (q0:=q0) ps b (some (.val (x9 p))) fun k qs h=>hR k qs (Ak _ h)
   refine⟨q2', ?_⟩
   rw [r6,M4]
   show(L3 R [q0,some (.val (.int a)),some (.val (x9 p))]).bind _=_
   rw [hb,AD,coL,AV]
   have:b+(coL ps:Nat) - (ps.length:Nat)=a+((coP p+coL ps:Nat):Int) - ((ps.length+1:Nat):Int):=by lia
   rw [←this]
   exact e
  rcases a61 p with⟨c,k,rfl,ep⟩|⟨k,qs,rfl,ep⟩
  ·have i0:m9 (.val (x9 (.run c k))) (.val (.int 0))=some (.val a42):=by rw [ep];rfl
   refine key a (by rw [coP];lia) ?_
   unfold L3
   simp (disch:=omega) only [d6,d4,c7,e7,d8,n5,i4,f7,h9,AD,i0,b8P]
  ·have i0:m9 (.val (x9 (.again k qs))) (.val (.int 0))=some (.val E2):=by rw [ep];rfl
   have i2:m9 (.val (x9 (.again k qs))) (.val (.int 2))=some (.val (.list (r6 qs))):=by rw [ep];rfl
   have hr:=hR k qs Al
   refine key (a+(coL qs:Nat)) (by rw [coP];lia) ?_
   unfold L3
   simp (disch:=omega) only [m7,d6,d4,c7,e7,d0,c9,c8,e8,g5,j4,d8,p9,f7,h9,AD,AS,AT,i0,i2,c0v,hr]
theorem b2X:∀(n:Nat) (ps:List Pa),dpL ps<n→a1d n [.list (r6 ps)]=some (.val (.int (coL ps:Nat)))
 |0,_,h=>by lia
 |n+1,ps,hd=>by
  obtain⟨q2,e⟩:=b2W (R:=a1d n) (q0:=some (.val (.list (r6 ps)))) ps (ps.length:Nat) none fun k qs hq=>by
   have d:=a57 hq
   rw [dpP] at d
   exact b2X n qs (by lia)
  have hit:PyData.items? (.list (r6 ps))=some (r6 ps):=rfl
  have e1:(ps.length:Int)+(coL ps:Nat) - (ps.length:Nat)=(coL ps:Nat):=by lia
  rw [e1] at e
  show k9 2 (a3A (a1d n)) [.list (r6 ps)]=_
  unfold a3A
  simp (disch:=omega) only [U1,m6,c7,c8,g5,j4,d7,g7,g6,i5,z6,AD,AH,AR,AW,AO,AN,AQ,AS,AT,A7,W1,W2,b2b,hit,e]
theorem a8M:∀(n:Nat) (ps:List Pa),2*dpL ps+3≤n→N6 (r6 ps) n=true
 |0,_,h=>by lia
 |1,_,h=>by lia
 |2,_,h=>by lia
 |m+3,ps,h=>by
  rw [a3R]
  refine a3f fun p hp=> ?_
  obtain⟨p,hp1,rfl⟩:=Au.mp hp
  have d:=a57 hp1
  rcases a61 p with⟨c,k,rfl,ep⟩|⟨k,qs,rfl,ep⟩
  ·rw [ep];rfl
  ·rw [ep]
   rw [dpP] at d
   show N6 [E2,.int (k:Nat),.list (r6 qs)] (m+2)=true
   refine a3f fun q hq=> ?_
   simp only [Am,List.not_mem_nil,or_false] at hq
   rcases hq with rfl|rfl|rfl
   ·rfl
   ·rfl
   ·exact a8M (m+1) qs (by lia)
theorem c2P(i:Int):a6f "int" (.int i)=true:=rfl
theorem c2O(i:Int):a6f "bool" (.int i)=false:=rfl
theorem a6A{i j:Int}(h:j≤i):G9 [.int i,.int j]=some (.val (.bool true)):=by
 unfold G9 a4u
 simp (disch:=omega) only [A6,d6,m6,c7,e7,i3,j7,g6,i5,a9s,b7r,b3R,c0V,b65,AD,AH,AR,AO,Ad,Bool.not_false,b7g,c1P,c2P,c2O,decide_eq_true h]
theorem b2T{R:List PV→Option f6}{q0:Option f6}:∀(ps:List Pa) (q1:Option f6),okL ps→(∀k qs,Pa.again k qs∈ps→R [.list (r6 qs)]=some (.val (.bool true)))→∃q1',M4 (M9 R) (k7 1) (r6 ps) [q0,q1]=some (.nx [q0,q1'])
 |[],q1,_,_=>⟨q1,by rw [r6];rfl⟩
 |p::ps,q1,ok,hR=>by
  obtain⟨q1',e⟩:=b2T (R:=R) (q0:=q0) ps (some (.val (x9 p))) ok.2 fun k qs h=>hR k qs (Ak _ h)
  refine⟨q1', ?_⟩
  have hb:M9 R [q0,some (.val (x9 p))]=some (.nx [q0,some (.val (x9 p))]):=by
   unfold M9
   rcases a61 p with⟨c,k,rfl,ep⟩|⟨k,qs,rfl,ep⟩
   ·have i0:m9 (.val (x9 (.run c k))) (.val (.int 0))=some (.val a42):=by rw [ep];rfl
    have i1:m9 (.val (x9 (.run c k))) (.val (.int 1))=some (.val (row [c])):=by rw [ep];rfl
    have i2:m9 (.val (x9 (.run c k))) (.val (.int 2))=some (.val (.int (k:Nat))):=by rw [ep];rfl
    have it:a1I "tuple" (.val (x9 (.run c k)))=some (.val (.bool true)):=by rw [ep];rfl
    have is_:a1I "str" (.val (row [c]))=some (.val (.bool true)):=rfl
    have il:G3 (.val (x9 (.run c k)))=some (.val (.int 3)):=by rw [ep];rfl
    have ic:=M6 (l:=[c]) (by simp)
    have n3:gNe (.val (.int 3)) (.val (.int 3))=some (.val (.bool false)):=S8 rfl
    have n1:gNe (.val (.int (([c].length:Nat):Int))) (.val (.int 1))=some (.val (.bool false)):=S8 rfl
    obtain⟨⟨k1,_,_⟩,_⟩:=ok
    have hc:=a6A (i:=(k:Nat)) (j:=1) (by lia)
    simp (disch:=omega) only [d6,m6,d4,c7,e7,d0,c9,c8,e8,d7,g7,d8,p9,n5,i4,n8,f7,h9,B1,j3,m8,J9,AD,Ah,AV,Af,Bool.not_true,Nat.reduceAdd,Int.cast_ofNat_Int,beq_self_eq_true,a4G,it,il,n3,i0,b6S,i1,is_,ic,n1,i2,hc]
   ·have i0:m9 (.val (x9 (.again k qs))) (.val (.int 0))=some (.val E2):=by rw [ep];rfl
    have i1:m9 (.val (x9 (.again k qs))) (.val (.int 1))=some (.val (.int (k:Nat))):=by rw [ep];rfl
    have i2:m9 (.val (x9 (.again k qs))) (.val (.int 2))=some (.val (.list (r6 qs))):=by rw [ep];rfl
    have it:a1I "tuple" (.val (x9 (.again k qs)))=some (.val (.bool true)):=by rw [ep];rfl
    have il:G3 (.val (x9 (.again k qs)))=some (.val (.int 3)):=by rw [ep];rfl
    have n3:gNe (.val (.int 3)) (.val (.int 3))=some (.val (.bool false)):=S8 rfl
    have na:gNe (.val E2) (.val E2)=some (.val (.bool false)):=S8 rfl
    obtain⟨⟨k1,_,_,_⟩,_⟩:=ok
    have hc:=a6A (i:=(k:Nat)) (j:=2) (by lia)
    have hr:=hR k qs Al
    simp (disch:=omega) only [d6,m6,d4,c7,e7,d0,c9,c8,e8,d7,g7,d8,n5,i4,n8,f7,h9,B1,j3,m8,J9,AD,Ah,Bool.not_true,it,il,n3,i0,b6Q,na,i1,hc,i2,hr]
  rw [r6,M4]
  show(M9 R [q0,some (.val (x9 p))]).bind _=_
  rw [hb,AD]
  exact e
theorem b7i:∀(n:Nat) (ps:List Pa),okL ps→ps≠[]→dpL ps≤23→dpL ps<n→T1 n [.list (r6 ps)]=some (.val (.bool true))
 |0,_,_,_,_,h=>by lia
 |n+1,ps,ok,hne,h23,hd=>by
  obtain⟨q1,e⟩:=b2T (R:=T1 n) (q0:=some (.val (.list (r6 ps)))) ps none ok fun k qs hq=>by
   have d:=a57 hq
   rw [dpP] at d
   obtain⟨_,_,h3,h4⟩:=a6V ok hq
   exact b7i n qs h4 h3 (by lia) (by lia)
  have hit:PyData.items? (.list (r6 ps))=some (r6 ps):=rfl
  have il:a1I "list" (.val (.list (r6 ps)))=some (.val (.bool true)):=rfl
  have hq:gEq (.val (.list (r6 ps))) (.ow (.lst []))=some (.val (.bool false)):=by
   rw [b3X (x:= .val (.list (r6 ps))) (y:= .ow (.lst [])) ⟨by show N6 (r6 ps) 49=true;exact a8M 49 ps (by lia),rfl⟩]
   congr 3
   show PyData.eqv (.list (r6 ps)) (.list [])=false
   cases ps with
   |nil=>exact absurd rfl hne
   |cons p ps=>rw [r6];simp [PyData.eqv,PyData.eqvAll]
  show k9 1 (a0U (T1 n)) [.list (r6 ps)]=_
  unfold a0U
  simp (disch:=omega) only [d6,m6,d4,c7,d0,c8,A9,i3,j7,d7,g7,d8,n5,i4,g6,i5,n8,f7,h9,B1,j3,m8,J9,z6,AD,Ah,AH,AR,AW,AO,AN,AQ,Af,↓reduceIte,Bool.not_true,A7,sz,Ai,il,hq,hit,e]
theorem b1v:gEq (.val a92) (.val a92)=some (.val (.bool true)):=by rfl
theorem b1u:gEq (.val E2) (.val a92)=some (.val (.bool false)):=by rfl
theorem a3o:∀ws:List Wa,j0 ws=ws.map L8
 |[]=>by rw [j0];rfl
 |p::ps=>by rw [j0,AH,a3o ps]
theorem b3n(ws:List Wa):(j0 ws).length=ws.length:=by rw [a3o,Ae]
theorem a3T(k:Nat)(ps:List Pa):m9 (.val (L8 (.rows k ps))) (.val (.int 0))=some (.val a92)∧m9 (.val (L8 (.rows k ps))) (.val (.int 1))=some (.val (.int (k:Nat)))∧m9 (.val (L8 (.rows k ps))) (.val (.int 2))=some (.val (.list (r6 ps))):=by
 rw [L8];exact⟨rfl,rfl,rfl⟩
theorem a3S(k:Nat)(ws:List Wa):m9 (.val (L8 (.again k ws))) (.val (.int 0))=some (.val E2)∧m9 (.val (L8 (.again k ws))) (.val (.int 1))=some (.val (.int (k:Nat)))∧m9 (.val (L8 (.again k ws))) (.val (.int 2))=some (.val (.list (j0 ws))):=by
 rw [L8];exact⟨rfl,rfl,rfl⟩
theorem b6D{q0 q2:Option f6}{a:Int}(m:M)(y:Int)(hm:m [q0,some (.val (.int a)),q2]=some (.val (.int y))):a2d 1 (gI fun i j=> .int (i+j)) m [q0,some (.val (.int a)),q2]=some (.nx [q0,some (.val (.int (a+y))),q2]):=by
 unfold a2d
 show((m [q0,some (.val (.int a)),q2]).bind _)=_
 rw [hm]
 rfl
theorem a07{body:MS}{i:Nat}{p:PV}{ps:List PV}{ρ ρ1:g0}{f:Option Fl}(ht:k7 i p ρ=some ρ1){ρ2:g0}(hb:body ρ1=some (.nx ρ2))(h:M4 body (k7 i) ps ρ2=f):M4 body (k7 i) (p::ps) ρ=f:=by
 rw [M4,ht,AD,hb,AD]
 exact h
theorem b5o{R:List PV→Option f6}{q0:Option f6}:∀(ws:List Wa) (a:Int) (q2:Option f6),T5 ws→(∀k qs,Wa.again k qs∈ws→R [.list (j0 qs)]=some (.val (.int (t8 qs:Nat))))→
 ∃q2',M4 (a1K R) (k7 2) (j0 ws) [q0,some (.val (.int a)),q2]=some (.nx [q0,some (.val (.int (a+(t8 ws:Nat)))),q2'])
 |[],a,q2,_,_=>⟨q2,by rw [j0,t8];show some _=_;simp⟩
 |w::ws,a,q2,g,hR=>by
  rw [T5] at g
  obtain⟨q2',e⟩:=b5o (R:=R) (q0:=q0) ws (a+(knV w:Nat)) (some (.val (L8 w))) g.2 fun k qs h=>hR k qs (Ak _ h)
  refine⟨q2', ?_⟩
  have hb:a1K R [q0,some (.val (.int a)),some (.val (L8 w))]=some (.nx [q0,some (.val (.int (a+(knV w:Nat)))),some (.val (L8 w))]):=by
   unfold a1K
   cases w with
   |rows k ps=>
    obtain⟨i0,i1,i2⟩:=a3T k ps
    simp (disch:=omega) only [d6,d4,c7,e7,d8,p9,f7,h9,AD,i0,b1v]
    rw [knV]
    exact b6D _ _ (by simp (disch:=omega) only [d6,d4,c7,e7,AD,i1])
   |again k qs=>
    obtain⟨i0,i1,i2⟩:=a3S k qs
    have hr:=hR k qs Al
    have mm:V0 (.val (.int (k:Nat))) (.val (.int (t8 qs:Nat)))=some (.val (.int ((k:Int)*(t8 qs:Nat)))):=R6 (by have g1:=g.1;rw [gVx] at g1;lia)
    simp (disch:=omega) only [d6,d4,c7,e7,d8,n5,f7,h9,AD,i0,b1u]
    refine b6D _ _ ?_
    simp (disch:=omega) only [d6,d4,c7,e7,d0,c9,c8,e8,AD,i1,i2,hr,mm]
    rw [knV,Nat.mul_comm,Int.natCast_mul]
  rw [t8,Int.natCast_add,←Int.add_assoc,j0]
  exact a07 rfl hb e
theorem b1d:∀(n:Nat) (ws:List Wa),T5 ws→L7 ws<n→a2a n [.list (j0 ws)]=some (.val (.int (t8 ws:Nat)))
 |0,_,_,h=>by lia
 |n+1,ws,g,hd=>by
  obtain⟨q2,e⟩:=b5o (R:=a2a n) (q0:=some (.val (.list (j0 ws)))) ws 0 none g fun k qs hq=>by
   obtain⟨h1,_,_,_,_,_,h7⟩:=a2W g hq
   exact b1d n qs h1 (by lia)
  have hit:PyData.items? (.list (j0 ws))=some (j0 ws):=rfl
  rw [Int.zero_add] at e
  show k9 2 (a5p (a2a n)) [.list (j0 ws)]=_
  unfold a5p
  simp (disch:=omega) only [d4,c7,c8,g5,j4,d7,g7,g6,i5,z6,AD,AH,AR,AW,AO,AN,AQ,AS,AT,A7,W1,W2,hit,e]
mutual
def lnV:Wa→List Nat
 | .rows _ ps=>[(F9 ps).length]
 | .again _ ws=>R0 ws
def R0:List Wa→List Nat
 |[]=>[]
 |w::ws=>lnV w++R0 ws
end
abbrev zLx(l:List Nat):List Int:=l.map fun n:Nat=>(n:Int)
abbrev inP(l:List Nat):List PV:=l.map fun n:Nat=> .int (n:Nat)
mutual
theorem b47:∀{w:Wa},gVx w→(lnV w).length≤knV w
 | .rows k ps,g=>by rw [gVx] at g;rw [lnV,knV];exact g.2.1
 | .again k ws,g=>by
   rw [gVx] at g
   have:=a9p g.2.2
   have:t8 ws*1≤t8 ws*k:=Nat.mul_le_mul_left _ (by lia)
   rw [lnV,knV]
   lia
theorem a9p:∀{ws:List Wa},T5 ws→(R0 ws).length≤t8 ws
 |[],_=>by rw [R0];exact Nat.zero_le _
 |w::ws,g=>by
  rw [T5] at g
  have:=b47 g.1
  have:=a9p g.2
  rw [R0,t8,AX]
  lia
end
theorem c0B{i:Nat}{m:M}{ρ:g0}{ps qs:List PV}(h1:m ρ=some (.own qs))(h3:ρ[i]?=some (some (.own ps)))(h:ps.length+qs.length≤16777216):a8S i m ρ=some (.nx (ρ.set i (some (.own (ps++qs))))):=by
 unfold a8S
 rw [h1,AD]
 show(match ρ[i]? with
  |some (some (.ow (.lst ps)))=>if ps.length+qs.length≤AU then some (Fl.nx (ρ.set i (some (.own (ps++qs))))) else none
  |_=>none)=_
 rw [h3]
 exact if_pos (by rw [sizeLine_eq];exact h)
theorem b48{R:List PV→Option f6}{q0:Option f6}:∀(ws:List Wa) (acc:List Nat) (q2:Option f6),T5 ws→(∀k qs,Wa.again k qs∈ws→R [.list (j0 qs)]=some (.own (inP (R0 qs))))→acc.length+t8 ws≤10000→
 ∃q2',M4 (P6 R) (k7 2) (j0 ws) [q0,some (.own (inP acc)),q2]=some (.nx [q0,some (.own (inP (acc++R0 ws))),q2'])
 |[],a,q2,_,_,_=>⟨q2,by rw [j0,R0,Ad];rfl⟩
 |w::ws,acc,q2,g,hR,hl=>by
  rw [T5] at g
  rw [t8] at hl
  have hw:=b47 g.1
  obtain⟨q2',e⟩:=b48 (R:=R) (q0:=q0) ws (acc++lnV w) (some (.val (L8 w))) g.2 (fun k qs h=>hR k qs (Ak _ h)) (by rw [AX];lia)
  refine⟨q2', ?_⟩
  have hb:P6 R [q0,some (.own (inP acc)),some (.val (L8 w))]=some (.nx [q0,some (.own (inP (acc++lnV w))),some (.val (L8 w))]):=by
   unfold P6
   cases w with
   |rows k ps=>
    obtain⟨i0,i1,i2⟩:=a3T k ps
    have g1:=g.1
    rw [gVx] at g1
    obtain⟨⟨a1,a2,a3,a4⟩,_⟩:=g1
    have un:=b4A 30 ps (a3P a1) (by rw [←a2b];exact a4) (by lia)
    have un:a18 [.list (r6 ps)]=_:=un
    have gl:=M6 (l:=F9 ps) (by rw [←a2b];lia)
    simp (disch:=omega) only [d6,d4,c7,e7,d8,p9,f7,h9,AD,i0,b1v]
    refine(A8 (r:= .val (.int ((F9 ps).length:Nat))) (p:= .int ((F9 ps).length:Nat)) (ps:=inP acc) (by simp (disch:=omega) only [d6,m6,d4,c7,e7,d0,c9,c8,e8,AD,i2,un,gl]) rfl rfl (by rw [Ae];lia)).trans ?_
    rw [lnV,show ∀b,inP (acc++b)=inP acc++inP b from fun b=>As]
    rfl
   |again k qs=>
    obtain⟨i0,i1,i2⟩:=a3S k qs
    have hr:=hR k qs Al
    rw [lnV] at hw
    simp (disch:=omega) only [d6,d4,c7,e7,d8,n5,f7,h9,AD,i0,b1u]
    refine(c0B (qs:=inP (R0 qs)) (ps:=inP acc) (by simp (disch:=omega) only [d6,d4,c7,e7,d0,c9,c8,e8,AD,i2,hr]) rfl (by rw [Ae,Ae];lia)).trans ?_
    rw [lnV,show ∀b,inP (acc++b)=inP acc++inP b from fun b=>As]
    rfl
  rw [R0,←List.append_assoc,j0]
  exact a07 rfl hb e
theorem a9o:∀(n:Nat) (ws:List Wa),T5 ws→t8 ws≤10000→L7 ws<n→Q4 n [.list (j0 ws)]=some (.own (inP (R0 ws)))
 |0,_,_,_,h=>by lia
 |n+1,ws,g,hk,hd=>by
  obtain⟨q2,e⟩:=b48 (R:=Q4 n) (q0:=some (.val (.list (j0 ws)))) ws [] none g (fun k qs hq=>by
   obtain⟨h1,_,_,_,h5,h6,h7⟩:=a2W g hq
   exact a9o n qs h1 (by lia) (by lia)) (by simpa using hk)
  have hit:PyData.items? (.list (j0 ws))=some (j0 ws):=rfl
  rw [AQ] at e
  have e:M4 (P6 (Q4 n)) (k7 2) (j0 ws) [some (.val (.list (j0 ws))),some (.own []),none]=_:=e
  show k9 2 (a1D (Q4 n)) [.list (j0 ws)]=_
  unfold a1D
  simp (disch:=omega) only [c7,d0,c8,A9,g5,W7,d7,g7,g6,i5,z6,AD,AH,AR,AW,AO,AN,AQ,AS,AT,Af,↓reduceIte,A7,W1,W2,sz,Ai,hit,e]
theorem a9k:∀l:List Nat,a4M (inP l)=some (zLx l)
 |[]=>rfl
 |n::l=>by
  have h:=a9k l
  show a4M (.int (n:Int)::inP l)=_
  unfold a4M
  rw [h]
  rfl
def b7z(l:List Nat):Prop:=l≠[]∧∀x∈l,∀y∈l,x=y
theorem b8V(is:List Int)(x:Int):x∈a6G is↔x∈is:=by
 have h:=PyProof.Rows.firstMet_any (fun i=>is.getD i 0) is.length x
 have e:(Ac is.length).map (fun i=>is.getD i 0)=is:=by
  apply List.ext_getElem
  ·simp
  ·intro i h1 h2
   simp [List.getD_eq_getElem?_getD,Ax h2]
 rw [e] at h
 have h1:∀l:List Int,l.any (· ==x)=true↔x∈l:=fun l=>by simp
 rw [←h1 (a6G is),←h1 is,h]
theorem a7E(f:Nat→Int):∀n,(PyProof.Rows.firstMet f n).Nodup
 |0=>List.nodup_nil
 |n+1=>by
  rw [PyProof.Rows.firstMet_succ]
  unfold PyProof.Rows.step_dedup
  split
  ·exact a7E f n
  ·rename_i h
   refine List.nodup_append.mpr ⟨a7E f n,by simp,fun a ha b hb=> ?_⟩
   rw [List.mem_singleton] at hb
   intro e
   apply h
   rw [List.any_eq_true]
   exact⟨a,ha,by rw [e,hb];simp⟩
theorem b1w(l:List Nat):(a6G (zLx l)).length=1↔b7z l:=by
 have hm:=b8V (zLx l)
 have hd:(a6G (zLx l)).Nodup:=a7E _ _
 generalize a6G (zLx l)=m at hm hd
 constructor
 ·intro h
  obtain⟨a,rfl⟩:=List.length_eq_one_iff.mp h
  refine⟨fun z=> ?_,fun x hx y hy=> ?_⟩
  ·subst z
   have:=(hm a).mp (by simp)
   simp at this
  ·have h1:=(hm x).mpr (Au.mpr ⟨x,hx,rfl⟩)
   have h2:=(hm y).mpr (Au.mpr ⟨y,hy,rfl⟩)
   rw [List.mem_singleton] at h1 h2
   lia
 ·rintro⟨hne,ha⟩
  obtain⟨x,hx⟩:=List.exists_mem_of_ne_nil l hne
  have hxm:=(hm x).mpr (Au.mpr ⟨x,hx,rfl⟩)
  cases m with
  |nil=>cases hxm
  |cons a m=>
   cases m with
   |nil=>rfl
   |cons b m=>
    exfalso
    obtain⟨u,hu,e1⟩:=Au.mp ((hm a).mp (by simp))
    obtain⟨v,hv,e2⟩:=Au.mp ((hm b).mp (by simp))
    have:=ha u hu v hv
    have hab:a=b:=by rw [←e1,←e2,this]
    rw [hab] at hd
    simp at hd
theorem b0W{l:List Nat}(h:l.length≤4000):a4F (.own (inP l))=some (.val (.int ((a6G (zLx l)).length:Nat))):=by
 show(a4M (inP l)).bind _=_
 rw [a9k,AD]
 exact if_pos (by rw [Ae];lia)
def a4l(t:List Nat):Option (List Wa):=(E8 (a4U 12) 4000 t).bind fun x=>match x.2 with
 |[]=>if 24<t8 x.1 then none else if(a6G (zLx (R0 x.1))).length=1 then some x.1 else none
 |_=>none
abbrev b1Q:XT:=⟨"NoWeaving",[]⟩
theorem b7Z{p:PV}(h:a1I "str" (.val p)=some (.val (.bool false))):p7 [p]=some (.inr b1Q):=by
 unfold p7 a1Y
 simp (disch:=omega) only [m6,c7,n8,B1,j3,AD,Ah,AH,AR,AW,AO,AN,AQ,Bool.not_false,V5,Q6,V3,h,a5l,a1h,a1m,a1k]
def toX:Option (List Wa)→f6 ⊕ XT
 |some ws=> .inl (.val (.list (j0 ws)))
 |none=> .inr b1Q
theorem a9X{t:List Nat}(hT:t.length≤3990):p7 [row t]=some (toX (a4l t)):=by
 have hs:a1I "str" (.val (row t))=some (.val (.bool true)):=rfl
 have pe:=b6e hT
 have v12:L6= .int 12:=rfl
 have v24:Q8= .int 24:=rfl
 have gl:=M6 (l:=t) (by lia)
 unfold a4l
 unfold p7 a1Y
 rw [v12,v24]
 cases hw:E8 (a4U 12) 4000 t with
 |none=>
  rw [hw] at pe
  have pe:a1a [row t,.int 0,.int 12,fnW]=some (.val .none):=pe
  simp (disch:=omega) only [d6,m6,d4,c7,e7,d0,c9,c8,e8,g5,j4,i4,n8,f7,h9,B1,j3,m8,a4i,AD,Ah,AH,AR,AW,AO,AN,AQ,AS,AT,Bool.not_true,V5,Q6,V3,hs,a38,a0j,a0u,pe,a3j,a5l,a1h,a1m,a1k]
  try rfl
 |some x=>
  obtain⟨ws,r⟩:=x
  obtain⟨b1,b2,b3,b4,_,_⟩:=a0k (a1j (n:=12)) hw
  rw [hw] at pe
  have pe:a1a [row t,.int 0,.int 12,fnW]=some (.val (.tuple [.list (j0 ws),.int ((t.length - r.length:Nat):Int)])):=pe
  have i0:∀x:PV,m9 (.val (.tuple [.list (j0 ws),x])) (.val (.int 0))=some (.val (.list (j0 ws))):=fun _=>rfl
  have kn:=b1d 16 ws b2 (by lia)
  have kn:a7F [.list (j0 ws)]=_:=kn
  have hl:r.length≤t.length:=by rw [b1,AX];lia
  cases r with
  |cons c r=>
   have c1:(((t.length - (c::r).length:Nat):Int)==(t.length:Nat))=false:=by
    rw [beq_eq_false_iff_ne]
    rw [AV] at hl ⊢
    lia
   have ne:gNe (.val (.int ((t.length - (c::r).length:Nat):Int))) (.val (.int (t.length:Nat)))=some (.val (.bool true)):=by rw [a4G,c1];rfl
   show _=some (Sum.inr b1Q:f6 ⊕ XT)
   generalize t.length - (c::r).length=e at*
   simp (disch:=omega) only [v9,d6,m6,d4,c7,e7,d0,c9,c8,e8,g5,j4,i4,n8,f7,h9,B1,j3,m8,J9,AD,Ah,AH,AR,AW,AO,AN,AQ,AS,AT,Bool.not_true,Bool.not_false,a4G,V5,Q6,V3,hs,a38,a0j,a0u,pe,a4N,gl,c1,a5l,a1h,a1m,a1k]
   try rfl
  |nil=>
   have e0:t.length - ([]:List Nat).length=t.length:=rfl
   rw [e0] at pe
   show _=some (toX (if 24<t8 ws then none else if(a6G (zLx (R0 ws))).length=1 then some ws else none))
   by_cases hk:24<t8 ws
   ·have g1:decide ((24:Int)<(t8 ws:Nat))=true:=decide_eq_true (by lia)
    rw [if_pos hk]
    simp (disch:=omega) only [A6,v9,d6,m6,d4,c7,e7,d0,c9,c8,e8,g5,j4,i4,n8,f7,h9,B1,j3,m8,a4i,J9,AD,Ah,AH,AR,AW,AO,AN,AQ,AS,AT,Bool.not_true,beq_self_eq_true,a4G,V5,Q6,V3,hs,a38,a0j,a0u,pe,a4N,gl,i0,kn,g1,a5l,a1h,a1m,a1k]
    try rfl
   ·have g1:decide ((24:Int)<(t8 ws:Nat))=false:=decide_eq_false (by lia)
    rw [if_neg hk]
    have le:=a9o 16 ws b2 (by lia) (by lia)
    have le:a3J [.list (j0 ws)]=_:=le
    have ls:=b0W (l:=R0 ws) (by have:=a9p b2;lia)
    generalize (a6G (zLx (R0 ws))).length=q at ls ⊢
    by_cases h1:q=1
    ·have c1:((q:Int)==1)=true:=by rw [h1];rfl
     rw [if_pos h1]
     simp (disch:=omega) only [A6,v9,d6,m6,d4,c7,e7,d0,c9,c8,e8,g5,j4,i3,j7,i4,n8,f7,h9,B1,j3,m8,J9,AD,Ah,AH,AR,AW,AO,AN,AQ,AS,AT,Bool.not_true,beq_self_eq_true,a4G,V5,Q6,V3,hs,a38,a0j,a0u,pe,a4N,gl,i0,kn,g1,le,ls,c1,b3t]
     try rfl
    ·have c1:((q:Int)==1)=false:=by rw [beq_eq_false_iff_ne];lia
     rw [if_neg h1]
     simp (disch:=omega) only [A6,v9,d6,m6,d4,c7,e7,d0,c9,c8,e8,g5,j4,i4,n8,f7,h9,B1,j3,m8,J9,AD,Ah,AH,AR,AW,AO,AN,AQ,AS,AT,Bool.not_true,Bool.not_false,beq_self_eq_true,a4G,V5,Q6,V3,hs,a38,a0j,a0u,pe,a4N,gl,i0,kn,g1,le,ls,c1,a5l,a1h,a1m,a1k]
     try rfl
theorem b3p{t:List Nat}{ws:List Wa}(h:a4l t=some ws):t=O5 ws∧T5 ws∧ws≠[]∧L7 ws≤12∧t8 ws≤24∧b7z (R0 ws):=by
 unfold a4l at h
 cases e:E8 (a4U 12) 4000 t with
 |none=>rw [e] at h;cases h
 |some x=>
  obtain⟨qs,r⟩:=x
  rw [e,AD] at h
  obtain⟨b1,b2,b3,b4,_,_⟩:=a0k (a1j (n:=12)) e
  dsimp only at h
  split at h
  ·split at h
   ·cases h
   ·split at h
    ·rename_i hk ho
     cases h
     rw [Ad] at b1
     exact⟨b1,b2,b3,b4,by lia,(b1w _).mp ho⟩
    ·cases h
  ·cases h
theorem b7Y{ws:List Wa}(g:T5 ws)(ne:ws≠[])(d:L7 ws≤12)(k:t8 ws≤24)(o:b7z (R0 ws)):a4l (O5 ws)=some ws:=by
 have hl:=a4O g
 have:=a7Q (b7G (n:=12)) (n:=4000) (r:=[]) (ps:=ws) g ne d (by lia) b5e (fun t z=>by cases z) (by lia)
 rw [Ad] at this
 unfold a4l
 rw [this,AD]
 show(if 24<t8 ws then none else if(a6G (zLx (R0 ws))).length=1 then some ws else none)=some ws
 rw [if_neg (by lia),if_pos ((b1w _).mpr o)]
mutual
theorem b6N:∀{p:Pa},gP p→2 ^ dpP p≤knP p
 | .run c k,g=>by rw [gP] at g;rw [dpP,knP];exact g.2.1
 | .again k ps,g=>by
   rw [gP] at g
   have h:=a87 g.2.1 g.2.2
   have:=Nat.mul_le_mul h g.1.1
   rw [dpP,knP,Nat.pow_succ]
   exact this
theorem a87:∀{ps:List Pa},ps≠[]→gL ps→2 ^ dpL ps≤knL ps
 |[],h,_=>absurd rfl h
 |[p],_,g=>by
  rw [gL] at g
  have:=b6N g.1
  rw [dpL,dpL,knL,knL,Nat.max_eq_left (Nat.zero_le _)]
  lia
 |p::q::ps,_,g=>by
  rw [gL] at g
  have h1:=b6N g.1
  have h2:=a87 (ps:=q::ps) (by simp) g.2
  rw [dpL,knL]
  rcases Nat.le_total (dpP p) (dpL (q::ps)) with z|z
  ·rw [Nat.max_eq_right z];lia
  ·rw [Nat.max_eq_left z];lia
end
mutual
theorem b6O:∀{p:Wa},gVx p→2 ^ dpV p≤knV p
 | .rows k ps,g=>by rw [gVx] at g;rw [dpV,knV];exact g.2.1
 | .again k ps,g=>by
   rw [gVx] at g
   have h:=a8J g.2.1 g.2.2
   have:=Nat.mul_le_mul h g.1.1
   rw [dpV,knV,Nat.pow_succ]
   exact this
theorem a8J:∀{ps:List Wa},ps≠[]→T5 ps→2 ^ L7 ps≤t8 ps
 |[],h,_=>absurd rfl h
 |[p],_,g=>by
  rw [T5] at g
  have:=b6O g.1
  rw [L7,L7,t8,t8,Nat.max_eq_left (Nat.zero_le _)]
  lia
 |p::q::ps,_,g=>by
  rw [T5] at g
  have h1:=b6O g.1
  have h2:=a8J (ps:=q::ps) (by simp) g.2
  rw [L7,t8]
  rcases Nat.le_total (dpV p) (L7 (q::ps)) with z|z
  ·rw [Nat.max_eq_right z];lia
  ·rw [Nat.max_eq_left z];lia
end
theorem a60{d k:Nat}(h:2 ^ d≤k)(hk:k≤24):d≤4:=by
 apply Classical.byContradiction
 intro z
 have:2 ^ 5≤2 ^ d:=Nat.pow_le_pow_right (by lia) (by lia)
 have:(2:Nat)^ 5=32:=by decide
 lia
theorem b3q{body:MS}{q0 v:Option f6}{X:List (List Nat)}{B:Nat}(st:∀(acc:List (List Nat)) (q3:Option f6),acc.length+X.length≤B→body [q0,some (.own (acc.map row)),v,q3]=some (.nx [q0,some (.own ((acc++X).map row)),v,q3]))(k:Nat)(acc:List (List Nat))(q3:Option f6)(h:acc.length+k*X.length≤B):
 ∃q3',M4 body (k7 3) (a1N 0 (k:Nat)) [q0,some (.own (acc.map row)),v,q3]=some (.nx [q0,some (.own ((acc++((Ac k).map fun _=>X).flatten).map row)),v,q3']):=by
 obtain⟨ρ1,e1,q3',rfl⟩:=a0F (body:=body) (tg:=k7 3) (fun i ρ=>∃q3,ρ=[q0,some (.own ((acc++((Ac i).map fun _=>X).flatten).map row)),v,q3]) (ps:=a1N 0 (k:Nat)) (ρ:=[q0,some (.own (acc.map row)),v,q3])
  (by
   rintro i p hp ρ ⟨q3,rfl⟩
   obtain⟨rfl,hi⟩:=a66 hp
   refine a1Q rfl (st _ (some (.val (.int (0+(i:Int))))) ?_) ⟨some (.val (.int (0+(i:Int)))), ?_⟩
   ·rw [AX,a15]
    have h1:(i+1)*X.length≤k*X.length:=Nat.mul_le_mul_right _ (by lia)
    rw [Nat.succ_mul] at h1
    lia
   ·rw [show((Ac (i+1)).map fun _=>X).flatten=((Ac i).map fun _=>X).flatten++X by simp [List.range_succ],List.append_assoc]) ⟨q3,by simp⟩
 have hlen:(a1N 0 ((k:Nat):Int)).length=k:=by rw [a5w,Ae,BA]
 rw [hlen] at e1
 exact⟨q3',e1⟩
theorem b2L{α:Type}(x:α)(k:Nat):((Ac k).map fun _=>[x]).flatten=(Ac k).map fun _=>x:=by
 generalize Ac k=r
 induction r with
 |nil=>rfl
 |cons a r ih=>rw [AH,List.flatten_cons,ih,AH];rfl
theorem b5a{R:List PV→Option f6}{q0:Option f6}:∀(ws:List Wa) (acc:List (List Nat)) (q2 q3:Option f6),T5 ws→(∀k qs,Wa.again k qs∈ws→R [.list (j0 qs)]=some (.val (.tuple ((V6 qs).map row))))→acc.length+t8 ws≤10000→
 ∃q2' q3',M4 (N2 R) (k7 2) (j0 ws) [q0,some (.own (acc.map row)),q2,q3]=some (.nx [q0,some (.own ((acc++V6 ws).map row)),q2',q3'])
 |[],acc,q2,q3,_,_,_=>⟨q2,q3,by rw [j0,V6,Ad];rfl⟩
 |w::ws,acc,q2,q3,g,hR,hl=>by
  rw [T5] at g
  rw [t8] at hl
  have hb:∃q3',N2 R [q0,some (.own (acc.map row)),some (.val (L8 w)),q3]=some (.nx [q0,some (.own ((acc++unV w).map row)),some (.val (L8 w)),q3']):=by
   unfold N2
   cases w with
   |rows k ps=>
    obtain⟨i0,i1,i2⟩:=a3T k ps
    have g1:=g.1
    rw [gVx] at g1
    obtain⟨⟨a1,a2,a3,a4⟩,_⟩:=g1
    have un:=a6R 16 ps (a3P a1) (by rw [←a2b];exact a4) (by lia)
    have un:B5 [.list (r6 ps)]=_:=un
    rw [knV] at hl
    obtain⟨q3',e⟩:=b3q (body:=N1 R) (q0:=q0) (v:=some (.val (L8 (.rows k ps)))) (X:=[F9 ps]) (B:=10000) (fun acc q3 h=>by
     unfold N1
     simp (disch:=omega) only [d6,d4,c7,e7,d8,p9,f7,h9,AD,i0,b1v]
     rw [List.length_singleton] at h
     refine(A8 (r:= .val (row (F9 ps))) (p:=row (F9 ps)) (ps:=acc.map row) (by simp (disch:=omega) only [d6,d4,c7,e7,d0,c9,c8,e8,AD,i2,un]) rfl rfl (by rw [Ae];lia)).trans ?_
     rw [As]
     rfl) k acc q3 (by rw [List.length_singleton];lia)
    rw [b2L,←a7i] at e
    refine⟨q3', ?_⟩
    simp (disch:=omega) only [d6,d4,c7,e7,d0,c9,c8,z6,Y2,a2C,AD,i1,e]
   |again k qs=>
    obtain⟨i0,i1,i2⟩:=a3S k qs
    have hr:=hR k qs Al
    have hq:=a1l qs
    rw [knV] at hl
    have hk0:=g.1
    rw [gVx] at hk0
    obtain⟨q3',e⟩:=b3q (body:=N1 R) (q0:=q0) (v:=some (.val (L8 (.again k qs)))) (X:=V6 qs) (B:=10000) (fun acc q3 h=>by
     unfold N1
     have hz:(acc.map row).length+((V6 qs).map row).length≤AU:=by rw [Ae,Ae,sizeLine_eq];lia
     have ad:u7 (.bor (acc.map row)) (.own ((V6 qs).map row))=some (.own ((acc++V6 qs).map row)):=by
      rw [As]
      exact if_pos hz
     simp (disch:=omega) only [b3Z,d6,m6,d4,c7,a1M,e7,d0,c9,c8,e8,g5,W7,d8,n5,f7,h9,AD,AS,AT,i0,b1u,i2,hr,ad]) k acc q3 (by rw [hq,Nat.mul_comm];lia)
    rw [←a5D] at e
    refine⟨q3', ?_⟩
    simp (disch:=omega) only [d6,d4,c7,e7,d0,c9,c8,z6,Y2,a2C,AD,i1,e]
  obtain⟨q3',hb⟩:=hb
  have hu:=b2m w
  obtain⟨q2',q4,e⟩:=b5a (R:=R) (q0:=q0) ws (acc++unV w) (some (.val (L8 w))) q3' g.2 (fun k qs h=>hR k qs (Ak _ h)) (by rw [AX];lia)
  refine⟨q2',q4, ?_⟩
  rw [V6,←List.append_assoc,j0]
  exact a07 rfl hb e
theorem a8R:∀(n:Nat) (ws:List Wa),T5 ws→t8 ws≤24→L7 ws<n→M7 n [.list (j0 ws)]=some (.val (.tuple ((V6 ws).map row)))
 |0,_,_,_,h=>by lia
 |n+1,ws,g,hk,hd=>by
  obtain⟨q2,q3,e⟩:=b5a (R:=M7 n) (q0:=some (.val (.list (j0 ws)))) ws [] none none g (fun k qs hq=>by
   obtain⟨h1,_,_,_,h5,h6,h7⟩:=a2W g hq
   exact a8R n qs h1 (by lia) (by lia)) (by simp;lia)
  have hit:PyData.items? (.list (j0 ws))=some (j0 ws):=rfl
  rw [AQ] at e
  have e:M4 (N2 (M7 n)) (k7 2) (j0 ws) [some (.val (.list (j0 ws))),some (.own []),none,none]=_:=e
  have hu:=a1l ws
  show k9 3 (a0W (M7 n)) [.list (j0 ws)]=_
  unfold a0W
  simp (disch:=omega) only [m6,c7,a1M,e7,d0,c8,A9,g5,W7,i3,j7,d7,g7,g6,i5,z6,AD,AH,AR,AW,AO,AN,AQ,AS,AT,Af,↓reduceIte,A7,b31,sz,Ai,hit,e]
  try rfl
mutual
theorem b2g:∀{p:Wa},gVx p→(Y5 p).length+1≤125*knV p
 | .rows k ps,h=>by
   rw [gVx] at h
   obtain⟨⟨a1,a2,a3,a4⟩,k1,_⟩:=h
   rw [a0q,knV,AV,AX,AV]
   have h1:=b2p k
   have h2:=b9A (a3P a1)
   rw [←a2b] at h2
   lia
 | .again k ps,h=>by
   rw [gVx] at h
   rw [Y6,knV,AV,AX,AV]
   have h1:=a7e h.2.2
   have h2:=a4J (ps.map Y5)
   rw [At] at h2
   have h3:=(a2P k).2
   have h4:=a4P h.2.1 h.2.2
   have h5:t8 ps*2≤t8 ps*k:=Nat.mul_le_mul_left _ h.1.1
   show(a1b [32] (ps.map Y5)).length+_+1+1≤_
   have h6:(ps.map ((fun l=>l.length+1)∘Y5)).sum=(ps.map fun p=>(Y5 p).length+1).sum:=rfl
   lia
theorem a7e:∀{ps:List Wa},T5 ps→(ps.map fun p=>(Y5 p).length+1).sum≤125*t8 ps
 |[],_=>by simp
 |p::ps,h=>by
  rw [T5] at h
  have h1:=b2g h.1
  have h2:=a7e h.2
  rw [AH,List.sum_cons,t8]
  lia
end
theorem b8a{ps:List Wa}(h:T5 ps):(O5 ps).length≤125*t8 ps:=by
 have h1:=a7e h
 have h2:=a4J (ps.map Y5)
 rw [At] at h2
 have h6:(ps.map ((fun l=>l.length+1)∘Y5)).sum=(ps.map fun p=>(Y5 p).length+1).sum:=rfl
 unfold O5
 lia
theorem b93{ws:List Wa}(g:T5 ws)(hk:t8 ws≤24){y:f6}(h:PyData.items? y.rd=some ((ws.map Y5).map row)):M5 (.val (.str (AY " "))) y=some (.val (row (O5 ws))):=
 b36 (ls:=ws.map Y5) h (by
  have hs:=a7e g
  rw [At]
  have h6:(ws.map ((fun l=>l.length+1)∘Y5)).sum=(ws.map fun p=>(Y5 p).length+1).sum:=rfl
  lia)
theorem c2n:AY "["=S [91]∧AY "]"=S [93]∧AY "{"=S [123]∧AY "}"=S [125]:=⟨rfl,rfl,rfl,rfl⟩
theorem c0H{k:Nat}:decide ((1:Int)<(k:Nat))=decide (1<k):=by
 by_cases h:1<k
 ·rw [decide_eq_true h,decide_eq_true (by lia)]
 ·rw [decide_eq_false h,decide_eq_false (by lia)]
theorem b5s{R:List PV→Option f6}{q0:Option f6}:∀(ws:List Wa) (acc:List (List Nat)) (q2 q3:Option f6),T5 ws→t8 ws≤24→(∀k qs,Wa.again k qs∈ws→R [.list (j0 qs)]=some (.val (row (O5 qs))))→acc.length+ws.length<10000→
 ∃q2' q3',M4 (V2 R) (k7 2) (j0 ws) [q0,some (.own (acc.map row)),q2,q3]=some (.nx [q0,some (.own ((acc++ws.map Y5).map row)),q2',q3'])
 |[],acc,q2,q3,_,_,_,_=>⟨q2,q3,by rw [j0,AR,Ad];rfl⟩
 |w::ws,acc,q2,q3,g,hk,hR,hn=>by
  rw [T5] at g
  rw [t8] at hk
  rw [AV] at hn
  have hsl:=b2g g.1
  obtain⟨s1,s2,s3,s4⟩:=c2n
  have hb:∃q3',V2 R [q0,some (.own (acc.map row)),some (.val (L8 w)),q3]=some (.nx [q0,some (.own ((acc++[Y5 w]).map row)),some (.val (L8 w)),q3']):=by
   have fin:∀q:List Nat,q=Y5 w→A1 1 (b7 3) [q0,some (.own (acc.map row)),some (.val (L8 w)),some (.val (row q))]=some (.nx [q0,some (.own ((acc++[Y5 w]).map row)),some (.val (L8 w)),some (.val (row q))]):=fun q e=>by
    subst e
    rw [A8 (m:=b7 3) (r:= .val (row (Y5 w))) (p:=row (Y5 w)) (ps:=acc.map row) rfl rfl rfl (by rw [Ae];lia),As]
    rfl
   refine⟨some (.val (row (Y5 w))), ?_⟩
   unfold V2
   rw [s1,s2,s3,s4]
   cases w with
   |rows k ps=>
    obtain⟨i0,i1,i2⟩:=a3T k ps
    have g1:=g.1
    rw [gVx] at g1
    obtain⟨⟨a1,a2,a3,a4⟩,k1,k2⟩:=g1
    have sh:=b0Z 16 ps (a3P a1) (by rw [←a2b];exact a4) (by lia)
    have sh:a4I [.list (r6 ps)]=_:=sh
    rw [a0q,AV,AX,AV] at hsl
    have a1:=E7 (l:=[91]) (k:=shL ps) (by simp;lia)
    have a2:=E7 (l:=91::shL ps) (k:=[93]) (by simp;lia)
    have mi:∀(a b:M),mIf (K5 (m2 gEq (m2 m9 (b7 2) (mC (.int 0))) (mC (.str (AY "rows"))))) a b [q0,some (.own (acc.map row)),some (.val (L8 (.rows k ps))),q3]=a [q0,some (.own (acc.map row)),some (.val (L8 (.rows k ps))),q3]:=fun a b=>by
     have:K5 (m2 gEq (m2 m9 (b7 2) (mC (.int 0))) (mC (.str (AY "rows")))) [q0,some (.own (acc.map row)),some (.val (L8 (.rows k ps))),q3]=some true:=by simp (disch:=omega) only [d6,d4,c7,e7,f7,h9,AD,i0,b1v]
     unfold mIf
     rw [this]
     rfl
    by_cases ck:k=1
    ·have c1:decide ((1:Int)<(k:Nat))=false:=by rw [c0H,ck];rfl
     have ew:91::(shL ps++[93])=Y5 (.rows k ps):=by rw [a0q];unfold wt;rw [if_pos ck]
     simp (disch:=omega) only [A6,d6,d4,c7,e7,d0,c9,c8,e8,g5,j4,d7,g7,d8,n5,i4,f7,h9,AD,AN,AQ,AS,AT,mi,i2,sh,a1,a2,i1,c1]
     rw [←ew] at fin ⊢
     exact fin _ rfl
    ·have c1:decide ((1:Int)<(k:Nat))=true:=by rw [c0H];exact decide_eq_true (by lia)
     have d2:=a2P k
     have a3:=E7 (l:=91::(shL ps++[93])) (k:=dg k) (by simp;lia)
     have ew:91::(shL ps++[93])++dg k=Y5 (.rows k ps):=by rw [a0q];unfold wt;rw [if_neg ck];simp
     rw [ew] at a3
     simp (disch:=omega) only [A6,d6,m6,d4,c7,e7,d0,c9,c8,e8,g5,j4,d7,g7,d8,p9,f7,h9,AD,AN,AQ,AS,AT,mi,i2,sh,a1,a2,i1,c1,a6s (k:=k) (by lia),a3]
     exact fin _ rfl
   |again k qs=>
    obtain⟨i0,i1,i2⟩:=a3S k qs
    have hr:=hR k qs Al
    have g1:=g.1
    rw [gVx] at g1
    have d2:=a2P k
    rw [Y6,AV,AX,AV] at hsl
    have a1:=E7 (l:=[123]) (k:=O5 qs) (by simp;lia)
    have a2:=E7 (l:=123::O5 qs) (k:=[125]) (by simp;lia)
    have a3:=E7 (l:=123::(O5 qs++[125])) (k:=dg k) (by simp;lia)
    have ew:123::(O5 qs++[125])++dg k=Y5 (.again k qs):=by rw [Y6];simp
    rw [ew] at a3
    have mi:∀(a b:M),mIf (K5 (m2 gEq (m2 m9 (b7 2) (mC (.int 0))) (mC (.str (AY "rows"))))) a b [q0,some (.own (acc.map row)),some (.val (L8 (.again k qs))),q3]=b [q0,some (.own (acc.map row)),some (.val (L8 (.again k qs))),q3]:=fun a b=>by
     have:K5 (m2 gEq (m2 m9 (b7 2) (mC (.int 0))) (mC (.str (AY "rows")))) [q0,some (.own (acc.map row)),some (.val (L8 (.again k qs))),q3]=some false:=by simp (disch:=omega) only [d6,d4,c7,e7,f7,h9,AD,i0,b1u]
     unfold mIf
     rw [this]
     rfl
    have c1:decide ((1:Int)<(k:Nat))=true:=by rw [c0H];exact decide_eq_true (by lia)
    simp (disch:=omega) only [A6,d6,m6,d4,c7,e7,d0,c9,c8,e8,g5,j4,d7,g7,d8,p9,f7,h9,AD,AN,AQ,AS,AT,mi,i2,hr,a1,a2,i1,c1,a6s (k:=k) (by lia),a3]
    exact fin _ rfl
  obtain⟨q3',hb⟩:=hb
  obtain⟨q2',q4,e⟩:=b5s (R:=R) (q0:=q0) ws (acc++[Y5 w]) (some (.val (L8 w))) q3' g.2 (by lia) (fun k qs h=>hR k qs (Ak _ h)) (by rw [AX,List.length_singleton];lia)
  refine⟨q2',q4, ?_⟩
  rw [List.append_assoc] at e
  rw [j0]
  exact a07 rfl hb e
theorem a9r:∀(n:Nat) (ws:List Wa),T5 ws→t8 ws≤24→L7 ws<n→Y0 n [.list (j0 ws)]=some (.val (row (O5 ws)))
 |0,_,_,_,h=>by lia
 |n+1,ws,g,hk,hd=>by
  have hm:=a4O g
  obtain⟨q2,q3,e⟩:=b5s (R:=Y0 n) (q0:=some (.val (.list (j0 ws)))) ws [] none none g hk (fun k qs hq=>by
   obtain⟨h1,_,_,_,h5,h6,h7⟩:=a2W g hq
   exact a9r n qs h1 (by lia) (by lia)) (by simp;lia)
  have hit:PyData.items? (.list (j0 ws))=some (j0 ws):=rfl
  rw [AQ] at e
  have jn:=b93 g hk (y:= .bo (.lst ((ws.map Y5).map row))) rfl
  have e:M4 (V2 (Y0 n)) (k7 2) (j0 ws) [some (.val (.list (j0 ws))),some (.own []),none,none]=_:=e
  show k9 3 (a3C (Y0 n)) [.list (j0 ws)]=_
  unfold a3C
  simp (disch:=omega) only [d6,d4,c7,a1M,e7,d0,c8,A9,g5,W7,i3,j7,d7,g7,g6,i5,z6,AD,AH,AR,AW,AO,AN,AQ,AS,AT,Af,↓reduceIte,A7,sz,Ai,hit,e,jn]
theorem b8q:∀(n:Nat) (ws:List Wa),T5 ws→t8 ws≤24→2*L7 ws+20≤n→N6 (j0 ws) n=true
 |0,_,_,_,h=>by lia
 |1,_,_,_,h=>by lia
 |2,_,_,_,h=>by lia
 |m+3,ws,g,hk,h=>by
  rw [a3o]
  refine a3f fun p hp=> ?_
  obtain⟨p,hp1,rfl⟩:=Au.mp hp
  have d:=b1q hp1
  have g1:=a8N g hp1
  cases p with
  |rows k ps=>
   rw [gVx] at g1
   obtain⟨⟨a1,a2,a3,a4⟩,_⟩:=g1
   have:=a60 (a87 a2 a1) a4
   rw [L8]
   show N6 [a92,.int (k:Nat),.list (r6 ps)] (m+2)=true
   refine a3f fun q hq=> ?_
   simp only [Am,List.not_mem_nil,or_false] at hq
   rcases hq with rfl|rfl|rfl
   ·rfl
   ·rfl
   ·exact a8M (m+1) ps (by lia)
  |again k qs=>
   obtain⟨h1,_,_,_,h5,h6,h7⟩:=a2W g hp1
   rw [L8]
   show N6 [E2,.int (k:Nat),.list (j0 qs)] (m+2)=true
   refine a3f fun q hq=> ?_
   simp only [Am,List.not_mem_nil,or_false] at hq
   rcases hq with rfl|rfl|rfl
   ·rfl
   ·rfl
   ·exact b8q (m+1) qs h1 (by lia) (by lia)
theorem b3J{ws:List Wa}(g:T5 ws)(ne:ws≠[])(hk:t8 ws≤24):N6 (j0 ws) 49=true:=
 b8q 49 ws g hk (by have:=a60 (a8J ne g) hk;lia)
theorem b2U{R:List PV→Option f6}{q0:Option f6}:∀(ws:List Wa) (q1:Option f6),T5 ws→(∀k qs,Wa.again k qs∈ws→R [.list (j0 qs)]=some (.val (.bool true)))→∃q1',M4 (L9 R) (k7 1) (j0 ws) [q0,q1]=some (.nx [q0,q1'])
 |[],q1,_,_=>⟨q1,by rw [j0];rfl⟩
 |w::ws,q1,g,hR=>by
  rw [T5] at g
  obtain⟨q1',e⟩:=b2U (R:=R) (q0:=q0) ws (some (.val (L8 w))) g.2 fun k qs h=>hR k qs (Ak _ h)
  refine⟨q1', ?_⟩
  have hb:L9 R [q0,some (.val (L8 w))]=some (.nx [q0,some (.val (L8 w))]):=by
   unfold L9
   have n3:gNe (.val (.int 3)) (.val (.int 3))=some (.val (.bool false)):=S8 rfl
   cases w with
   |rows k ps=>
    obtain⟨i0,i1,i2⟩:=a3T k ps
    have g1:=g.1
    rw [gVx] at g1
    obtain⟨⟨a1,a2,a3,a4⟩,k1,_⟩:=g1
    have it:a1I "tuple" (.val (L8 (.rows k ps)))=some (.val (.bool true)):=by rw [L8];rfl
    have il:G3 (.val (L8 (.rows k ps)))=some (.val (.int 3)):=by rw [L8];rfl
    have hc:=a6A (i:=(k:Nat)) (j:=1) (by lia)
    have hf:=b7i 16 ps (a3P a1) a2 (by lia) (by lia)
    have hf:a2U [.list (r6 ps)]=_:=hf
    simp (disch:=omega) only [d6,m6,d4,c7,e7,d0,c9,c8,e8,d7,g7,d8,p9,n5,i4,n8,f7,h9,B1,j3,m8,J9,AD,Ah,Bool.not_true,it,il,n3,i0,b1v,i1,hc,i2,hf]
   |again k qs=>
    obtain⟨i0,i1,i2⟩:=a3S k qs
    have g1:=g.1
    rw [gVx] at g1
    have it:a1I "tuple" (.val (L8 (.again k qs)))=some (.val (.bool true)):=by rw [L8];rfl
    have il:G3 (.val (L8 (.again k qs)))=some (.val (.int 3)):=by rw [L8];rfl
    have na:gNe (.val E2) (.val E2)=some (.val (.bool false)):=S8 rfl
    have hc:=a6A (i:=(k:Nat)) (j:=2) (by lia)
    have hr:=hR k qs Al
    simp (disch:=omega) only [d6,m6,d4,c7,e7,d0,c9,c8,e8,d7,g7,d8,n5,i4,n8,f7,h9,B1,j3,m8,J9,AD,Ah,Bool.not_true,it,il,n3,i0,b1u,na,i1,hc,i2,hr]
  rw [j0]
  exact a07 rfl hb e
theorem b7j:∀(n:Nat) (ws:List Wa),T5 ws→ws≠[]→t8 ws≤24→L7 ws<n→K2 n [.list (j0 ws)]=some (.val (.bool true))
 |0,_,_,_,_,h=>by lia
 |n+1,ws,g,hne,hk,hd=>by
  obtain⟨q1,e⟩:=b2U (R:=K2 n) (q0:=some (.val (.list (j0 ws)))) ws none g fun k qs hq=>by
   obtain⟨h1,h2,_,_,h5,h6,h7⟩:=a2W g hq
   exact b7j n qs h1 h2 (by lia) (by lia)
  have hit:PyData.items? (.list (j0 ws))=some (j0 ws):=rfl
  have il:a1I "list" (.val (.list (j0 ws)))=some (.val (.bool true)):=rfl
  have hq:gEq (.val (.list (j0 ws))) (.ow (.lst []))=some (.val (.bool false)):=by
   rw [b3X (x:= .val (.list (j0 ws))) (y:= .ow (.lst [])) ⟨by show N6 (j0 ws) 49=true;exact b3J g hne hk,rfl⟩]
   congr 3
   show PyData.eqv (.list (j0 ws)) (.list [])=false
   cases ws with
   |nil=>exact absurd rfl hne
   |cons p ps=>rw [j0];simp [PyData.eqv,PyData.eqvAll]
  show k9 1 (T9 (K2 n)) [.list (j0 ws)]=_
  unfold T9
  simp (disch:=omega) only [d6,m6,d4,c7,d0,c8,A9,i3,j7,d7,g7,d8,n5,i4,g6,i5,n8,f7,h9,B1,j3,m8,J9,z6,AD,Ah,AH,AR,AW,AO,AN,AQ,Af,↓reduceIte,Bool.not_true,A7,sz,Ai,il,hq,hit,e]
mutual
theorem b9O:∀{w:Wa} {l:List Nat},l∈unV w→l.length∈lnV w
 | .rows k ps,l,h=>by
   rw [a7i] at h
   obtain⟨_,_,rfl⟩:=Au.mp h
   rw [lnV];simp
 | .again k ws,l,h=>by
   rw [a5D] at h
   obtain⟨x,hx,hl⟩:=List.mem_flatten.mp h
   obtain⟨_,_,rfl⟩:=Au.mp hx
   rw [lnV]
   exact a7h hl
theorem a7h:∀{ws:List Wa} {l:List Nat},l∈V6 ws→l.length∈R0 ws
 |[],l,h=>by rw [V6] at h;cases h
 |w::ws,l,h=>by
  rw [V6] at h
  rw [R0]
  rcases Av.mp h with h|h
  ·exact BE _ (b9O h)
  ·exact Ay _ (a7h h)
end
mutual
theorem c12:∀{w:Wa},gVx w→∀n∈lnV w,n≤24
 | .rows k ps,g,n,h=>by
   rw [gVx] at g
   rw [lnV] at h
   rw [List.mem_singleton] at h
   rw [h,←a2b]
   exact g.1.2.2.2
 | .again k ws,g,n,h=>by
   rw [gVx] at g
   rw [lnV] at h
   exact b4a g.2.2 n h
theorem b4a:∀{ws:List Wa},T5 ws→∀n∈R0 ws,n≤24
 |[],_,n,h=>by rw [R0] at h;cases h
 |w::ws,g,n,h=>by
  rw [T5] at g
  rw [R0] at h
  rcases Av.mp h with h|h
  ·exact c12 g.1 n h
  ·exact b4a g.2 n h
end
theorem b70{t:List Nat}(hl:t.length≤3990):a09 [row t]=some (.val (.bool true)):=by
 have rd0:=a9X hl
 cases hr:a4l t with
 |some ws=>
  rw [hr] at rd0
  obtain⟨e,g,ne,d,k,o⟩:=b3p hr
  have rd0:p7 [row t]=some (.inl (.val (.list (j0 ws)))):=rd0
  have s1:=a9r 16 ws g k (by lia)
  rw [←e] at s1
  have s1:a16 [.list (j0 ws)]=_:=s1
  have s2:=b7j 16 ws g ne k (by lia)
  have s2:a0G [.list (j0 ws)]=_:=s2
  have s3:=a8R 16 ws g k (by lia)
  have s3:K9 [.list (j0 ws)]=_:=s3
  have nt:gNe (.val (row t)) (.val (row t))=some (.val (.bool false)):=S8 rfl
  have tr:a3M (a4h 1 p7 (b0 (b7 0) f8)) 2 (inL ["NoFold","NoWeaving"]) (t6 (b0n (m1 (a9h [("NoFold",false),("NoWeaving",true)]) (b7 2)) (m1 (a9h [("NoFold",true),("NoWeaving",true)]) (b7 2)))) [some (.val (row t)),some (.val .none),none,none]=some (.nx [some (.val (row t)),some (.val (.list (j0 ws))),none,none]):=by
   rw [b56 (b5c (ps:=[row t]) (by simp (disch:=omega) only [c7,d0,c9,c8,AD]) rd0)]
   rfl
  have hu:=a1l ws
  have hkp:=a4P ne g
  have hin:= @a7h ws
  have hle:=b4a g
  generalize V6 ws=U at hu hin s3
  have gl:G3 (.val (.tuple (U.map row)))=some (.val (.int (U.length:Nat))):=by rw [b2N,Ae]
  have g1:decide ((U.length:Int)≤24)=true:=decide_eq_true (by lia)
  have cm:=a0I (ι:=row) (f:=fun l=> .int (l.length:Nat)) (k:=1) (it:=a0i (b7 3)) (elt:=a2c) (tg:=k7 4) (ρ:=[some (.val (row t)),some (.val (.list (j0 ws))),none,some (.val (.tuple (U.map row)))]) U
   (a2A (r:= .val (.tuple (U.map row))) rfl rfl) (by lia) fun l hl=>⟨_,rfl,by
    have:=hle _ (hin hl)
    have gr:=M6 (l:=l) (by lia)
    unfold a2c
    simp (disch:=omega) only [m6,c7,e7,c8,AD,AW,AO,AN,AQ,AS,AT,gr]⟩
  have ec:(U.map fun l=>PyData.int (l.length:Nat))=inP (U.map List.length):=by
   show _=(U.map List.length).map (fun n:Nat=>PyData.int (n:Nat))
   rw [At]
   rfl
  rw [ec] at cm
  have ls:=b0W (l:=U.map List.length) (by rw [Ae];lia)
  have on:b7z (U.map List.length):=by
   refine⟨fun z=> ?_,fun x hx y hy=> ?_⟩
   ·rw [List.map_eq_nil_iff] at z
    rw [z] at hu
    simp at hu
    lia
   ·obtain⟨a,ha,rfl⟩:=Au.mp hx
    obtain⟨b,hb,rfl⟩:=Au.mp hy
    exact o.2 _ (hin ha) _ (hin hb)
  rw [(b1w _).mpr on] at ls
  obtain⟨l0,U',eU⟩:∃l U',U=l::U':=by
   cases U with
   |nil=>simp at hu;lia
   |cons l U'=>exact⟨l,U',rfl⟩
  have hl0:=hle _ (hin (l:=l0) (by rw [eU];exact Al))
  have ix:m9 (.val (.tuple (U.map row))) (.val (.int 0))=some (.val (row l0)):=by rw [eU,AH];simp (disch:=omega) only [Z9]
  have gr:=M6 (l:=l0) (by lia)
  have g2:decide ((l0.length:Int)≤24)=true:=decide_eq_true (by lia)
  have q1:gEq (.val (.int ((1:Nat):Int))) (.val (.int 1))=some (.val (.bool true)):=by rfl
  unfold a09 a4v
  simp (disch:=omega) only [a2S,d6,m6,d4,c7,e7,d0,c9,c8,e8,g5,j4,i3,j7,d7,g7,d8,n5,i4,g6,i5,n8,f7,h9,B1,j3,m8,J9,a9s,b3R,AD,Ah,AH,AR,AW,AO,AN,AQ,AS,AT,Bool.not_true,Int.cast_ofNat_Int,beq_self_eq_true,P0,tr,s2,s1,nt,s3,gl,g1,cm,ls,q1,ix,gr,g2]
  try rfl
 |none=>
  rw [hr] at rd0
  have rd0:p7 [row t]=some (.inr b1Q):=rd0
  have i1:a9h [("NoFold",false),("NoWeaving",true)] (.val (xcV b1Q))=some (.val (.bool true)):=by rfl
  have i2:a9h [("NoFold",true),("NoWeaving",true)] (.val (xcV b1Q))=some (.val (.bool true)):=by rfl
  have tr:a3M (a4h 1 p7 (b0 (b7 0) f8)) 2 (inL ["NoFold","NoWeaving"]) (t6 (b0n (m1 (a9h [("NoFold",false),("NoWeaving",true)]) (b7 2)) (m1 (a9h [("NoFold",true),("NoWeaving",true)]) (b7 2)))) [some (.val (row t)),some (.val .none),none,none]=some (.rt (.val (.bool true))):=by
   have hb:t6 (b0n (m1 (a9h [("NoFold",false),("NoWeaving",true)]) (b7 2)) (m1 (a9h [("NoFold",true),("NoWeaving",true)]) (b7 2))) [some (.val (row t)),some (.val .none),some (.val (xcV b1Q)),none]=some (.rt (.val (.bool true))):=by
    simp (disch:=omega) only [m6,c7,e7,i3,j7,a9s,b3R,AD,i1,i2]
   rw [b57 (b5d (ps:=[row t]) (by simp (disch:=omega) only [c7,d0,c9,c8,AD]) rd0) (show inL ["NoFold","NoWeaving"] "NoWeaving"=true by decide+kernel)]
   show(t6 _ [some (.val (row t)),some (.val .none),some (.val (xcV b1Q)),none]).map (a9c 2)=_
   rw [hb]
   rfl
  unfold a09 a4v
  simp (disch:=omega) only [d4,g5,j4,d7,g7,o0,g6,i5,AD,AH,AR,AW,AO,AN,AQ,AS,AT,tr]
theorem b4f{p:PV}(h:a1I "str" (.val p)=some (.val (.bool false))∨∃t,p=row t∧t.length≤3990∧a4l t=none):a0Y [p]=some (.val (.bool true)):=by
 have rd0:p7 [p]=some (.inr b1Q):=by
  rcases h with h|⟨t,rfl,hl,hn⟩
  ·exact b7Z h
  ·rw [a9X hl,hn];rfl
 have tr:a9u (b02 p7 (b0 (b7 0) f8)) (inL ["NoWeaving"]) (t6 (mC (.bool true))) [some (.val p)]=some (.rt (.val (.bool true))):=by
  rw [b5b (b9a (ps:=[p]) (by simp (disch:=omega) only [c7,d0,c9,c8,AD]) rd0) (show inL ["NoWeaving"] "NoWeaving"=true by decide+kernel)]
  rfl
 unfold a0Y a5S
 simp (disch:=omega) only [d7,o0,g6,i5,AD,AH,AR,AO,Ad,tr]
theorem b7u{ps:List PV}{k:Nat}(h1:1≤ps.length)(hk:1≤k)(hz:ps.length*k≤10000)(hk2:k≤10000):b0Q (.val (.tuple ps)) (.val (.int (k:Nat)))=some (.val (.tuple (((Ac k).map fun _=>ps).flatten))):=by
 have e:((Ac k).map fun _=>ps)=Ab k ps:=by rw [List.map_const',BA]
 rw [e]
 by_cases c:k=1
 ·subst c
  show some (f6.val (.tuple ps))=_
  simp [Ab]
 ·unfold b0Q
  split
  ·rename_i h
   injection h with h
   injection h with h
   lia
  ·show(if okC (fun k n=>2≤k∧k≤1000000∧1≤n∧n*k≤16777216) (k:Int) ps.length=true then some (f6.val (.tuple (Ab (k:Int).toNat ps).flatten)) else none)=_
   rw [if_pos (a3O.mpr ⟨by lia,by lia,by lia,by rw [←Int.natCast_mul];lia⟩),BI]
theorem c1O{q0 q2:Option f6}{A B:List PV}(m:M)(hm:m [q0,some (.val (.tuple A)),q2]=some (.val (.tuple B)))(h:A.length+B.length≤10000):a2d 1 a9g m [q0,some (.val (.tuple A)),q2]=some (.nx [q0,some (.val (.tuple (A++B))),q2]):=by
 unfold a2d
 show((m [q0,some (.val (.tuple A)),q2]).bind _)=_
 rw [hm,AD]
 have:a9g (.val (.tuple A)) (.val (.tuple B))=some (.val (.tuple (A++B))):=if_pos (by rw [sizeLine_eq];lia)
 show((a9g (.val (.tuple A)) (.val (.tuple B))).bind _)=_
 rw [this]
 rfl
theorem b7t{α β:Type}(f:α→β)(l:List α)(k:Nat):((Ac k).map fun _=>l.map f).flatten=(((Ac k).map fun _=>l).flatten).map f:=by
 generalize Ac k=r
 induction r with
 |nil=>rfl
 |cons a r ih=>rw [AH,List.flatten_cons,ih,AH,List.flatten_cons,As]
theorem b5u{R:List PV→Option f6}{q0:Option f6}:∀(ws:List Wa) (acc:List (List Nat)) (q2:Option f6),T5 ws→(∀k qs,Wa.again k qs∈ws→R [.list (j0 qs)]=some (.val (.tuple ((V6 qs).map row))))→acc.length+t8 ws≤10000→
 ∃q2',M4 (a0e R) (k7 2) (j0 ws) [q0,some (.val (.tuple (acc.map row))),q2]=some (.nx [q0,some (.val (.tuple ((acc++V6 ws).map row))),q2'])
 |[],acc,q2,_,_,_=>⟨q2,by rw [j0,V6,Ad];rfl⟩
 |w::ws,acc,q2,g,hR,hl=>by
  rw [T5] at g
  rw [t8] at hl
  have hu:=b2m w
  obtain⟨q2',e⟩:=b5u (R:=R) (q0:=q0) ws (acc++unV w) (some (.val (L8 w))) g.2 (fun k qs h=>hR k qs (Ak _ h)) (by rw [AX];lia)
  refine⟨q2', ?_⟩
  have hb:a0e R [q0,some (.val (.tuple (acc.map row))),some (.val (L8 w))]=some (.nx [q0,some (.val (.tuple ((acc++unV w).map row))),some (.val (L8 w))]):=by
   rw [As]
   unfold a0e
   cases w with
   |rows k ps=>
    obtain⟨i0,i1,i2⟩:=a3T k ps
    have g1:=g.1
    rw [gVx] at g1
    obtain⟨⟨a1,a2,a3,a4⟩,k1,k2⟩:=g1
    have un:=b4A 30 ps (a3P a1) (by rw [←a2b];exact a4) (by lia)
    have un:a18 [.list (r6 ps)]=_:=un
    have ml:=b7u (ps:=[row (F9 ps)]) (k:=k) (by simp) k1 (by simp;lia) (by lia)
    have e2:((Ac k).map fun _=>[row (F9 ps)]).flatten=(unV (.rows k ps)).map row:=by
     rw [a7i,b2L,At]
     rfl
    rw [e2] at ml
    rw [knV] at hl hu
    simp (disch:=omega) only [d6,d4,c7,e7,d8,p9,f7,h9,AD,i0,b1v]
    exact c1O _ (by simp (disch:=omega) only [d6,d4,c7,e7,d0,c9,c8,z7,e8,AD,AV,Af,↓reduceIte,sz,Nat.reduceAdd,Ai,i2,un,i1,ml]) (by rw [Ae,Ae,hu];lia)
   |again k qs=>
    obtain⟨i0,i1,i2⟩:=a3S k qs
    have g1:=g.1
    rw [gVx] at g1
    have hr:=hR k qs Al
    have hq:=a1l qs
    have hp:=a4P g1.2.1 g1.2.2
    rw [knV] at hl hu
    have ml:=b7u (ps:=(V6 qs).map row) (k:=k) (by rw [Ae];lia) (by lia) (by rw [Ae,hq];lia) (by lia)
    have e2:((Ac k).map fun _=>(V6 qs).map row).flatten=(unV (.again k qs)).map row:=by
     rw [a5D,b7t]
    rw [e2] at ml
    simp (disch:=omega) only [d6,d4,c7,e7,d8,n5,f7,h9,AD,i0,b1u]
    exact c1O _ (by simp (disch:=omega) only [d6,d4,c7,e7,d0,c9,c8,e8,AD,i2,hr,i1,ml]) (by rw [Ae,Ae,hu];lia)
  rw [V6,←List.append_assoc,j0]
  exact a07 rfl hb e
theorem b8p:∀(n:Nat) (ws:List Wa),T5 ws→t8 ws≤24→L7 ws<n→a0H n [.list (j0 ws)]=some (.val (.tuple ((V6 ws).map row)))
 |0,_,_,_,h=>by lia
 |n+1,ws,g,hk,hd=>by
  obtain⟨q2,e⟩:=b5u (R:=a0H n) (q0:=some (.val (.list (j0 ws)))) ws [] none g (fun k qs hq=>by
   obtain⟨h1,_,_,_,h5,h6,h7⟩:=a2W g hq
   exact b8p n qs h1 (by lia) (by lia)) (by simp;lia)
  have hit:PyData.items? (.list (j0 ws))=some (j0 ws):=rfl
  rw [AQ] at e
  have e:M4 (a0e (a0H n)) (k7 2) (j0 ws) [some (.val (.list (j0 ws))),some (.val (.tuple [])),none]=_:=e
  show k9 2 (a5q (a0H n)) [.list (j0 ws)]=_
  unfold a5q
  simp (disch:=omega) only [c7,d0,c8,z7,g5,j4,d7,g7,g6,i5,z6,AD,AH,AR,AW,AO,AN,AQ,AS,AT,Af,↓reduceIte,A7,W1,W2,sz,Ai,hit,e]
mutual
def coV:Wa→Nat
 | .rows _ ps=>1+coL ps
 | .again _ ws=>1+a2M ws
def a2M:List Wa→Nat
 |[]=>0
 |w::ws=>coV w+a2M ws
end
theorem b5w{R:List PV→Option f6}{q0:Option f6}:∀(ws:List Wa) (a:Int) (q2:Option f6),T5 ws→(∀k qs,Wa.again k qs∈ws→R [.list (j0 qs)]=some (.val (.int (a2M qs:Nat))))→
 ∃q2',M4 (R8 R) (k7 2) (j0 ws) [q0,some (.val (.int a)),q2]=some (.nx [q0,some (.val (.int (a+(a2M ws:Nat)))),q2'])
 |[],a,q2,_,_=>⟨q2,by rw [j0,a2M];show some _=_;simp⟩
 |w::ws,a,q2,g,hR=>by
  rw [T5] at g
  obtain⟨q2',e⟩:=b5w (R:=R) (q0:=q0) ws (a+(coV w:Nat)) (some (.val (L8 w))) g.2 fun k qs h=>hR k qs (Ak _ h)
  refine⟨q2', ?_⟩
  have hb:R8 R [q0,some (.val (.int a)),some (.val (L8 w))]=some (.nx [q0,some (.val (.int (a+(coV w:Nat)))),some (.val (L8 w))]):=by
   unfold R8
   have ag:=b6D (q0:=q0) (q2:=some (.val (L8 w))) (a:=a) (mC (.int 1)) 1 rfl
   cases w with
   |rows k ps=>
    obtain⟨i0,i1,i2⟩:=a3T k ps
    have g1:=g.1
    rw [gVx] at g1
    obtain⟨⟨a1,a2,a3,a4⟩,k1,k2⟩:=g1
    have:=a60 (a87 a2 a1) a4
    have co:=b4I 6 ps (by lia)
    have co:b32 [.list (r6 ps)]=_:=co
    simp (disch:=omega) only [d6,d4,c7,e7,d7,g7,d8,p9,f7,h9,AD,ag,i0,b1v]
    rw [b6D _ (coL ps:Nat) (by simp (disch:=omega) only [d6,d4,c7,e7,d0,c9,c8,e8,AD,i2,co]),coV,Int.natCast_add,Int.add_assoc]
    rfl
   |again k qs=>
    obtain⟨i0,i1,i2⟩:=a3S k qs
    have hr:=hR k qs Al
    simp (disch:=omega) only [d6,d4,c7,e7,d7,g7,d8,n5,f7,h9,AD,ag,i0,b1u]
    rw [b6D _ (a2M qs:Nat) (by simp (disch:=omega) only [d6,d4,c7,e7,d0,c9,c8,e8,AD,i2,hr]),coV,Int.natCast_add,Int.add_assoc]
    rfl
  rw [a2M,Int.natCast_add,←Int.add_assoc,j0]
  exact a07 rfl hb e
theorem b3I:∀(n:Nat) (ws:List Wa),T5 ws→L7 ws<n→P5 n [.list (j0 ws)]=some (.val (.int (a2M ws:Nat)))
 |0,_,_,h=>by lia
 |n+1,ws,g,hd=>by
  obtain⟨q2,e⟩:=b5w (R:=P5 n) (q0:=some (.val (.list (j0 ws)))) ws 0 none g fun k qs hq=>by
   obtain⟨h1,_,_,_,_,_,h7⟩:=a2W g hq
   exact b3I n qs h1 (by lia)
  have hit:PyData.items? (.list (j0 ws))=some (j0 ws):=rfl
  rw [Int.zero_add] at e
  show k9 2 (Z5 (P5 n)) [.list (j0 ws)]=_
  unfold Z5
  simp (disch:=omega) only [d4,c7,c8,g5,j4,d7,g7,g6,i5,z6,AD,AH,AR,AW,AO,AN,AQ,AS,AT,A7,W1,W2,hit,e]
theorem b49{R:List PV→Option f6}{q0:Option f6}:∀(ws:List Wa) (a:Int) (q2:Option f6),T5 ws→(∀k qs,Wa.again k qs∈ws→R [.list (j0 qs)]=some (.val (.int (a2M qs:Nat))))→
 ∃q2',M4 (a0d R) (k7 2) (j0 ws) [q0,some (.val (.int a)),q2]=some (.nx [q0,some (.val (.int (a+(a2M ws:Nat) - (ws.length:Nat)))),q2'])
 |[],a,q2,_,_=>⟨q2,by rw [j0,a2M];show some _=_;simp⟩
 |w::ws,a,q2,g,hR=>by
  rw [T5] at g
  have hb:a0d R [q0,some (.val (.int a)),some (.val (L8 w))]=some (.nx [q0,some (.val (.int (a+(coV w:Nat) - 1))),some (.val (L8 w))]):=by
   unfold a0d
   cases w with
   |rows k ps=>
    obtain⟨i0,i1,i2⟩:=a3T k ps
    have g1:=g.1
    rw [gVx] at g1
    obtain⟨⟨a1,a2,a3,a4⟩,k1,k2⟩:=g1
    have:=a60 (a87 a2 a1) a4
    have co:=b2X 6 ps (by lia)
    have co:a6d [.list (r6 ps)]=_:=co
    have e1:a+(coL ps:Int)=a+((1+coL ps:Nat):Int) - 1:=by lia
    simp (disch:=omega) only [m7,d6,d4,c7,e7,d0,c9,c8,e8,g5,j4,d8,p9,f7,h9,AD,AS,AT,i0,b1v,i2,co]
    rw [coV,←e1]
   |again k qs=>
    obtain⟨i0,i1,i2⟩:=a3S k qs
    have hr:=hR k qs Al
    have e1:a+(a2M qs:Int)=a+((1+a2M qs:Nat):Int) - 1:=by lia
    simp (disch:=omega) only [m7,d6,d4,c7,e7,d0,c9,c8,e8,g5,j4,d8,n5,f7,h9,AD,AS,AT,i0,b1u,i2,hr]
    rw [coV,←e1]
  obtain⟨q2',e⟩:=b49 (R:=R) (q0:=q0) ws (a+(coV w:Nat) - 1) (some (.val (L8 w))) g.2 fun k qs h=>hR k qs (Ak _ h)
  refine⟨q2', ?_⟩
  have e2:a+(coV w:Nat) - 1+(a2M ws:Nat) - (ws.length:Nat)=a+((coV w+a2M ws:Nat):Int) - ((ws.length+1:Nat):Int):=by lia
  rw [a2M,AV,←e2,j0]
  exact a07 rfl hb e
theorem b0Y:∀(n:Nat) (ws:List Wa),T5 ws→L7 ws<n→a0a n [.list (j0 ws)]=some (.val (.int (a2M ws:Nat)))
 |0,_,_,h=>by lia
 |n+1,ws,g,hd=>by
  obtain⟨q2,e⟩:=b49 (R:=a0a n) (q0:=some (.val (.list (j0 ws)))) ws (ws.length:Nat) none g fun k qs hq=>by
   obtain⟨h1,_,_,_,_,_,h7⟩:=a2W g hq
   exact b0Y n qs h1 (by lia)
  have hit:PyData.items? (.list (j0 ws))=some (j0 ws):=rfl
  have e1:(ws.length:Int)+(a2M ws:Nat) - (ws.length:Nat)=(a2M ws:Nat):=by lia
  rw [e1] at e
  show k9 2 (a2r (a0a n)) [.list (j0 ws)]=_
  unfold a2r
  simp (disch:=omega) only [U1,m6,c7,c8,g5,j4,d7,g7,g6,i5,z6,AD,AH,AR,AW,AO,AN,AQ,AS,AT,A7,W1,W2,b3n,hit,e]
theorem b8d{RP RW:List PV→Option f6}{w:Wa}(g:gVx w)(hk:knV w≤24)(hF:∀k qs,w= .again k qs→RW [.list (j0 qs)]=some (.val (row (O5 qs)))):k9 0 (J6 RP RW) [L8 w]=some (.val (row (Y5 w))):=by
 obtain⟨s1,s2,s3,s4⟩:=c2n
 have hsl:=b2g g
 unfold J6
 rw [s1,s2,s3,s4]
 cases w with
 |rows k ps=>
  obtain⟨i0,i1,i2⟩:=a3T k ps
  rw [gVx] at g
  obtain⟨⟨a1,a2,a3,a4⟩,k1,k2⟩:=g
  have sh:=b3x 30 ps (a3P a1) (by rw [←a2b];exact a4) (by lia)
  have sh:a3K [.list (r6 ps)]=_:=sh
  have wt0:=c0e (k:=k) (by lia)
  have hw:=b2p k
  rw [a0q,AV,AX,AV] at hsl
  have b1:=E7 (l:=[91]) (k:=shL ps) (by simp;lia)
  have b2:=E7 (l:=91::shL ps) (k:=[93]) (by simp;lia)
  have b3:=E7 (l:=91::(shL ps++[93])) (k:=wt k) (by simp;lia)
  have ew:91::(shL ps++[93])++wt k=Y5 (.rows k ps):=by rw [a0q];simp
  rw [ew] at b3
  simp (disch:=omega) only [d6,d4,c7,d0,c9,c8,e8,i3,j7,d7,o0,d8,p9,g6,i5,f7,h9,AD,AH,AR,AO,Ad,AN,AQ,i0,b1v,i2,sh,b1,b2,i1,wt0,b3]
 |again k qs=>
  obtain⟨i0,i1,i2⟩:=a3S k qs
  have hr:=hF k qs rfl
  rw [gVx] at g
  have d2:=a2P k
  rw [Y6,AV,AX,AV] at hsl
  have a1:=E7 (l:=[123]) (k:=O5 qs) (by simp;lia)
  have a2:=E7 (l:=123::O5 qs) (k:=[125]) (by simp;lia)
  have a3:=E7 (l:=123::(O5 qs++[125])) (k:=dg k) (by simp;lia)
  have ew:123::(O5 qs++[125])++dg k=Y5 (.again k qs):=by rw [Y6];simp
  rw [ew] at a3
  simp (disch:=omega) only [d6,m6,d4,c7,d0,c9,c8,e8,i3,j7,d7,g7,d8,n5,i4,g6,i5,f7,h9,AD,AH,AR,AO,Ad,AN,AQ,i0,b1u,i2,hr,a1,a2,i1,a6s (k:=k) (by lia),a3]
theorem b8c:∀(n:Nat) (ws:List Wa),T5 ws→t8 ws≤24→2*L7 ws+2≤n→G5 n [.list (j0 ws)]=some (.val (row (O5 ws)))
 |0,_,_,_,h=>by lia
 |1,_,_,_,h=>by lia
 |m+2,ws,g,hk,hd=>by
  have hm:=a4O g
  have cm:=a0I (ι:=L8) (f:=fun p=>row (Y5 p)) (k:=1) (it:=a0i (b7 0)) (elt:=X1 (B6 (m+1)) (G5 (m+1))) (tg:=k7 1) (ρ:=[some (.val (.list (j0 ws)))]) ws
   (a2A (r:= .val (.list (j0 ws))) rfl (by rw [a3o];rfl)) (by lia) fun p hp=>⟨_,rfl,by
    have:=b1M hp
    have e:B6 (m+1) [L8 p]=some (.val (row (Y5 p))):=b8d (RP:=B6 m) (RW:=G5 m) (a8N g hp) (by lia) fun k qs hq=>by
     subst hq
     obtain⟨h1,h2,h3,h4,h5,h6,h7⟩:=a2W g hp
     exact b8c m qs h1 (by lia) (by lia)
    unfold X1
    simp (disch:=omega) only [c7,e7,d0,c9,c8,e8,AD,AW,AO,AN,AQ,AS,AT,e]⟩
  have jn:=b93 g hk (y:= .own (ws.map fun p=>row (Y5 p))) (by rw [At];rfl)
  show k9 0 (V8 (B6 (m+1)) (G5 (m+1))) [.list (j0 ws)]=_
  unfold V8
  simp (disch:=omega) only [d6,d4,i3,j7,g6,i5,AD,AH,AR,AO,Ad,cm,jn]
theorem b4v:∀{qs:List Pa} {p:Pa},okL (qs++[p])→okL qs∧okP p
 |[],p,h=>⟨trivial,h.1⟩
 |q::qs,p,h=>⟨⟨h.1,(b4v h.2).1⟩,(b4v h.2).2⟩
theorem b4J:∀{qs:List Pa} {p:Pa} {d:Nat},dpL (qs++[p])≤d→dpL qs≤d∧dpP p≤d
 |[],p,d,h=>by
  have h:dpL [p]≤d:=h
  rw [dpL,dpL] at h
  rw [dpL]
  lia
 |q::qs,p,d,h=>by
  rw [AN,dpL] at h
  have:=b4J (qs:=qs) (p:=p) (d:=d) (by lia)
  rw [dpL]
  lia
theorem a5C(ps:List Pa)(p:Pa):F9 (ps++[p])=F9 ps++unP p:=by
 rw [a0s,a0s,As,List.flatten_append]
 simp
theorem b8k(c k:Nat):unP (.run c (k+1))=unP (.run c k)++[c]:=by
 rw [unP,unP,List.range_succ,As]
 rfl
theorem b80(A:List PV)(p:PV):m9 (.bor (A++[p])) (.val (.int (-1)))=some (.val p):=by
 have h:L2.atI (A++[p]) (-1)=some p:=by
  unfold L2.atI L2.ixN
  rw [if_neg (by lia),if_pos (by rw [AX,List.length_singleton];lia),AD]
  have:((-1:Int)+((A++[p]).length:Nat)).toNat=A.length:=by rw [AX,List.length_singleton];lia
  rw [this]
  simp
 exact b4X h
theorem b77(i:Nat)(ρ:g0)(q p:PV)(A:List PV)(h:ρ[i]?=some (some (.own (A++[p])))):b76 i ρ q (.val (.int (-1)))=some (.nx (ρ.set i (some (.own (A++[q]))))):=by
 unfold b76
 rw [h]
 show(L2.ixN (A++[p]).length (-1)).bind _=_
 have:L2.ixN (A++[p]).length (-1)=some A.length:=by
  unfold L2.ixN
  rw [if_neg (by lia),if_pos (by rw [AX,List.length_singleton];lia)]
  congr 1
  rw [AX,List.length_singleton]
  lia
 rw [this,AD]
 simp
theorem c1p{l:List Nat}(hl:l.length≤24)(haz:∀x∈l,97≤x∧x≤122):∃ps:List Pa,okL ps∧F9 ps=l∧dpL ps≤0∧a3h [row l]=some (.own (r6 ps)):=by
 obtain⟨ρ1,e1,ps,q2,x1,x2,x3,x4,rfl⟩:=a0F (body:=B7) (tg:=k7 2) (fun i ρ=>∃(ps:List Pa) (q2:Option f6),okL ps∧F9 ps=l.take i∧dpL ps≤0∧ps.length≤i∧ρ=[some (.val (row l)),some (.own (r6 ps)),q2])
  (ps:=l.map fun c=> .str (S [c])) (ρ:=[some (.val (row l)),some (.own []),none])
  (by
   rintro i p hp ρ ⟨ps,q2,x1,x2,x3,x4,rfl⟩
   rw [BB] at hp
   cases hc:l[i]? with
   |none=>rw [hc] at hp;cases hp
   |some c=>
    rw [hc] at hp
    cases hp
    have hi:i<l.length:=(Aw.mp hc).1
    have hcz:=haz c (BD hc)
    have htk:l.take (i+1)=l.take i++[c]:=by rw [List.take_succ,hc];rfl
    have hlen:(F9 ps).length=i:=by rw [x2,List.length_take];lia
    have ok49:N6 (r6 ps) 49=true:=a8M 49 ps (by lia)
    have fin:∀qs:List Pa,okL qs→F9 qs=l.take (i+1)→dpL qs≤0→qs.length≤i+1→B7 [some (.val (row l)),some (.own (r6 ps)),some (.val (row [c]))]=some (.nx [some (.val (row l)),some (.own (r6 qs)),some (.val (row [c]))])→∃ρ1 ρ2,k7 2 (.str (S [c])) [some (.val (row l)),some (.own (r6 ps)),q2]=some ρ1∧(B7 ρ1=some (.nx ρ2)∨B7 ρ1=some (.ct ρ2))∧∃(ps:List Pa) (q2:Option f6),okL ps∧F9 ps=l.take (i+1)∧dpL ps≤0∧ps.length≤i+1∧ρ2=[some (.val (row l)),some (.own (r6 ps)),q2]:=
     fun qs y1 y2 y3 y4 e=>a1Q (I:=fun ρ2=>∃(ps:List Pa) (q2:Option f6),okL ps∧F9 ps=l.take (i+1)∧dpL ps≤0∧ps.length≤i+1∧ρ2=[some (.val (row l)),some (.own (r6 ps)),q2]) rfl e ⟨qs,_,y1,y2,y3,y4,rfl⟩
    have ap:A1 1 (U2 (b0 (mC (.str (AY "run"))) (b0 (b7 2) (b0 (mC (.int 1)) f8)))) [some (.val (row l)),some (.own (r6 ps)),some (.val (row [c]))]=some (.nx [some (.val (row l)),some (.own (r6 (ps++[.run c 1]))),some (.val (row [c]))]):=by
     rw [a3n,x9]
     exact A8 (r:= .val (.tuple [a42,row [c],.int ((1:Nat):Int)])) (ps:=r6 ps) (by simp (disch:=omega) only [d4,c7,e7,d0,c9,c8,z7,AD,AV,Af,↓reduceIte,sz,Nat.reduceAdd,Ai,Int.cast_ofNat_Int]) rfl rfl (by rw [b2b];lia)
    have new:B7 [some (.val (row l)),some (.own (r6 ps)),some (.val (row [c]))]=some (.nx [some (.val (row l)),some (.own (r6 (ps++[.run c 1]))),some (.val (row [c]))])→∃ρ1 ρ2,k7 2 (.str (S [c])) [some (.val (row l)),some (.own (r6 ps)),q2]=some ρ1∧(B7 ρ1=some (.nx ρ2)∨B7 ρ1=some (.ct ρ2))∧∃(ps:List Pa) (q2:Option f6),okL ps∧F9 ps=l.take (i+1)∧dpL ps≤0∧ps.length≤i+1∧ρ2=[some (.val (row l)),some (.own (r6 ps)),q2]:=
     fun e=>fin (ps++[.run c 1]) (a6W x1 (show okP (.run c 1) from⟨by lia,by lia,hcz⟩)) (by rw [a5C,htk,x2];rfl) (a6B x3 (by rw [dpP];lia)) (by rw [AX,List.length_singleton];lia) e
    rcases List.eq_nil_or_concat ps with z|⟨qs,p,z⟩
    ·apply new
     have ne:gNe (.bor (r6 ps)) (.own [])=some (.val (.bool false)):=by rw [z,r6];rfl
     unfold B7
     simp (disch:=omega) only [d6,a1M,e7,d0,A9,d8,n5,f7,h9,v7,a4t,AD,Af,↓reduceIte,sz,Ai,ne]
     exact ap
    ·rw [List.concat_eq_append] at z
     have ne:gNe (.bor (r6 ps)) (.own [])=some (.val (.bool true)):=by
      rw [b1B (x:= .bor (r6 ps)) (y:= .own []) ⟨ok49,rfl⟩]
      congr 3
      show(!PyData.eqv (.list (r6 ps)) (.list []))=true
      rw [z,a3n]
      cases r6 qs<;>simp [PyData.eqv,PyData.eqvAll]
     obtain⟨o1,o2⟩:=b4v (z▸x1)
     obtain⟨d1,d2⟩:=b4J (z▸x3)
     cases p with
     |again k rs=>rw [dpP] at d2;lia
     |run d k=>
      have ix:m9 (.bor (r6 ps)) (.val (.int (-1)))=some (.val (x9 (.run d k))):=by rw [z,a3n];exact b80 _ _
      have i1:m9 (.val (x9 (.run d k))) (.val (.int 1))=some (.val (row [d])):=by rw [x9];rfl
      have i2:m9 (.val (x9 (.run d k))) (.val (.int 2))=some (.val (.int (k:Nat))):=by rw [x9];rfl
      have eq:=b4U [d] [c]
      by_cases hd:d=c
      ·subst hd
       have eq:gEq (.val (row [d])) (.val (row [d]))=some (.val (.bool true)):=by rw [eq];simp
       have e2:(k:Int)+1=((k+1:Nat):Int):=by lia
       have hk:(F9 qs).length+k=i:=by rw [←hlen,z,a5C,AX,a37]
       have st:=b77 1 [some (.val (row l)),some (.own (r6 ps)),some (.val (row [d]))] (x9 (.run d (k+1))) (x9 (.run d k)) (r6 qs) (by rw [z,a3n];rfl)
       refine fin (qs++[.run d (k+1)]) (a6W o1 (show okP (.run d (k+1)) from⟨by lia,by lia,hcz⟩)) (by rw [a5C,b8k,←List.append_assoc,←a5C,←z,htk,x2]) (a6B d1 (by rw [dpP];lia)) (by rw [z,AX,List.length_singleton] at x4;rw [AX,List.length_singleton];lia) ?_
       have ep:x9 (.run d (k+1))= .tuple [a42,row [d],.int ((k+1:Nat):Int)]:=by rw [x9]
       rw [ep] at st
       unfold B7
       simp (disch:=omega) only [m7,b4c,d6,d4,c7,a1M,e7,d0,c9,c8,z7,A9,d8,p9,f7,h9,v7,a0B,b20,b7v,AD,AV,Af,↓reduceIte,sz,Nat.reduceAdd,Ai,Int.reduceNeg,ne,ix,i1,eq,i2,e2]
       refine st.trans ?_
       rw [a3n,ep]
       rfl
      ·have eq:gEq (.val (row [d])) (.val (row [c]))=some (.val (.bool false)):=by rw [eq];simp [hd]
       apply new
       unfold B7
       simp (disch:=omega) only [d6,d4,c7,a1M,e7,d0,A9,d8,n5,f7,h9,v7,a0B,b20,b7v,AD,Af,↓reduceIte,sz,Ai,Int.reduceNeg,ne,ix,i1,eq]
       exact ap) ⟨[],none,trivial,by rw [F9];simp,by rw [dpL];lia,AZ _,by rw [r6]⟩
 rw [Ae,List.take_length] at x2
 have sg:a9t (b7 0) [some (.val (row l)),some (.own []),none]=some (l.map fun c=> .str (S [c])):=b7s rfl
 refine⟨ps,x1,x2,x3, ?_⟩
 unfold a3h b0C
 simp (disch:=omega) only [d0,A9,g5,W7,d7,g7,g6,i5,z6,AD,AH,AR,AW,AO,AN,AQ,AS,AT,Af,↓reduceIte,W1,W2,sz,Ai,sg,e1]
mutual
theorem c1z:∀{p:Pa},okP p→∀x∈unP p,97≤x∧x≤122
 | .run c k,ok,x,h=>by
   rw [unP] at h
   obtain⟨_,_,rfl⟩:=Au.mp h
   exact ok.2.2
 | .again k ps,ok,x,h=>by
   rw [unP] at h
   obtain⟨l,hl,hx⟩:=List.mem_flatten.mp h
   obtain⟨_,_,rfl⟩:=Au.mp hl
   exact b4z ok.2.2.2 x hx
theorem b4z:∀{ps:List Pa},okL ps→∀x∈F9 ps,97≤x∧x≤122
 |[],_,x,h=>by rw [F9] at h;cases h
 |p::ps,ok,x,h=>by
  rw [F9] at h
  rcases Av.mp h with h|h
  ·exact c1z ok.1 x h
  ·exact b4z ok.2 x h
end
abbrev enL(ps:List Pa):PV:= .tuple [row (F9 ps),.list (r6 ps)]
def b7o(n:Nat)(ps:List Pa):Prop:=okL ps∧ps≠[]∧dpL ps≤3∧(F9 ps).length=n
theorem c07{o:List Nat}(ho:0<o.length)(ho2:o.length≤24)(haz:∀x∈o,97≤x∧x≤122){n:Nat}(hn:n≤24){l:List Nat}(hl:l.length=n)(q0 q1 q2 q4 q5 q7:Option f6):
 ∃w:List Nat,w.length=n∧(∀x∈w,97≤x∧x≤122)∧m2 M5 (mC (.str (AY ""))) (a4f 1 (a1z (b0 (m1 G3 (b7 3)) f8)) (k7 8) a4R a0f) [q0,q1,q2,some (.val (row l)),q4,q5,some (.val (row o)),q7]=some (.val (row w)):=by
 have gl:=M6 (l:=l) (by lia)
 have go:=M6 (l:=o) (by lia)
 have cm:=a0I (ι:=fun c:Nat=>PyData.int (c:Nat)) (f:=fun c=>row [o.getD (c % o.length) 0]) (k:=1) (it:=a1z (b0 (m1 G3 (b7 3)) f8)) (elt:=a0f) (tg:=k7 8) (ρ:=[q0,q1,q2,some (.val (row l)),q4,q5,some (.val (row o)),q7]) (Ac n)
  (by simp (disch:=omega) only [m6,c7,e7,d0,c9,c8,Y2,a2C,AD,gl];rw [hl,a5w]) (by rw [BA];lia) fun c _=>⟨_,rfl,by
   have hm:c % o.length<o.length:=Nat.mod_lt _ ho
   have e:(c:Int) %(o.length:Int)=((c % o.length:Nat):Int):=(Int.natCast_emod c o.length).symm
   have ix:m9 (.val (row o)) (.val (.int ((c % o.length:Nat):Int)))=some (.val (row [o.getD (c % o.length) 0])):=by
    refine b66 (by lia) ?_
    rw [b2B,List.getD_eq_getElem?_getD,Ax hm]
    rfl
   unfold a0f
   simp (disch:=omega) only [z5,d6,m6,c7,e7,c8,AD,AW,AO,AN,AQ,AS,AT,go,e,ix]⟩
 refine⟨(Ac n).map fun c=>o.getD (c % o.length) 0,by simp,fun x hx=> ?_, ?_⟩
 ·obtain⟨c,_,rfl⟩:=Au.mp hx
  have hm:c % o.length<o.length:=Nat.mod_lt _ ho
  rw [List.getD_eq_getElem?_getD,Ax hm]
  exact haz _ (List.getElem_mem hm)
 ·have ef:∀r:List Nat,(r.map fun c=>[o.getD (c % o.length) 0]).flatten=r.map fun c=>o.getD (c % o.length) 0:=fun r=>by
   induction r with
   |nil=>rfl
   |cons a r ih=>rw [AH,List.flatten_cons,ih,AH];rfl
  have jn:M5 (.val (.str (AY ""))) (.own ((Ac n).map fun c=>row [o.getD (c % o.length) 0]))=some (.val (row ((Ac n).map fun c=>o.getD (c % o.length) 0))):=by
   have:=b43 (rows:=(Ac n).map fun c=>[o.getD (c % o.length) 0]) (y:= .own ((Ac n).map fun c=>row [o.getD (c % o.length) 0])) (by rw [At];rfl) (by rw [ef,Ae,BA];lia)
   rw [ef] at this
   exact this
  simp (disch:=omega) only [d6,d4,AD,cm,jn]
theorem b7n(ns:List Int)(hn:ns.length≤63){a:Nat}(ha:a≤60):∃(L:List (List Pa)) (n:Nat),L≠[]∧L.length≤4∧1≤n∧n≤12∧(∀ps∈L,b7o n ps)∧a2w [.list (ns.map .int),.int (a:Nat)]=some (.own (L.map enL)):=by
 obtain⟨p0,o1,o2,o3,o4,e0⟩:=b2G ns hn (at_:=a) (by lia)
 have hn1:=a8W o2 o1
 have u0:=a6R 16 p0 o1 (by lia) (by lia)
 have u0:B5 [.list (r6 p0)]=_:=u0
 obtain⟨c,hc⟩:=a7x (ns:=ns) (k:=((a+1:Nat):Int)) (by lia)
 obtain⟨N,hN,eN⟩:=Y3 c
 have e1:(a:Int)+1=((a+1:Nat):Int):=by lia
 obtain⟨mn,emn,mn1,mn2⟩:∃mn:Nat,1+N % 3=(mn:Int)∧1≤mn∧mn≤3:=⟨(1+N % 3).toNat,by lia,by lia,by lia⟩
 obtain⟨ρ1,ef,L,q5,q6,q7,x1,x2,x3,rfl⟩:=a0F (body:=a0c) (tg:=k7 5) (fun i ρ=>∃(L:List (List Pa)) (q5 q6 q7:Option f6),L≠[]∧L.length≤i+1∧(∀ps∈L,b7o (F9 p0).length ps)∧
  ρ=[some (.val (.list (ns.map .int))),some (.val (.int (a:Nat))),some (.val (.list (r6 p0))),some (.val (row (F9 p0))),some (.own (L.map enL)),q5,q6,q7])
  (ps:=a1N 0 ((mn:Nat):Int)) (ρ:=[some (.val (.list (ns.map .int))),some (.val (.int (a:Nat))),some (.val (.list (r6 p0))),some (.val (row (F9 p0))),some (.own [enL p0]),none,none,none])
  (by
   rintro i p hp ρ ⟨L,q5,q6,q7,x1,x2,x3,rfl⟩
   obtain⟨rfl,hi⟩:=a66 hp
   obtain⟨p1,r1,r2,r3,r4,d1⟩:=b2G ns hn (at_:=a+7+5*i) (by lia)
   have h1:=a8W r2 r1
   have u1:=a6R 16 p1 r1 (by lia) (by lia)
   have u1:B5 [.list (r6 p1)]=_:=u1
   have e2:(a:Int)+7+5*(0+(i:Int))=((a+7+5*i:Nat):Int):=by lia
   obtain⟨w,w1,w2,w3⟩:=c07 h1 (by lia) (b4z r1) (n:=(F9 p0).length) (by lia) (l:=F9 p0) rfl (some (.val (.list (ns.map .int)))) (some (.val (.int (a:Nat)))) (some (.val (.list (r6 p0)))) (some (.own (L.map enL))) (some (.val (.int (0+(i:Int))))) q7
   obtain⟨p2,s1,s2,s3,s4⟩:=c1p (l:=w) (by lia) w2
   have hne:p2≠[]:=fun z=>by
    rw [z,F9] at s2
    rw [←s2] at w1
    simp at w1
    lia
   refine a1Q rfl (ρ2:=[some (.val (.list (ns.map .int))),some (.val (.int (a:Nat))),some (.val (.list (r6 p0))),some (.val (row (F9 p0))),some (.own ((L++[p2]).map enL)),some (.val (.int (0+(i:Int)))),some (.val (row (F9 p1))),some (.val (row w))]) ?_ ⟨L++[p2],_,_,_,by simp,by rw [AX,List.length_singleton];lia,fun ps hps=> ?_,rfl⟩
   ·have ap:=A8 (i:=4) (m:=U2 (b0 (b7 7) (b0 (k4 a3h (b0 (b7 7) f8)) f8))) (ρ:=[some (.val (.list (ns.map .int))),some (.val (.int (a:Nat))),some (.val (.list (r6 p0))),some (.val (row (F9 p0))),some (.own (L.map enL)),some (.val (.int (0+(i:Int)))),some (.val (row (F9 p1))),some (.val (row w))]) (r:= .val (enL p2)) (p:=enL p2) (ps:=L.map enL) (by rw [show enL p2= .tuple [row w,.list (r6 p2)] by rw [←s2]];simp (disch:=omega) only [c7,e7,d0,c9,c8,a5B,z7,e8,AD,AV,Af,↓reduceIte,sz,Nat.reduceAdd,Ai,s4]) rfl rfl (by rw [Ae];lia)
    show a0c [some (.val (.list (ns.map .int))),some (.val (.int (a:Nat))),some (.val (.list (r6 p0))),some (.val (row (F9 p0))),some (.own (L.map enL)),some (.val (.int (0+(i:Int)))),q6,q7]=_
    rw [As]
    unfold a0c
    rw [d6] at w3
    simp (disch:=omega) only [m7,R6,d6,d4,c7,e7,d0,c9,c8,e8,g5,j4,d7,g7,AD,AH,AR,AS,AT,e2,d1,u1] at w3 ⊢
    simp (disch:=omega) only [j4,g7,AD,AS,AT,w3,ap]
    try rfl
   ·rcases Av.mp hps with h|h
    ·exact x3 ps h
    ·rw [List.mem_singleton] at h
     subst h
     exact⟨s1,hne,by lia,by rw [s2];exact w1⟩) ⟨[p0],none,none,none,by simp,by simp,fun ps hps=>by rw [List.mem_singleton] at hps;subst hps;exact⟨o1,o2,o4,rfl⟩,rfl⟩
 have hlen:(a1N 0 ((mn:Nat):Int)).length=mn:=by rw [a5w,Ae,BA]
 rw [hlen] at x2
 refine⟨L,(F9 p0).length,x1,by lia,hn1,o3,x3, ?_⟩
 unfold a2w a75
 simp (disch:=omega) only [m7,z5,d6,d4,c7,e7,d0,c9,c8,z7,A9,e8,g5,j4,W7,d7,g7,g6,i5,z6,Y2,a2C,AD,AH,AR,AW,AO,AN,AQ,AS,AT,AV,Af,↓reduceIte,W1,W2,sz,Nat.reduceAdd,Ai,e0,u0,e1,hc,eN,emn,ef]
theorem b6h(ps:List Wa)(p:Wa):j0 (ps++[p])=j0 ps++[L8 p]:=by rw [a3o,a3o,As];rfl
theorem b0V:∀(ps:List Wa) (p:Wa),t8 (ps++[p])=t8 ps+knV p
 |[],p=>by show t8 [p]=_;rw [t8,t8,t8];lia
 |q::ps,p=>by rw [AN,t8,t8,b0V ps p];lia
theorem b2Q:∀{ps:List Wa} {p:Wa},T5 ps→gVx p→T5 (ps++[p])
 |[],p,_,h=>by show T5 [p];rw [T5,T5];exact⟨h,trivial⟩
 |q::ps,p,h,g=>by rw [T5] at h;rw [AN,T5];exact⟨h.1,b2Q h.2 g⟩
theorem b0M:∀{ps:List Wa} {p:Wa} {d:Nat},L7 ps≤d→dpV p≤d→L7 (ps++[p])≤d
 |[],p,d,_,h=>by
  show L7 [p]≤d
  rw [L7,L7];lia
 |q::ps,p,d,h,g=>by
  rw [L7] at h
  rw [AN,L7]
  have:=b0M (ps:=ps) (p:=p) (d:=d) (by lia) g
  lia
theorem b0X:∀(ps:List Wa) (p:Wa),R0 (ps++[p])=R0 ps++lnV p
 |[],p=>by show R0 [p]=_;rw [R0,R0,R0];simp
 |q::ps,p=>by rw [AN,R0,R0,b0X ps p,List.append_assoc]
theorem c0T{n:Nat}(hn:n≤12){ps:List Pa}(h:b7o n ps):gFo ps:=⟨b68 h.1,h.2.1,by have:=h.2.2.1;lia,by rw [a2b,h.2.2.2];lia⟩
theorem b4B{R:List PV→Option f6}{cs:List Int}(hcs:0<cs.length){L:List (List Pa)}{n0:Nat}(hn0:n0≤12)(hL:L≠[])(hLo:∀ps∈L,b7o n0 ps){deep g B:Nat}(hdeep:deep≤3)
 (hR:0<deep→∀a room:Nat,1≤room→room≤24→a≤B→∃(qs:List Wa) (a':Nat),T5 qs∧qs≠[]∧t8 qs≤room∧L7 qs+1≤deep∧(∀x∈R0 qs,x=n0)∧a'≤a+g∧R [.list (cs.map .int),.int (a:Nat),.int (room:Nat),.int ((deep:Int) - 1),.list (L.map enL)]=some (.val (.tuple [.list (j0 qs),.int (a':Nat)])))
 {a left:Nat} (ha:a≤40000) (hB:a+2≤B) (hl:0<left) (hl2:left≤24) {acc:List PV} (hacc:acc.length<1000) (q2 q7 q8 q9 q10 q11:Option f6):
 ∃(p:Wa) (a' left':Nat) (q9' q10' q11':Option f6),gVx p∧dpV p≤deep∧knV p+left'=left∧(∀x∈lnV p,x=n0)∧a'≤a+2+g∧
  C6 R [some (.val (.list (cs.map .int))),some (.val (.int (a:Nat))),q2,some (.val (.int (deep:Nat))),some (.val (.list (L.map enL))),some (.own acc),some (.val (.int (left:Nat))),q7,q8,q9,q10,q11]
  =some (.nx [some (.val (.list (cs.map .int))),some (.val (.int (a':Nat))),q2,some (.val (.int (deep:Nat))),some (.val (.list (L.map enL))),some (.own (acc++[L8 p])),some (.val (.int (left':Nat))),q7,q8,q9',q10',q11']):=by
 obtain⟨c,hc⟩:=a8H hcs (((a+1:Nat):Int))
 obtain⟨N,hN,eN⟩:=Y3 (c+7*((a+1:Nat):Int))
 have gl:G3 (.val (.list (cs.map .int)))=some (.val (.int (cs.length:Nat))):=by rw [U1,Ae]
 have e1:(a:Int)+1=((a+1:Nat):Int):=by lia
 have p0:decide ((0:Int)<(left:Int))=true:=decide_eq_true (by lia)
 by_cases hb:0<deep∧1<left∧N % 3=0
 ·obtain⟨b1,b2,b3⟩:=hb
  obtain⟨m,hm,ma1,ma2⟩:∃m:Nat,(if(left:Int) - 1<3 then(left:Int) - 1 else 3)=(m:Int)∧1≤m∧m+1≤left∧m≤3:=⟨(if(left:Int) - 1<3 then(left:Int) - 1 else 3).toNat,by split<;>lia,by split<;>lia,by split<;>lia,by split<;>lia⟩
  have r0:0≤N / 3 %(m:Int):=Int.emod_nonneg _ (by lia)
  have r1:N / 3 %(m:Int)<m:=Int.emod_lt_of_pos _ (by lia)
  obtain⟨k,hk,k1,k2,k3⟩:∃k:Nat,2+N / 3 %(m:Int)=(k:Int)∧2≤k∧k≤left∧k≤4:=⟨(2+N / 3 %(m:Int)).toNat,by lia,by lia,by lia,by lia⟩
  have hroom:1≤left / k:=(Nat.le_div_iff_mul_le (by lia)).mpr (by lia)
  have hroom2:left / k≤24:=Nat.le_trans (Nat.div_le_self _ _) hl2
  obtain⟨qs,a',okq,qne,hq,dq,lq,ha',eR⟩:=hR b1 (a+2) (left / k) hroom hroom2 (by lia)
  have hmul:k*t8 qs≤left:=by
   have:=Nat.mul_le_mul_left k hq
   have:=Nat.mul_div_le left k
   lia
  have hlu:K9 [.list (j0 qs)]=some (.val (.tuple ((V6 qs).map row))):=a8R 16 qs okq (by lia) (by lia)
  have gl2:G3 (.val (.tuple ((V6 qs).map row)))=some (.val (.int (t8 qs:Nat))):=by rw [b2N,Ae,a1l]
  have c1:decide ((0:Int)<(deep:Int))=true:=decide_eq_true (by lia)
  have c2:decide ((1:Int)<(left:Int))=true:=decide_eq_true (by lia)
  have c3:(N % 3==0)=true:=by rw [beq_iff_eq];exact b3
  have e2:((a+1:Nat):Int)+1=((a+2:Nat):Int):=by lia
  have e3:(left:Int)/(k:Int)=((left / k:Nat):Int):=(Int.natCast_ediv left k).symm
  have e4:(left:Int) - (k:Int)*(t8 qs:Int)=((left - k*t8 qs:Nat):Int):=by rw [Int.ofNat_sub hmul,Int.natCast_mul]
  refine⟨.again k qs,a',left - k*t8 qs,some (.val (.int N)),some (.val (.int (k:Nat))),some (.val (.list (j0 qs))),by rw [gVx];exact⟨⟨k1,by lia⟩,qne,okq⟩,by rw [dpV];lia,by rw [knV,Nat.mul_comm];lia,by rw [lnV];exact lq,by lia, ?_⟩
  have ep:L8 (.again k qs)= .tuple [E2,.int (k:Nat),.list (j0 qs)]:=by rw [L8]
  have ap:=A8 (i:=5) (m:=U2 (b0 (mC (.str (AY "again"))) (b0 (b7 10) (b0 (b7 11) f8)))) (ρ:=[some (.val (.list (cs.map .int))),some (.val (.int (a':Nat))),q2,some (.val (.int (deep:Nat))),some (.val (.list (L.map enL))),some (.own acc),some (.val (.int (left:Nat))),q7,q8,some (.val (.int N)),some (.val (.int (k:Nat))),some (.val (.list (j0 qs)))]) (r:= .val (L8 (.again k qs))) (p:=L8 (.again k qs)) (ps:=acc) (by rw [ep];simp (disch:=omega) only [d4,c7,e7,d0,c9,c8,z7,AD,AV,Af,↓reduceIte,sz,Nat.reduceAdd,Ai]) rfl rfl (by lia)
  unfold C6
  simp (disch:=omega) only [m7,A6,R6,z5,G8,d6,m6,d4,c7,e7,d0,c9,c8,e8,g5,j4,d7,g7,d8,p9,f7,h9,v7,a0B,b21,b8o,AD,AS,AT,P0,p0,e1,gl,hc,eN,c1,c2,c3,hm,hk,e2,e3,eR,ap,hlu,gl2,e4]
 ·have hLp:0<L.length:=List.length_pos_iff.mpr hL
  have glL:G3 (.val (.list (L.map enL)))=some (.val (.int (L.length:Nat))):=by rw [U1,Ae]
  obtain⟨i,ei,hi⟩:∃i:Nat,N / 27 %(L.length:Int)=(i:Int)∧i<L.length:=⟨(N / 27 %(L.length:Int)).toNat,by
   have:=Int.emod_nonneg (N / 27) (show(L.length:Int)≠0 by lia)
   lia,by
   have h1:=Int.emod_lt_of_pos (N / 27) (show 0<(L.length:Int) by lia)
   have h2:=Int.emod_nonneg (N / 27) (show(L.length:Int)≠0 by lia)
   lia⟩
  obtain⟨fo,hfo⟩:∃fo,L[i]?=some fo:=⟨L[i],Ax hi⟩
  have hfm:=hLo fo (BD hfo)
  have ix:m9 (.val (.list (L.map enL))) (.val (.int (i:Nat)))=some (.val (enL fo)):=a6H (by rw [b2B,BB,hfo];rfl)
  have w0:0≤N / 81 % 4 / 3∧N / 81 % 4 / 3≤1:=by lia
  obtain⟨m,hm,ma1,ma2⟩:∃m:Nat,(if 3+9*(N / 81 % 4 / 3)<(left:Int) then 3+9*(N / 81 % 4 / 3) else(left:Int))=(m:Int)∧1≤m∧m≤left:=⟨(if 3+9*(N / 81 % 4 / 3)<(left:Int) then 3+9*(N / 81 % 4 / 3) else(left:Int)).toNat,by split<;>lia,by split<;>lia,by split<;>lia⟩
  have r0:0≤N / 3 %(m:Int):=Int.emod_nonneg _ (by lia)
  have r1:N / 3 %(m:Int)<m:=Int.emod_lt_of_pos _ (by lia)
  obtain⟨k,hk,k1,k2⟩:∃k:Nat,1+N / 3 %(m:Int)=(k:Int)∧1≤k∧k≤left:=⟨(1+N / 3 %(m:Int)).toNat,by lia,by lia,by lia⟩
  have e4:(left:Int) - (k:Int)=((left - k:Nat):Int):=by lia
  refine⟨.rows k fo,a+1,left - k,some (.val (.int N)),some (.val (.int (k:Nat))),q11,by rw [gVx];exact⟨c0T hn0 hfm,k1,by lia⟩,by rw [dpV];lia,by rw [knV];lia,fun x hx=>by rw [lnV,List.mem_singleton] at hx;rw [hx];exact hfm.2.2.2,by lia, ?_⟩
  have ep:L8 (.rows k fo)= .tuple [a92,.int (k:Nat),.list (r6 fo)]:=by rw [L8]
  have ap:=A8 (i:=5) (m:=U2 (b0 (mC (.str (AY "rows"))) (b0 (b7 10) (b0 (m2 m9 (m2 m9 (b7 4) (m2 (gIc (fun _ j=>0<j) fun i j=> .int (i % j)) (m2 (gIc a1A fun i j=> .int (i / j)) (b7 9) (mC (.int 27))) (m1 G3 (b7 4)))) (mC (.int 1))) f8)))) (ρ:=[some (.val (.list (cs.map .int))),some (.val (.int ((a+1:Nat):Int))),q2,some (.val (.int (deep:Nat))),some (.val (.list (L.map enL))),some (.own acc),some (.val (.int (left:Nat))),q7,q8,some (.val (.int N)),some (.val (.int (k:Nat))),q11]) (r:= .val (L8 (.rows k fo))) (p:=L8 (.rows k fo)) (ps:=acc) (by rw [ep];simp (disch:=omega) only [z5,G8,v9,d6,m6,d4,c7,e7,d0,c9,c8,z7,AD,AV,Af,↓reduceIte,sz,Nat.reduceAdd,Ai,glL,ei,ix]) rfl rfl (by lia)
  unfold C6
  by_cases b1:0<deep
  ·have c1:decide ((0:Int)<(deep:Int))=true:=decide_eq_true (by lia)
   by_cases b2:1<left
   ·have c2:decide ((1:Int)<(left:Int))=true:=decide_eq_true (by lia)
    have c3:(N % 3==0)=false:=by rw [beq_eq_false_iff_ne];exact fun z=>hb ⟨b1,b2,z⟩
    simp (disch:=omega) only [m7,A6,R6,z5,G8,d6,m6,d4,c7,e7,d0,c9,c8,e8,g5,j4,d7,g7,d8,p9,n5,f7,h9,v7,a0B,AD,AS,AT,P0,p0,e1,gl,hc,eN,c1,c2,c3,hm,hk,ap,e4]
   ·have c2:decide ((1:Int)<(left:Int))=false:=decide_eq_false (by lia)
    simp (disch:=omega) only [m7,A6,R6,z5,G8,d6,m6,d4,c7,e7,d0,c9,c8,e8,g5,j4,d7,g7,d8,p9,n5,f7,h9,v7,a0B,a4t,AD,AS,AT,p0,e1,gl,hc,eN,c1,c2,hm,hk,ap,e4]
  ·have c1:decide ((0:Int)<(deep:Int))=false:=decide_eq_false (by lia)
   simp (disch:=omega) only [m7,A6,R6,z5,G8,d6,m6,d4,c7,e7,d0,c9,c8,e8,g5,j4,d7,g7,d8,p9,n5,f7,h9,v7,a4t,AD,AS,AT,p0,e1,gl,hc,eN,c1,hm,hk,ap,e4]
theorem b0e{cs:List Int}(hcs:0<cs.length){L:List (List Pa)}{n0:Nat}(hn0:n0≤12)(hL:L≠[])(hLo:∀ps∈L,b7o n0 ps):∀(n deep a room:Nat),deep<n→deep≤3→1≤room→room≤24→a≤30000 - grw deep→grw deep≤5000→
 ∃(ps:List Wa) (a':Nat),T5 ps∧ps≠[]∧t8 ps≤room∧L7 ps≤deep∧(∀x∈R0 ps,x=n0)∧a'≤a+grw deep∧D3 n [.list (cs.map .int),.int (a:Nat),.int (room:Nat),.int (deep:Nat),.list (L.map enL)]=some (.val (.tuple [.list (j0 ps),.int (a':Nat)]))
 |0,deep,a,room,h,_,_,_,_,_=>by lia
 |n+1,deep,a,room,hn,hd,hr1,hr2,ha,hg=>by
  obtain⟨c,hc⟩:=a8H hcs (a:Int)
  obtain⟨N,hN,eN⟩:=Y3 (c+3*(a:Int))
  have gl:G3 (.val (.list (cs.map .int)))=some (.val (.int (cs.length:Nat))):=by rw [U1,Ae]
  obtain⟨mn,emn,mn1,mn2⟩:∃mn:Nat,1+N % 4=(mn:Int)∧1≤mn∧mn≤4:=⟨(1+N % 4).toNat,by lia,by lia,by lia⟩
  obtain⟨gi,hgi,hgi2,hR⟩:∃gi:Nat,4*(2+gi)≤grw deep∧gi≤5000∧(0<deep→∀b rm:Nat,1≤rm→rm≤24→b≤a+3*(2+gi)+2→∃(qs:List Wa) (a':Nat),T5 qs∧qs≠[]∧t8 qs≤rm∧L7 qs+1≤deep∧(∀x∈R0 qs,x=n0)∧a'≤b+gi∧D3 n [.list (cs.map .int),.int (b:Nat),.int (rm:Nat),.int ((deep:Int) - 1),.list (L.map enL)]=some (.val (.tuple [.list (j0 qs),.int (a':Nat)]))):=by
   cases deep with
   |zero=>exact⟨0,by show 4*(2+0)≤8;lia,by lia,fun h=>absurd h (Nat.lt_irrefl 0)⟩
   |succ d=>
    have e:grw (d+1)=4*(2+grw d):=rfl
    refine⟨grw d,by lia,by lia,fun _ b rm h1 h2 h3=> ?_⟩
    obtain⟨qs,a',x1,x2,x3,x4,x5,x6,x7⟩:=b0e hcs hn0 hL hLo n d b rm (by lia) (by lia) h1 h2 (by lia) (by lia)
    exact⟨qs,a',x1,x2,x3,by lia,x5,x6,by rw [show((d+1:Nat):Int) - 1=(d:Int) by lia];exact x7⟩
  obtain⟨ρ1,e1,ps,a',left,q8,q9,q10,q11,x1,x2,x3,x4,x5,x6,x7,rfl⟩:=a0F (body:=C6 (D3 n)) (tg:=k7 8) (fun i ρ=>∃(ps:List Wa) (a' left:Nat) (q8 q9 q10 q11:Option f6),T5 ps∧(0<i→ps≠[])∧t8 ps+left=room∧L7 ps≤deep∧(∀x∈R0 ps,x=n0)∧a'≤a+i*(2+gi)∧ps.length≤i∧
   ρ=[some (.val (.list (cs.map .int))),some (.val (.int (a':Nat))),some (.val (.int (room:Nat))),some (.val (.int (deep:Nat))),some (.val (.list (L.map enL))),some (.own (j0 ps)),some (.val (.int (left:Nat))),some (.val (.int (mn:Nat))),q8,q9,q10,q11])
   (ps:=a1N 0 ((mn:Nat):Int)) (ρ:=[some (.val (.list (cs.map .int))),some (.val (.int (a:Nat))),some (.val (.int (room:Nat))),some (.val (.int (deep:Nat))),some (.val (.list (L.map enL))),some (.own []),some (.val (.int (room:Nat))),some (.val (.int (mn:Nat))),none,none,none,none])
   (by
    rintro i p hp ρ ⟨ps,a',left,q8,q9,q10,q11,x1,x2,x3,x4,x5,x6,x7,rfl⟩
    obtain⟨rfl,hi⟩:=a66 hp
    have hi4:i<4:=by lia
    have hb:i*(2+gi)≤3*(2+gi):=Nat.mul_le_mul_right _ (by lia)
    have e5:(i+1)*(2+gi)=i*(2+gi)+(2+gi):=Nat.succ_mul _ _
    by_cases hl:0<left
    ·obtain⟨p,b,left',r9,r10,r11,y1,y2,y3,y4,y5,y6⟩:=b4B (R:=D3 n) hcs hn0 hL hLo (deep:=deep) (g:=gi) (B:=a+3*(2+gi)+2) hd hR (a:=a') (left:=left) (by lia) (by lia) hl (by lia) (acc:=j0 ps) (by rw [b3n];lia) (some (.val (.int (room:Nat)))) (some (.val (.int (mn:Nat)))) (some (.val (.int ((0:Int)+(i:Int))))) q9 q10 q11
     refine a1Q rfl y6 ⟨ps++[p],b,left',some (.val (.int ((0:Int)+(i:Int)))),r9,r10,r11,b2Q x1 y1,fun _=>by simp,by rw [b0V];lia,b0M x4 y2,fun x hx=> ?_,by lia,by rw [AX,List.length_singleton];lia,by rw [b6h]⟩
     rw [b0X] at hx
     rcases Av.mp hx with h|h
     ·exact x5 x h
     ·exact y4 x h
    ·have p0:decide ((0:Int)<(left:Int))=false:=decide_eq_false (by lia)
     refine a1Q rfl (ρ2:=[some (.val (.list (cs.map .int))),some (.val (.int (a':Nat))),some (.val (.int (room:Nat))),some (.val (.int (deep:Nat))),some (.val (.list (L.map enL))),some (.own (j0 ps)),some (.val (.int (left:Nat))),some (.val (.int (mn:Nat))),some (.val (.int ((0:Int)+(i:Int)))),q9,q10,q11]) ?_ ⟨ps,a',left,_,q9,q10,q11,x1,fun _ z=>by
      subst z
      rw [t8] at x3
      lia,x3,x4,x5,by lia,by lia,rfl⟩
     show C6 (D3 n) [some (.val (.list (cs.map .int))),some (.val (.int (a':Nat))),some (.val (.int (room:Nat))),some (.val (.int (deep:Nat))),some (.val (.list (L.map enL))),some (.own (j0 ps)),some (.val (.int (left:Nat))),some (.val (.int (mn:Nat))),some (.val (.int ((0:Int)+(i:Int)))),q9,q10,q11]=_
     unfold C6
     simp (disch:=omega) only [A6,d6,d4,c7,e7,d8,n5,i4,f7,h9,AD,p0]) ⟨[],a,room,none,none,none,none,by rw [T5];trivial,fun h=>absurd h (Nat.lt_irrefl 0),by rw [t8];lia,by rw [L7];lia,(fun x hx=>by rw [R0] at hx;cases hx),by simp,AZ _,by rw [j0]⟩
  have hlen:(a1N 0 ((mn:Nat):Int)).length=mn:=by rw [a5w,Ae,BA]
  rw [hlen] at x2 x6
  have hb:mn*(2+gi)≤4*(2+gi):=Nat.mul_le_mul_right _ mn2
  refine⟨ps,a',x1,x2 (by lia),by lia,x4,x5,by lia, ?_⟩
  have fz:∀(nn:MS) (s0 s1 s2 s3 s4 s6 s7 s8 s9 s10 s11:Option f6) (L:List PV),a7J 5 nn [s0,s1,s2,s3,s4,some (.ow (.lst L)),s6,s7,s8,s9,s10,s11]=nn [s0,s1,s2,s3,s4,some (.val (.list L)),s6,s7,s8,s9,s10,s11]:=fun _ _ _ _ _ _ _ _ _ _ _ _ _=>rfl
  show k9 7 (a0X (D3 n)) [.list (cs.map .int),.int (a:Nat),.int (room:Nat),.int (deep:Nat),.list (L.map enL)]=_
  unfold a0X
  simp (disch:=omega) only [m7,R6,z5,d6,m6,d4,c7,e7,d0,c9,c8,z7,A9,e8,g5,j4,W7,i3,j7,d7,g7,g6,i5,z6,Y2,a2C,AD,AH,AR,AW,AO,AN,AQ,AS,AT,AV,Af,↓reduceIte,sz,Nat.reduceAdd,Ai,gl,hc,eN,emn,e1,fz]
theorem b8r(ns:List Int)(hn:ns.length≤63){a:Nat}(ha:a≤60):∃ws:List Wa,T5 ws∧ws≠[]∧t8 ws≤24∧b7z (R0 ws)∧a2x [.list (ns.map .int),.int (a:Nat)]=some (.val (.list (j0 ws))):=by
 obtain⟨L,n0,l1,l2,l3,l4,l5,eL⟩:=b7n ns hn ha
 have gs:=b2h ns (some (a:Nat)) none
 have hcut:=a8I ns (some ((a:Nat):Int)) none
 have cat:u7 (.own ((cut ns (some ((a:Nat):Int)) none).map .int)) (.own [.int 4])=some (.own ((cut ns (some ((a:Nat):Int)) none++[4]).map .int)):=by
  rw [b1x (by rw [Ae,sizeLine_eq];simp only [AV,Af];lia),As]
  rfl
 have hcs:0<(cut ns (some ((a:Nat):Int)) none++[4]).length:=by rw [AX,List.length_singleton];lia
 generalize cut ns (some ((a:Nat):Int)) none++[4]=cs at cat hcs
 obtain⟨c,hc⟩:=a7x (ns:=ns) (k:=((a+2:Nat):Int)) (by lia)
 obtain⟨N,hN,eN⟩:=Y3 c
 have e1:(a:Int)+2=((a+2:Nat):Int):=by lia
 have hx:∃room:Nat,1≤room∧room≤24∧m9 (.own [.int 24,.int 12,.int 6,.int 5]) (.val (.int (N / 3 % 4)))=some (.val (.int (room:Nat))):=by
  have:N / 3 % 4=0∨N / 3 % 4=1∨N / 3 % 4=2∨N / 3 % 4=3:=by lia
  rcases this with e|e|e|e<;>rw [e]
  ·exact⟨24,by lia,by lia,rfl⟩
  ·exact⟨12,by lia,by lia,rfl⟩
  ·exact⟨6,by lia,by lia,rfl⟩
  ·exact⟨5,by lia,by lia,rfl⟩
 obtain⟨room,hr1,hr2,hx⟩:=hx
 obtain⟨ws,a',x1,x2,x3,x4,x5,_,x7⟩:=b0e hcs l4 l1 l5 6 2 0 room (by lia) (by lia) hr1 hr2 (by decide) (by decide)
 have x7:a2V [.list (cs.map .int),.int 0,.int (room:Nat),.int 2,.list (L.map enL)]=_:=x7
 have fz:∀(nn:MS) (s0 s1 s3:Option f6) (L:List PV),a7J 2 nn [s0,s1,some (.ow (.lst L)),s3]=nn [s0,s1,some (.val (.list L)),s3]:=fun _ _ _ _ _=>rfl
 refine⟨ws,x1,x2,by lia,⟨fun z=> ?_,fun x hx y hy=>by rw [x5 x hx,x5 y hy]⟩, ?_⟩
 ·have h1:=a1l ws
  have h2:=a4P x2 x1
  obtain⟨l,hl⟩:∃l,l∈V6 ws:=List.exists_mem_of_ne_nil _ (fun z=>by rw [z] at h1;simp at h1;lia)
  have:=a7h hl
  rw [z] at this
  cases this
 ·unfold a2x a76
  simp (disch:=omega) only [m7,z5,G8,Z9,d6,d4,c7,e7,d0,c9,c8,a5B,A9,e8,g5,j4,W7,i3,j7,d7,g7,g6,i5,AD,AH,AR,AW,AO,AN,AQ,AS,AT,AV,Af,↓reduceIte,p3,B8,a0J,R7,sz,Nat.reduceAdd,Ai,eL,e1,hc,eN,hx,fz,gs,cat,x7]
theorem c0s(w:List Nat)(j:Nat):cut w none (some (j:Int))=w.take j:=by
 unfold cut
 rw [HT.sIx_none,HT.sIx_nat,List.drop_zero,Nat.sub_zero]
 by_cases h:j≤w.length
 ·rw [Nat.min_eq_left h]
 ·rw [Nat.min_eq_right (by lia),List.take_of_length_le (AZ _),List.take_of_length_le (by lia)]
theorem b2F(w:List Nat)(j:Nat):cut w (some (j:Int)) none=w.drop j:=by
 unfold cut
 rw [HT.sIx_none,HT.sIx_nat]
 by_cases h:j≤w.length
 ·rw [Nat.min_eq_left h,List.take_of_length_le (by rw [List.length_drop];exact AZ _)]
 ·rw [Nat.min_eq_right (by lia),List.drop_of_length_le (AZ _),List.drop_of_length_le (by lia)]
  simp
theorem b4u{w v:List Nat}{lo hi:Option Int}(hl:w.length≤10000)(h:cut w lo hi=v):gSl (.val (row w)) lo hi=some (.val (row v)):=by
 show(if(S w).length≤AU then some (f6.val (.str ⟨(cut (S w).cps.toList lo hi).toArray⟩)) else none)=_
 rw [a1x,if_pos (by rw [sizeLine_eq];lia),a4b,h]
 rfl
theorem c2Z:a4l [97]=none:=by rfl
theorem c20:a4l [91,97,93,49]=none:=by rfl
theorem c21:a4l [123,91,97,93,125]=none:=by rfl
abbrev sgL:List Nat:=[97,98,49,50,51,48,32,91,93,123,125,40,41,120,93,32,123,65,10]
theorem c2F:AY "ab1230 []{}()x] {A\n"=S sgL:=by decide+kernel
theorem b4w{t:List Nat}(hl:t.length≤3900){N:Int}(hN:0≤N):∃u:List Nat,u.length≤3990∧Q3 [row t,.int N]=some (.val (row u)):=by
 have gl:=M6 (l:=t) (by omega)
 obtain⟨a,ea,ha⟩:∃a:Nat,N / 3 %((t.length:Int)+1)=(a:Int)∧a≤t.length:=⟨(N / 3 %((t.length:Int)+1)).toNat,by
  have:=Int.emod_nonneg (N / 3) (show((t.length:Int)+1)≠0 by lia)
  lia,by
  have h1:=Int.emod_lt_of_pos (N / 3) (show 0<((t.length:Int)+1) by lia)
  have h2:=Int.emod_nonneg (N / 3) (show((t.length:Int)+1)≠0 by lia)
  lia⟩
 obtain⟨j,ej,hj⟩:∃j:Nat,N / 900 % 18=(j:Int)∧j<18:=⟨(N / 900 % 18).toNat,by lia,by lia⟩
 have hjl:j<sgL.length:=Aq hj (by decide)
 have isg:m9 (.val (.str (AY "ab1230 []{}()x] {A\n"))) (.val (.int (j:Nat)))=some (.val (row [sgL[j]])):=by
  rw [c2F]
  exact b66 (by decide) (by rw [b2B,Ax hjl])
 generalize sgL[j]=c at isg
 have e1:(a:Int)+1=((a+1:Nat):Int):=by lia
 have sl1:gSl (.val (row t)) none (some (a:Nat))=some (.val (row (t.take a))):=b4u (by lia) (c0s _ _)
 have sl2:gSl (.val (row t)) (some ((a+1:Nat):Int)) none=some (.val (row (t.drop (a+1)))):=b4u (by lia) (b2F _ _)
 have sl3:gSl (.val (row t)) (some (a:Nat)) none=some (.val (row (t.drop a))):=b4u (by lia) (b2F _ _)
 have lt:(t.take a).length≤3900:=by rw [List.length_take];lia
 have ld:(t.drop (a+1)).length≤3900:=by rw [List.length_drop];lia
 have ld2:(t.drop a).length≤3900∧(t.take a).length+(t.drop a).length=t.length:=by rw [List.length_drop,List.length_take];lia
 have ld3:(t.take a).length+(t.drop (a+1)).length≤t.length:=by rw [List.length_drop,List.length_take];lia
 have a1:=E7 (l:=t.take a) (k:=t.drop (a+1)) (by lia)
 have a2:=E7 (l:=t.take a) (k:=[c]) (by simp only [List.length_singleton];lia)
 have a3:=E7 (l:=t.take a++[c]) (k:=t.drop (a+1)) (by simp only [AX,List.length_singleton];lia)
 have a4:=E7 (l:=t.take a++[c]) (k:=t.drop a) (by simp only [AX,List.length_singleton];lia)
 obtain⟨w,ew,hw⟩:∃w:Nat,N % 3=(w:Int)∧w<3:=⟨(N % 3).toNat,by lia,by lia⟩
 by_cases w0:w=0
 ·subst w0
  refine⟨t.take a++t.drop (a+1),by rw [AX];lia, ?_⟩
  have c0:(N % 3==0)=true:=by rw [ew];rfl
  unfold Q3 a0V
  simp (disch:=omega) only [m7,z5,G8,d6,m6,d4,c7,e7,g5,j4,i3,j7,d7,g7,o0,d8,p9,g6,i5,f7,h9,AD,AH,AR,AW,AO,AN,AQ,AS,AT,p3,B8,a0J,R7,P0,gl,ea,ej,isg,c0,p3,sl1,e1,sl2,a1]
  try rfl
 ·have c0:(N % 3==0)=false:=by rw [ew,beq_eq_false_iff_ne];lia
  by_cases w1:w=1
  ·subst w1
   refine⟨t.take a++[c]++t.drop (a+1),by simp only [AX,List.length_singleton];lia, ?_⟩
   have c1:(N % 3==1)=true:=by rw [ew];rfl
   unfold Q3 a0V
   simp (disch:=omega) only [m7,z5,G8,d6,m6,d4,c7,e7,g5,j4,i3,j7,d7,g7,o0,d8,p9,n5,i4,g6,i5,f7,h9,AD,AH,AR,AW,AO,AN,AQ,AS,AT,p3,B8,a0J,R7,P0,gl,ea,ej,isg,c0,c1,p3,sl1,e1,sl2,a2,a3]
   try rfl
  ·have c1:(N % 3==1)=false:=by rw [ew,beq_eq_false_iff_ne];lia
   refine⟨t.take a++[c]++t.drop a,by simp only [AX,List.length_singleton];lia, ?_⟩
   unfold Q3 a0V
   simp (disch:=omega) only [m7,z5,G8,d6,m6,d4,c7,e7,g5,j4,i3,j7,d7,g7,d8,n5,i4,g6,i5,f7,h9,AD,AH,AR,AW,AO,AN,AQ,AS,AT,p3,B8,a0J,R7,P0,gl,ea,ej,isg,c0,c1,p3,sl1,sl3,a2,a4]
   try rfl
abbrev L8x:List PV:=[.none,.int 5,.list [.str (AY "[a]")],.list [.tuple [.str (AY "rows"),.int 1,.list [.tuple [.str (AY "run"),.str (AY "a"),.int 1]]]],.bool true,.str (AY "a"),.str (AY "[a]1"),.str (AY "{[a]}")]
theorem c1F:∀p∈L8x,a1I "str" (.val p)=some (.val (.bool false))∨∃t,p=row t∧t.length≤3990∧a4l t=none:=by
 intro p hp
 simp only [L8x,Am,List.not_mem_nil,or_false] at hp
 rcases hp with rfl|rfl|rfl|rfl|rfl|rfl|rfl|rfl
 ·exact .inl rfl
 ·exact .inl rfl
 ·exact .inl rfl
 ·exact .inl rfl
 ·exact .inl rfl
 ·exact .inr ⟨[97],rfl,by decide,c2Z⟩
 ·exact .inr ⟨[91,97,93,49],rfl,by decide,c20⟩
 ·exact .inr ⟨[123,91,97,93,125],rfl,by decide,c21⟩
theorem c2x{t:List Nat}(hl:t.length≤3900)(c:Int)(q0 q2 q3 q5 q6:Option f6):∃q5' q6',a6N [q0,some (.val (row t)),q2,q3,some (.val (.int c)),q5,q6]=some (.nx [q0,some (.val (row t)),q2,q3,some (.val (.int c)),q5',q6']):=by
 obtain⟨N,hN,en⟩:=Y3 c
 obtain⟨u,ul,es⟩:=b4w hl hN
 have rt:=b70 ul
 obtain⟨i,ei,hi⟩:∃i:Nat,N % 8=(i:Int)∧i<8:=⟨(N % 8).toNat,by lia,by lia⟩
 have hil:i<L8x.length:=hi
 have ix:m9 (.bor L8x) (.val (.int (i:Nat)))=some (.val L8x[i]):=b4X (by rw [b2B,Ax hil])
 have nt:=b4f (c1F _ (List.getElem_mem hil))
 generalize L8x[i]=p at ix nt
 refine⟨some (.val (.int N)),some (.own L8x), ?_⟩
 unfold a6N
 simp (disch:=omega) only [z5,d6,d4,c7,a1M,e7,d0,c9,c8,a5B,z7,A9,e8,g5,j4,W7,d7,g7,d8,n5,i4,n8,B1,j3,AD,Ah,AS,AT,AV,Af,↓reduceIte,Bool.not_true,sz,Nat.reduceAdd,Ai,en,es,rt,ei,ix,nt]
 try rfl
theorem c2w{ns:List Int}(hn:ns.length≤63){i:Nat}(hi:i<4)(q1 q3 q4 q5 q6:Option f6):∃(t:List Nat) (q3':Option f6),t.length≤3900∧a6M [some (.val (.list (ns.map .int))),q1,some (.val (.int (0+(i:Int)))),q3,q4,q5,q6]=some (.nx [some (.val (.list (ns.map .int))),some (.val (row t)),some (.val (.int (0+(i:Int)))),q3',q4,q5,q6]):=by
 obtain⟨ws,g,ne,hk,o,ew⟩:=b8r ns hn (a:=20*i) (by lia)
 have e1:20*(0+(i:Int))=((20*i:Nat):Int):=by lia
 have hd:=a60 (a8J ne g) hk
 have tx:=a9r 16 ws g hk (by lia)
 have tx:a16 [.list (j0 ws)]=_:=tx
 have u1:=b8p 6 ws g hk (by lia)
 have u1:a7H [.list (j0 ws)]=_:=u1
 have u2:=a8R 16 ws g hk (by lia)
 have u2:K9 [.list (j0 ws)]=_:=u2
 have p1:=b3I 6 ws g (by lia)
 have p1:a19 [.list (j0 ws)]=_:=p1
 have p2:=b0Y 6 ws g (by lia)
 have p2:a4H [.list (j0 ws)]=_:=p2
 have s1:=b8c 30 ws g hk (by lia)
 have s1:a1o [.list (j0 ws)]=_:=s1
 have hl:=b8a g
 have rd0:=a9X (t:=O5 ws) (by lia)
 rw [b7Y g ne (by lia) hk o] at rd0
 have rd0:left p7 [row (O5 ws)]=some (.val (.list (j0 ws))):=by
  unfold left
  rw [rd0]
  rfl
 have n1:gNe (.val (.tuple ((V6 ws).map row))) (.val (.tuple ((V6 ws).map row)))=some (.val (.bool false)):=S8 (by
  show N6 ((V6 ws).map row) 49=true
  exact a3f fun p hp=>by obtain⟨l,_,rfl⟩:=Au.mp hp;rfl)
 have n2:gNe (.val (.int (a2M ws:Nat))) (.val (.int (a2M ws:Nat)))=some (.val (.bool false)):=S8 rfl
 have n3:gNe (.val (row (O5 ws))) (.val (row (O5 ws)))=some (.val (.bool false)):=S8 rfl
 have n4:gNe (.val (.list (j0 ws))) (.val (.list (j0 ws)))=some (.val (.bool false)):=S8 (show N6 (j0 ws) 49=true from b3J g ne hk)
 refine⟨O5 ws,some (.val (.list (j0 ws))),by lia, ?_⟩
 unfold a6M
 simp (disch:=omega) only [R6,d6,d4,c7,e7,d0,c9,c8,e8,g5,j4,d7,g7,d8,n5,i4,f7,h9,m8,J9,AD,AS,AT,e1,ew,tx,u1,u2,n1,p1,p2,n2,s1,n3,rd0,n4]
 try rfl
theorem main:∀ns:List Int,ns.length≤63→b7a [.list (ns.map .int)]=some (.val (.bool true)):=by
 intro ns hl
 obtain⟨ρ1,e1,t,q2,q3,ht,rfl⟩:=a0F (body:=a6M) (tg:=k7 2) (fun _ ρ=>∃(t:List Nat) (q2 q3:Option f6),t.length≤3900∧ρ=[some (.val (.list (ns.map .int))),some (.val (row t)),q2,q3,none,none,none])
  (ps:=a1N 0 4) (ρ:=[some (.val (.list (ns.map .int))),some (.val (row [])),none,none,none,none,none])
  (by
   rintro i p hp ρ ⟨t,q2,q3,ht,rfl⟩
   obtain⟨rfl,hi⟩:=a66 hp
   obtain⟨t',q3',ht',e⟩:=c2w hl (i:=i) (by lia) (some (.val (row t))) q3 none none none
   exact a1Q rfl e ⟨t',_,_,ht',rfl⟩) ⟨[],none,none,by simp,rfl⟩
 have gs:=b2h ns none (some 40)
 have hc:=a8I ns none (some 40)
 have cat:u7 (.own ((cut ns none (some 40)).map .int)) (.own [.int 3])=some (.own ((cut ns none (some 40)++[3]).map .int)):=by
  rw [b1x (by rw [Ae,sizeLine_eq];simp only [AV,Af];lia),As]
  rfl
 generalize cut ns none (some 40)++[3]=cs at cat
 obtain⟨ρ2,e2,q4,q5,q6,rfl⟩:=a0F (body:=a6N) (tg:=k7 4) (fun _ ρ=>∃q4 q5 q6:Option f6,ρ=[some (.val (.list (ns.map .int))),some (.val (row t)),q2,q3,q4,q5,q6])
  (ps:=cs.map .int) (ρ:=[some (.val (.list (ns.map .int))),some (.val (row t)),q2,q3,none,none,none])
  (by
   rintro i p hp ρ ⟨q4,q5,q6,rfl⟩
   obtain⟨c,_,rfl⟩:=Au.mp (BD hp)
   obtain⟨q5',q6',e⟩:=c2x (t:=t) ht c (some (.val (.list (ns.map .int)))) q2 q3 q5 q6
   exact a1Q rfl e ⟨_,_,_,rfl⟩) ⟨none,none,none,rfl⟩
 have hit:PyData.items? (.list (cs.map .int))=some (cs.map .int):=rfl
 have s0:AY ""=S []:=rfl
 unfold b7a b9U
 rw [s0]
 simp (disch:=omega) only [d6,d4,c7,d0,c9,c8,a5B,A9,g5,j4,i3,j7,d7,g7,g6,i5,z6,Y2,a2C,AD,AH,AR,AW,AO,AN,AQ,AS,AT,AV,Af,↓reduceIte,A7,p3,B8,a0J,R7,sz,Nat.reduceAdd,Ai,e1,gs,cat,hit,e2]
 try rfl
end LW
set_option maxHeartbeats 4000000
namespace LW
open PySem PySem.Spec PyProof.Rows L2 PU
seal L2.PE L2.PS L2.PSs L2.PT L2.PW L2.PA L2.PG L2.PGs L2.PI
def top(i:Nat):Stmt:=PySem.Challenge.pw_carpetkin_k34_weavings_written.main.body.getD i (.Pass ⟨0,0,0,0⟩)
abbrev a3Y:Stmt:=top 40
theorem a5V:j8 ["_law_cell"] ["_law_cell"] (g8 a3Y):=mkS
theorem a6T:List.Nodup (α:=Str) ["_law_fold_here","_law_parts","_law_part","_law_turn"]:=by decide+kernel
theorem a6U:List.Nodup (α:=Str) ["_law_fold_here","_law_parts","_law_part","_law_turn"]:=by decide+kernel
abbrev a0m:Stmt:=top 42
theorem a1v:j8 ["_law_fold_here","_law_parts","_law_part"] ["_law_fold_here"] (g8 a0m):=mkS
abbrev a3X:Stmt:=top 41
theorem a5e:j8 ["_law_cells","_law_at","_law_room","_law_deep","_law_fold_here","_law_left","_law_many","_law_turn","_law_number_here","_law_k","_law_inner"] ["_law_cells","_law_at","_law_room","_law_deep"] (g8 a3X):=mkS
abbrev a21:Stmt:=top 39
theorem a5c:j8 ["_law_script","_law_k"] ["_law_script","_law_k"] (g8 a21):=mkS
abbrev a43:Stmt:=top 44
theorem a67:j8 ["_law_script","_law_at","_law_most","_law_cells","_law_room"] ["_law_script","_law_at","_law_most"] (g8 a43):=mkS
abbrev a7T:Stmt:=top 48
theorem a94:j8 ["_law_line","_law_fold_here","_law_sign"] ["_law_line"] (g8 a7T):=mkS
theorem a9z:List.Nodup (α:=Str) ["_law_script","_law_at","_law_first","_law_line","_law_found","_law_k","_law_other","_law_own","_law_c"]:=by decide+kernel
abbrev a44:Stmt:=top 49
theorem a68:j8 ["_law_script","_law_at","_law_first","_law_line","_law_found","_law_k","_law_other","_law_own"] ["_law_script","_law_at"] (g8 a44):=mkS
abbrev a03:Stmt:=top 51
theorem a2j:j8 ["_law_weaving_here","_law_rows","_law_part","_law_turn"] ["_law_weaving_here"] (g8 a03):=mkS
abbrev a04:Stmt:=top 50
theorem a2k:j8 ["_law_cells","_law_at","_law_room","_law_deep","_law_lines_here","_law_weaving_here","_law_left","_law_many","_law_turn","_law_number_here","_law_k","_law_inner"] ["_law_cells","_law_at","_law_room","_law_deep","_law_lines_here"] (g8 a04):=mkS
abbrev a46:Stmt:=top 53
theorem a7a:j8 ["_law_script","_law_at","_law_lines_here","_law_room"] ["_law_script","_law_at"] (g8 a46):=mkS
abbrev a2F:Stmt:=top 45
theorem a34:j8 ["_law_fold_here","_law_words","_law_part"] ["_law_fold_here"] (g8 a2F):=mkS
abbrev a3Z:Stmt:=top 54
theorem a5h:j8 ["_law_weaving_here","_law_words","_law_part","_law_word"] ["_law_weaving_here"] (g8 a3Z):=mkS
abbrev a7V:Stmt:=top 7
theorem a96:j8 ["text","at","first","last","end"] ["text","at","first","last"] (g8 a7V):=mkS
abbrev a20:Stmt:=top 8
theorem a5a:j8 ["text","at"] ["text","at"] (g8 a20):=mkS
abbrev a47:Stmt:=top 9
theorem a7b:j8 ["word"] ["word"] (g8 a47):=mkS
abbrev a0L:Stmt:=top 10
theorem a2H:j8 ["word","least","most","number"] ["word","least","most"] (g8 a0L):=mkS
abbrev a6o:Stmt:=top 21
theorem a8k:j8 ["text","at","end","many"] ["text","at"] (g8 a6o):=mkS
abbrev a93:Stmt:=top 16
theorem b1e:j8 ["colour","many"] ["colour","many"] (g8 a93):=mkS
abbrev a3U:Stmt:=top 23
theorem a49:j8 ["text","at","left","part_at","closing","found","times"] ["text","at","left","part_at","closing"] (g8 a3U):=mkS
abbrev J5:Stmt:=top 24
theorem a1u:j8 ["text","at","left","times"] ["text","at","left"] (g8 J5):=mkS
abbrev a30:Stmt:=top 22
theorem a5i:j8 ["text","at","left","part_at","parts","found"] ["text","at","left","part_at"] (g8 a30):=mkS
abbrev a3V:Stmt:=top 25
theorem a5b:j8 ["fold","many","part"] ["fold"] (g8 a3V):=mkS
abbrev a48:Stmt:=top 26
theorem a7c:j8 ["text","found"] ["text"] (g8 a48):=mkS
abbrev a7U:Stmt:=top 33
theorem a95:j8 ["text","at","end","fold","times"] ["text","at"] (g8 a7U):=mkS
abbrev a2D:Stmt:=top 23
theorem a32:j8 ["text","at","left","part_at","closing","found","times"] ["text","at","left","part_at","closing"] (g8 a2D):=mkS
abbrev a2G:Stmt:=top 22
theorem a35:j8 ["text","at","left","part_at","parts","found"] ["text","at","left","part_at"] (g8 a2G):=mkS
abbrev B9:Stmt:=top 34
theorem X3:j8 ["text","at","left"] ["text","at","left"] (g8 B9):=mkS
abbrev a5x:Stmt:=top 35
theorem a6p:j8 ["weaving","many","part"] ["weaving"] (g8 a5x):=mkS
theorem b0o:List.Nodup (α:=Str) ["fold","part"]:=by decide+kernel
abbrev a31:Stmt:=top 14
theorem a5j:j8 ["fold"] ["fold"] (g8 a31):=mkS
abbrev W5:Stmt:=top 13
theorem a0N:j8 ["part"] ["part"] (g8 W5):=mkS
abbrev a1O:Stmt:=top 36
theorem a24:j8 ["weaving","lengths","part"] ["weaving"] (g8 a1O):=mkS
abbrev a2g:Stmt:=top 37
theorem a4n:j8 ["text","found"] ["text"] (g8 a2g):=mkS
abbrev a2f:Stmt:=top 46
theorem a4m:j8 ["_law_found","_law_least"] ["_law_found","_law_least"] (g8 a2f):=mkS
abbrev a02:Stmt:=top 47
theorem a2i:j8 ["_law_fold_here","_law_part"] ["_law_fold_here"] (g8 a02):=mkS
abbrev U3:Stmt:=top 55
theorem a0p:j8 ["_law_weaving_here","_law_part"] ["_law_weaving_here"] (g8 U3):=mkS
theorem a9A:List.Nodup (α:=Str) ["_law_text_here","_law_found","e","_law_cloth","_law_row"]:=by decide+kernel
abbrev a45:Stmt:=top 57
theorem a69:j8 ["_law_text_here","_law_found","e","_law_cloth"] ["_law_text_here"] (g8 a45):=mkS
abbrev a22:Stmt:=top 58
theorem a5f:j8 ["_law_thing"] ["_law_thing"] (g8 a22):=mkS
abbrev a5y:Stmt:=top 28
theorem a6q:j8 ["weaving","cloth","part"] ["weaving"] (g8 a5y):=mkS
abbrev b2d:Stmt:=top 15
theorem b2e:j8 ["fold","many","part"] ["fold"] (g8 b2d):=mkS
abbrev a0n:Stmt:=top 29
theorem a1w:j8 ["weaving","many","part"] ["weaving"] (g8 a0n):=mkS
abbrev a3W:Stmt:=top 43
theorem a5d:j8 ["_law_fold_here","_law_found","_law_part"] ["_law_fold_here"] (g8 a3W):=mkS
abbrev a2E:Stmt:=top 52
theorem a33:j8 ["_law_weaving_here","_law_found","_law_part"] ["_law_weaving_here"] (g8 a2E):=mkS
abbrev a1t:Stmt:=top 17
theorem a3p:j8 ["many"] ["many"] (g8 a1t):=mkS
theorem a8s:List.Nodup (α:=Str) ["fold","part"]:=by decide+kernel
abbrev a1P:Stmt:=top 20
theorem a25:j8 ["fold"] ["fold"] (g8 a1P):=mkS
abbrev O3:Stmt:=top 18
theorem U4:j8 ["part"] ["part"] (g8 O3):=mkS
abbrev J8:Stmt:=top 30
theorem O4:j8 ["part"] ["part"] (g8 J8):=mkS
theorem a6i:List.Nodup (α:=Str) ["weaving","part"]:=by decide+kernel
abbrev W4:Stmt:=top 32
theorem a0M:j8 ["weaving"] ["weaving"] (g8 W4):=mkS
abbrev a23:Stmt:=top 56
theorem a5g:j8 ["_law_text_here","_law_number_here","_law_way","_law_at","_law_sign"] ["_law_text_here","_law_number_here"] (g8 a23):=mkS
abbrev b74:Stmt:=top 59
theorem b75:j8 ["_law_script","_law_text_here","_law_k","_law_weaving_here","_law_cell","_law_number_here","_law_some"] ["_law_script"] (g8 b74):=mkS
structure MoB(K:AE)(mg:Str→Option AA):Prop where
 z_ValueError:mg "ValueError"=none
 z_bool:mg "bool"=none
 z_int:mg "int"=none
 z_isinstance:mg "isinstance"=none
 z_len:mg "len"=none
 z_list:mg "list"=none
 z_min:mg "min"=none
 z_range:mg "range"=none
 z_set:mg "set"=none
 z_str:mg "str"=none
 z_tuple:mg "tuple"=none
section
variable (P:AK)(w:AJ)(K:AE)(mg:Str→Option AA)(base:Heap)
abbrev E4:Prop:=i8 P w K mg base "_law_number" ["_law_cell"] 1 B4
abbrev S3:Prop:=i8 P w K mg base "_law_unfolded" ["_law_fold_here"] 17 B5
abbrev b3O:Prop:=i8 P w K mg base "_law_fold" ["_law_cells","_law_at","_law_room","_law_deep"] 23 a6e
abbrev a0S:Prop:=i8 P w K mg base "_law_cell_at" ["_law_script","_law_k"] 1 Q2
abbrev a7X:Prop:=i8 P w K mg base "_law_drawn" ["_law_script","_law_at","_law_most"] 24 a08
abbrev b0A:Prop:=i8 P w K mg base "_law_run" ["_law_line"] 1 a3h
abbrev a7Y:Prop:=i8 P w K mg base "_law_lines" ["_law_script","_law_at"] 25 a2w
abbrev a0T:Prop:=i8 P w K mg base "_law_unwoven" ["_law_weaving_here"] 33 K9
abbrev b0j:Prop:=i8 P w K mg base "_law_weaving" ["_law_cells","_law_at","_law_room","_law_deep","_law_lines_here"] 39 a2V
abbrev a71:Prop:=i8 P w K mg base "_law_woven" ["_law_script","_law_at"] 40 a2x
abbrev a70:Prop:=i8 P w K mg base "_law_shown" ["_law_fold_here"] 17 a4I
abbrev a82:Prop:=i8 P w K mg base "_law_text" ["_law_weaving_here"] 33 a16
abbrev b0B:Prop:=i8 P w K mg base "run_end" ["text","at","first","last"] 1 a7G
abbrev a2J:Prop:=i8 P w K mg base "figures_end" ["text","at"] 2 Q1
abbrev a72:Prop:=i8 P w K mg base "number_in" ["word"] 3 a2y
abbrev a28:Prop:=i8 P w K mg base "number_between" ["word","least","most"] 4 G4
abbrev W6:Prop:=i8 P w K mg base "times_at" ["text","at"] 5 v6
abbrev a83:Prop:=i8 P w K mg base "run_of" ["colour","many"] 1 a9j
abbrev a80:Prop:=i8 P w K mg base "fold_part_at" ["text","at","left"] 47 a9i
structure a3w(k:Nat)(R_again_at o8 w6:List PV→Option f6):Prop where
 d_again_at:i8 P w K mg base "again_at" ["text","at","left","part_at","closing"] k R_again_at
 d_fold_part_at:i8 P w K mg base "fold_part_at" ["text","at","left"] k o8
 d_parts_at:i8 P w K mg base "parts_at" ["text","at","left","part_at"] k w6
abbrev b3P:Prop:=i8 P w K mg base "parts_at" ["text","at","left","part_at"] 47 a17
abbrev b3N:Prop:=i8 P w K mg base "knots_in" ["fold"] 17 a6c
abbrev a73:Prop:=a7p P w K mg base "read_fold" ["text"] 48 N7
abbrev a7u:Prop:=i8 P w K mg base "rows_at" ["text","at"] 49 a3i
abbrev b2z:Prop:=i8 P w K mg base "parts_at" ["text","at","left","part_at"] 91 a1a
structure a2p(k:Nat)(R_again_atW v4 m5:List PV→Option f6):Prop where
 d_again_atW:i8 P w K mg base "again_at" ["text","at","left","part_at","closing"] k R_again_atW
 d_parts_atW:i8 P w K mg base "parts_at" ["text","at","left","part_at"] k v4
 d_weaving_part_at:i8 P w K mg base "weaving_part_at" ["text","at","left"] k m5
abbrev a6v:Prop:=i8 P w K mg base "weaving_part_at" ["text","at","left"] 91 a6I
abbrev b5C:Prop:=i8 P w K mg base "rows_in" ["weaving"] 17 a7F
abbrev a3y:Prop:=i8 P w K mg base "unfolded" ["fold"] 31 a18
structure a50(k:Nat)(D8 R_unfolded_part:List PV→Option f6):Prop where
 d_unfolded:i8 P w K mg base "unfolded" ["fold"] k D8
 d_unfolded_part:i8 P w K mg base "unfolded_part" ["part"] k R_unfolded_part
abbrev b1j:Prop:=i8 P w K mg base "lengths_in" ["weaving"] 47 a3J
abbrev Z2:Prop:=a7p P w K mg base "read_weaving" ["text"] 92 p7
abbrev S2:Prop:=i8 P w K mg base "_law_is_count" ["_law_found","_law_least"] 1 G9
abbrev a5N:Prop:=i8 P w K mg base "_law_is_fold" ["_law_fold_here"] 17 a2U
abbrev a7t:Prop:=i8 P w K mg base "_law_is_weaving" ["_law_weaving_here"] 33 a0G
abbrev a7Z:Prop:=i8 P w K mg base "_law_right" ["_law_text_here"] 93 a09
abbrev a5O:Prop:=i8 P w K mg base "_law_no_text" ["_law_thing"] 93 a0Y
abbrev b5D:Prop:=i8 P w K mg base "unwoven" ["weaving"] 37 a7H
abbrev b6w:Prop:=i8 P w K mg base "cost" ["fold"] 7 b32
abbrev a84:Prop:=i8 P w K mg base "weaving_cost" ["weaving"] 13 a19
abbrev a81:Prop:=i8 P w K mg base "_law_cost" ["_law_fold_here"] 7 a6d
abbrev b2y:Prop:=i8 P w K mg base "_law_price" ["_law_weaving_here"] 13 a4H
abbrev O8:Prop:=i8 P w K mg base "written_times" ["many"] 1 P3
abbrev a6u:Prop:=i8 P w K mg base "shown_fold" ["fold"] 31 a3K
structure a3x(k:Nat)(z8 R_shown_part_folds:List PV→Option f6):Prop where
 d_shown_fold:i8 P w K mg base "shown_fold" ["fold"] k z8
 d_shown_part_folds:i8 P w K mg base "shown_part_folds" ["part"] k R_shown_part_folds
structure Q9(k:Nat)(R_shown_part_weavings u4:List PV→Option f6):Prop where
 d_shown_part_weavings:i8 P w K mg base "shown_part_weavings" ["part"] k R_shown_part_weavings
 d_shown_weaving:i8 P w K mg base "shown_weaving" ["weaving"] k u4
abbrev a8l:Prop:=i8 P w K mg base "shown_weaving" ["weaving"] 61 a1o
abbrev a5P:Prop:=i8 P w K mg base "_law_spoiled" ["_law_text_here","_law_number_here"] 1 Q3
end
section
variable (P:AK)(w:AJ){K:AE}{mg:Str→Option AA}(base:Heap)
theorem b0t(D:Df K mg "_law_number" a3Y):E4 P w K mg base:=by
 refine k6 (k:=0) D a5V (fun _ _ _ _ _ _=>el1 (fun _=>rfl)) fun f cdv A outer s H E hr=> ?_
 have S:=a5V
 have hu:=hr.units
 exact(e9 (j1 (f9 x8 (f9 J3 (f9 i9 (f9 x8 (a8 0 (pv 0)) b8) b8) b8) b8)))
theorem a8A{k:Nat}(hk0:1≤k){y0:List PV→Option f6}(D:Df K mg "_law_unfolded" a0m)(M:MoB K mg)(t5:i8 P w K mg base "_law_unfolded" ["_law_fold_here"] k y0):i8 P w K mg base "_law_unfolded" ["_law_fold_here"] (k+1) (k9 2 (Z4 y0)):=by
 refine k6 (k:=k) D a1v (fun _ _ _ _ _ _=>el1 (fun _=>rfl)) fun f cdv A outer s H E hr=> ?_
 have S:=a1v
 have hu:=hr.units
 refine d5 ?_ ?_
 ·exact(j6 (i:=1) S.nd (G7 d9))
 refine d5 ?_ ?_
 ·refine X0 PassesOwn.never ?_ ?_ ?_ (v3 2) ?_
  ·exact rfl
  ·exact(a8 0 (pv 0))
  ·exact(u6 (i:=2) S.nd rfl (Or.inr rfl))
  refine e9 ?_
  refine p8 ?_ ?_ ?_
  ·exact(j9 (w8 hu) (i6 (a8 2 (pv 2)) b8) j2 (by first|rfl|exact j5 _))
  ·refine e9 ?_
   refine C0 1 (pv 1) ?_
   refine a1F ?_ ?_
   ·exact j2
   refine a3G (ys:=["_law_turn"]) (N0:=["_law_fold_here","_law_parts","_law_part"]) (fun _ _ h=>h) ?_ ⟨by kernel_rfl,rfl,of_decide_eq_true rfl,of_decide_eq_true rfl,of_decide_eq_true rfl⟩ ?_ (fun C fp pins s H=>u6 (i:=3) a6T rfl (Or.inl rfl)) (fun n h=>X5 (i:=3) (Nat.le_of_eq h)) (fun C fp pins s H=>a58) ?_
   ·exact rfl
   ·exact(b1s rfl M.z_range (a9 (i6 (a8 2 (pv 2)) b8) d9))
   intro C fp pins s H
   exact(i6 (a8 2 (pv 2)) b8)
  refine e9 ?_
  refine C0 1 (pv 1) ?_
  refine a1F ?_ ?_
  ·exact j2
  refine a3G (ys:=["_law_turn"]) (N0:=["_law_fold_here","_law_parts","_law_part"]) (fun _ _ h=>h) ?_ ⟨by kernel_rfl,rfl,of_decide_eq_true rfl,of_decide_eq_true rfl,of_decide_eq_true rfl⟩ ?_ (fun C fp pins s H=>u6 (i:=3) a6U rfl (Or.inl rfl)) (fun n h=>X5 (i:=3) (Nat.le_of_eq h)) (fun C fp pins s H=>a58) ?_
  ·exact rfl
  ·exact(b1s rfl M.z_range (a9 (i6 (a8 2 (pv 2)) b8) d9))
  intro C fp pins s H
  exact(i7 t5 hr (by lia) rfl (b9 g9) (a9 (i6 (a8 2 (pv 2)) b8) d9))
 exact(e9 (j1 (a1F j2 (a8 1 (pv 1)))))
theorem a7K(M0:Df K mg "_law_unfolded" a0m)(M:MoB K mg):∀n:Nat,i8 P w K mg base "_law_unfolded" ["_law_fold_here"] (1+n) (P4 n):=by
 intro n
 induction n with
 |zero=>exact k6 (k:=0) M0 a1v (fun _ _ _ _ _ _=>el1 (fun _=>rfl)) fun f cdv A outer s H E hr=>u3
 |succ n ih=>
  exact a8A P w base (Nat.le_add_right _ _) M0 M ih
theorem b3b{k:Nat}(hk0:17≤k){a0z:List PV→Option f6}(D:Df K mg "_law_fold" a3X)(M:MoB K mg)(o9:E4 P w K mg base)(t5:S3 P w K mg base)(a13:i8 P w K mg base "_law_fold" ["_law_cells","_law_at","_law_room","_law_deep"] k a0z):i8 P w K mg base "_law_fold" ["_law_cells","_law_at","_law_room","_law_deep"] (k+1) (k9 7 (a3B a0z)):=by
 refine k6 (k:=k) D a5e (fun _ _ _ _ _ _=>el4 (fun _ _ _ _=>rfl)) fun f cdv A outer s H E hr=> ?_
 have S:=a5e
 have hu:=hr.units
 refine d5 ?_ ?_
 ·exact(j6 (i:=4) S.nd (G7 d9))
 refine d5 ?_ ?_
 ·exact(j6 (i:=5) S.nd (a8 2 (pv 2)))
 refine d5 ?_ ?_
 ·exact(j6 (i:=6) S.nd (f9 i9 b8 (f9 x8 (i7 o9 hr (by lia) rfl (b9 g9) (a9 (f9 i9 (i6 (a8 0 (pv 0)) (f9 x8 (a8 1 (pv 1)) (N5 C8 rfl M.z_len (by rfl) (a8 0 (pv 0))))) (a8 1 (pv 1))) d9)) b8)))
 refine d5 ?_ ?_
 ·refine a4D PassesOwn.never ?_ ?_ M.z_range ?_ ?_ (v3 7) ?_
  ·exact rfl
  ·exact rfl
  ·exact(a9 (a8 6 (pv 6)) d9)
  ·exact(u6 (i:=7) S.nd rfl (Or.inl rfl))
  refine e9 ?_
  refine p8 ?_ ?_ ?_
  ·exact(j9 a2Z (a8 5 (pv 5)) b8 (by first|rfl|exact j5 _))
  ·refine d5 ?_ ?_
   ·exact(j6 (i:=1) S.nd (f9 i9 (a8 1 (pv 1)) b8))
   refine d5 ?_ ?_
   ·exact(j6 (i:=8) S.nd (i7 o9 hr (by lia) rfl (b9 g9) (a9 (f9 i9 (i6 (a8 0 (pv 0)) (f9 x8 (a8 1 (pv 1)) (N5 C8 rfl M.z_len (by rfl) (a8 0 (pv 0))))) (f9 J3 b8 (a8 1 (pv 1)))) d9)))
   refine e9 ?_
   refine p8 (PW.pt (a59 (j9 a2Z (a8 3 (pv 3)) b8 (by first|rfl|exact j5 _)) (a59 (j9 a2Z (a8 5 (pv 5)) b8 (by first|rfl|exact j5 _)) (a6E (j9 (w8 hu) (f9 x8 (a8 8 (pv 8)) b8) b8 (by first|rfl|exact j5 _)))))) ?_ ?_
   ·refine d5 ?_ ?_
    ·exact(j6 (i:=9) S.nd (f9 i9 b8 (f9 x8 (f9 D6 (a8 8 (pv 8)) b8) (b4K (b1p rfl) rfl M.z_min (by rfl) b8 (f9 a00 (a8 5 (pv 5)) b8)))))
    refine d5 ?_ ?_
    ·refine b6V (is:=[10,1]) ?_ ?_ ?_
     ·exact rfl
     ·exact(i7 a13 hr (by lia) rfl (b9 (b9 (b9 (b9 g9)))) (a9 (a8 0 (pv 0)) (a9 (f9 i9 (a8 1 (pv 1)) b8) (a9 (f9 D6 (a8 5 (pv 5)) (a8 9 (pv 9))) (a9 (f9 a00 (a8 3 (pv 3)) b8) d9)))))
     exact(a6Z (u6 (i:=10) S.nd rfl (Or.inl rfl)) (a6Z (u6 (i:=1) S.nd rfl (Or.inl rfl)) b5j))
    refine d5 ?_ ?_
    ·exact(C0 4 (pv 4) (C9 (a9 j2 (a9 (a8 9 (pv 9)) (a9 (a8 10 (pv 10)) d9)))))
    exact(e9 (j6 (i:=5) S.nd (f9 a00 (a8 5 (pv 5)) (f9 J3 (a8 9 (pv 9)) (N5 C8 rfl M.z_len (by rfl) (i7 t5 hr (by lia) rfl (b9 g9) (a9 (a8 10 (pv 10)) d9)))))))
   refine d5 ?_ ?_
   ·refine j6 (i:=9) ?_ ?_
    ·exact S.nd
    exact(f9 i9 b8 (f9 x8 (f9 D6 (a8 8 (pv 8)) b8) (b4K (b1p rfl) rfl M.z_min (by rfl) (a8 5 (pv 5)) (f9 i9 b8 (f9 J3 b8 (f9 D6 (f9 x8 (f9 D6 (a8 8 (pv 8)) b8) b8) b8))))))
   exact(d5 (C0 4 (pv 4) (C9 (a9 j2 (a9 (i6 j2 (f9 x8 (f9 D6 (a8 8 (pv 8)) b8) b8)) (a9 (a8 9 (pv 9)) d9))))) (e9 (j6 (i:=5) S.nd (f9 a00 (a8 5 (pv 5)) (a8 9 (pv 9))))))
  exact n6
 exact(e9 (a7C 4 (j1 (C9 (a9 (a8 4 (pv 4)) (a9 (a8 1 (pv 1)) d9))))))
theorem b1U(a3u:Df K mg "_law_fold" a3X)(M:MoB K mg)(o9:E4 P w K mg base)(t5:S3 P w K mg base):∀n:Nat,i8 P w K mg base "_law_fold" ["_law_cells","_law_at","_law_room","_law_deep"] (17+n) (N8 n):=by
 intro n
 induction n with
 |zero=>exact k6 (k:=16) a3u a5e (fun _ _ _ _ _ _=>el4 (fun _ _ _ _=>rfl)) fun f cdv A outer s H E hr=>u3
 |succ n ih=>
  exact b3b P w base (Nat.le_add_right _ _) a3u M o9 t5 ih
theorem a9N(D:Df K mg "_law_cell_at" a21)(M:MoB K mg):a0S P w K mg base:=by
 refine k6 (k:=0) D a5c (fun _ _ _ _ _ _=>el2 (fun _ _=>rfl)) fun f cdv A outer s H E hr=> ?_
 have S:=a5c
 have hu:=hr.units
 exact(d5 (p8 (j9 b17 (a8 1 (pv 1)) (N5 C8 rfl M.z_len (by rfl) (a8 0 (pv 0))) (by first|rfl|exact j5 _)) (e9 (j1 (i6 (a8 0 (pv 0)) (a8 1 (pv 1))))) n6) (e9 (j1 b8)))
theorem b1Y(D:Df K mg "_law_drawn" a43)(a13:b3O P w K mg base)(o9:E4 P w K mg base)(K7:a0S P w K mg base):a7X P w K mg base:=by
 refine k6 (k:=23) D a67 (fun _ _ _ _ _ _=>el3 (fun _ _ _=>rfl)) fun f cdv A outer s H E hr=> ?_
 have S:=a67
 have hu:=hr.units
 refine d5 ?_ ?_
 ·exact(j6 (i:=3) S.nd (f9 i9 (O9 (a8 0 (pv 0)) (O1 (a8 1 (pv 1))) a1G) (G7 (a9 b8 d9))))
 refine d5 ?_ ?_
 ·refine j6 (i:=4) ?_ ?_
  ·exact S.nd
  refine i6 ?_ ?_
  ·exact(G7 (a9 (a8 2 (pv 2)) (a9 (a8 2 (pv 2)) (a9 (f9 D6 (a8 2 (pv 2)) b8) (a9 b8 d9)))))
  exact(f9 x8 (f9 D6 (i7 o9 hr (by decide) rfl (b9 g9) (a9 (i7 K7 hr (by decide) rfl (b9 (b9 g9)) (a9 (a8 0 (pv 0)) (a9 (a8 1 (pv 1)) d9))) d9)) b8) b8)
 exact(e9 (a7C 3 (j1 (i6 (i7 a13 hr (by decide) rfl (b9 (b9 (b9 (b9 g9)))) (a9 (a8 3 (pv 3)) (a9 b8 (a9 (a8 4 (pv 4)) (a9 b8 d9))))) b8))))
theorem b4i(D:Df K mg "_law_run" a7T):b0A P w K mg base:=by
 refine k6 (k:=0) D a94 (fun _ _ _ _ _ _=>el1 (fun _=>rfl)) fun f cdv A outer s H E hr=> ?_
 have S:=a94
 have hu:=hr.units
 refine d5 ?_ ?_
 ·exact(j6 (i:=1) S.nd (G7 d9))
 refine d5 ?_ ?_
 ·refine b8R PassesOwn.never ?_ (b8O (a8 0 (pv 0))) ?_ (v3 2) ?_
  ·exact rfl
  ·exact(u6 (i:=2) S.nd rfl (Or.inl rfl))
  refine e9 ?_
  refine p8 (PW.pt (a59 (j9 (X2 hu) (a8 1 (pv 1)) (G7 d9) (by first|rfl|exact j5 _)) (a6E (j9 (w8 hu) (i6 (i6 (a8 1 (pv 1)) (b3U b8)) b8) (a8 2 (pv 2)) (by first|rfl|exact j5 _))))) ?_ ?_
  ·exact(e9 (b6T 1 (pv 1) (b3U b8) (C9 (a9 j2 (a9 (a8 2 (pv 2)) (a9 (f9 i9 (i6 (i6 (a8 1 (pv 1)) (b3U b8)) b8) b8) d9))))))
  exact(e9 (C0 1 (pv 1) (C9 (a9 j2 (a9 (a8 2 (pv 2)) (a9 b8 d9))))))
 exact(e9 (W0 1 (pv 1)))
theorem b1Z(D:Df K mg "_law_lines" a44)(M:MoB K mg)(a2u:a7X P w K mg base)(t5:S3 P w K mg base)(o9:E4 P w K mg base)(a7A:b0A P w K mg base)(K7:a0S P w K mg base):a7Y P w K mg base:=by
 refine k6 (k:=24) D a68 (fun _ _ _ _ _ _=>el2 (fun _ _=>rfl)) fun f cdv A outer s H E hr=> ?_
 have S:=a68
 have hu:=hr.units
 refine d5 ?_ ?_
 ·exact(j6 (i:=2) S.nd (i7 a2u hr (by decide) rfl (b9 (b9 (b9 g9))) (a9 (a8 0 (pv 0)) (a9 (a8 1 (pv 1)) (a9 b8 d9)))))
 refine d5 ?_ ?_
 ·exact(j6 (i:=3) S.nd (i7 t5 hr (by decide) rfl (b9 g9) (a9 (a8 2 (pv 2)) d9)))
 refine d5 ?_ ?_
 ·exact(j6 (i:=4) S.nd (G7 (a9 (C9 (a9 (a8 3 (pv 3)) (a9 (a8 2 (pv 2)) d9))) d9)))
 refine d5 ?_ ?_
 ·refine a4D PassesOwn.never ?_ ?_ M.z_range ?_ ?_ (v3 5) ?_
  ·exact rfl
  ·exact rfl
  ·refine a9 ?_ ?_
   ·exact(f9 i9 b8 (f9 x8 (i7 o9 hr (by decide) rfl (b9 g9) (a9 (i7 K7 hr (by decide) rfl (b9 (b9 g9)) (a9 (a8 0 (pv 0)) (a9 (f9 i9 (a8 1 (pv 1)) b8) d9))) d9)) b8))
   exact d9
  ·exact(u6 (i:=5) S.nd rfl (Or.inl rfl))
  refine d5 ?_ ?_
  ·refine j6 (i:=6) ?_ ?_ ?_ (Or.inr rfl)
   ·exact S.nd
   ·refine i7 t5 hr ?_ ?_ ?_ ?_
    ·decide
    ·exact rfl
    ·exact(b9 g9)
    exact(a9 (i7 a2u hr (by decide) rfl (b9 (b9 (b9 g9))) (a9 (a8 0 (pv 0)) (a9 (f9 i9 (f9 i9 (a8 1 (pv 1)) b8) (f9 J3 b8 (a8 5 (pv 5)))) (a9 b8 d9)))) d9)
   exact rfl
  refine d5 ?_ ?_
  ·refine j6 (i:=7) ?_ ?_
   ·exact S.nd
   refine a1F ?_ ?_
   ·exact j2
   refine a3G (ys:=["_law_c"]) (N0:=["_law_script","_law_at","_law_first","_law_line","_law_found","_law_k","_law_other","_law_own"]) (fun _ _ h=>h) ?_ ⟨by kernel_rfl,rfl,of_decide_eq_true rfl,of_decide_eq_true rfl,of_decide_eq_true rfl⟩ ?_ (fun C fp pins s H=>u6 (i:=8) a9z rfl (Or.inl rfl)) (fun n h=>X5 (i:=8) (Nat.le_of_eq h)) (fun C fp pins s H=>a58) ?_
   ·exact rfl
   ·exact(b1s rfl M.z_range (a9 (N5 C8 rfl M.z_len (by rfl) (a8 3 (pv 3))) d9))
   intro C fp pins s H
   exact(i6 (a8 6 (pv 6)) (f9 x8 (a8 8 (pv 8)) (N5 C8 rfl M.z_len (by rfl) (a8 6 (pv 6)))))
  exact(e9 (C0 4 (pv 4) (C9 (a9 (a8 7 (pv 7)) (a9 (i7 a7A hr (by decide) rfl (b9 g9) (a9 (a8 7 (pv 7)) d9)) d9)))))
 exact(e9 (W0 4 (pv 4)))
theorem a9R{k:Nat}(hk0:17≤k){G0:List PV→Option f6}(D:Df K mg "_law_unwoven" a03)(M:MoB K mg)(t5:S3 P w K mg base)(y8:i8 P w K mg base "_law_unwoven" ["_law_weaving_here"] k G0):i8 P w K mg base "_law_unwoven" ["_law_weaving_here"] (k+1) (k9 3 (a0W G0)):=by
 refine k6 (k:=k) D a2j (fun _ _ _ _ _ _=>el1 (fun _=>rfl)) fun f cdv A outer s H E hr=> ?_
 have S:=a2j
 have hu:=hr.units
 refine d5 ?_ ?_
 ·exact(j6 (i:=1) S.nd (G7 d9))
 refine d5 ?_ ?_
 ·refine X0 PassesOwn.never ?_ ?_ ?_ (v3 2) ?_
  ·exact rfl
  ·exact(a8 0 (pv 0))
  ·exact(u6 (i:=2) S.nd rfl (Or.inl rfl))
  refine e9 ?_
  refine a4D PassesOwn.never ?_ ?_ M.z_range ?_ ?_ (v3 3) ?_
  ·exact rfl
  ·exact rfl
  ·exact(a9 (i6 (a8 2 (pv 2)) b8) d9)
  ·exact(u6 (i:=3) S.nd rfl (Or.inl rfl))
  refine e9 ?_
  refine p8 ?_ ?_ ?_
  ·exact(j9 (w8 hu) (i6 (a8 2 (pv 2)) b8) j2 (by first|rfl|exact j5 _))
  ·exact(e9 (C0 1 (pv 1) (i7 t5 hr (by lia) rfl (b9 g9) (a9 (i6 (a8 2 (pv 2)) b8) d9))))
  exact(e9 (j6 (i:=1) S.nd (f9 i9 (a8 1 (pv 1)) (a6C (b6J rfl) rfl M.z_list (by rfl) (i7 y8 hr (by lia) rfl (b9 g9) (a9 (i6 (a8 2 (pv 2)) b8) d9))))))
 exact(e9 (j1 (a6C b6K rfl M.z_tuple (by rfl) (a8 1 (pv 1)))))
theorem a8w(P7:Df K mg "_law_unwoven" a03)(M:MoB K mg)(t5:S3 P w K mg base):∀n:Nat,i8 P w K mg base "_law_unwoven" ["_law_weaving_here"] (17+n) (M7 n):=by
 intro n
 induction n with
 |zero=>exact k6 (k:=16) P7 a2j (fun _ _ _ _ _ _=>el1 (fun _=>rfl)) fun f cdv A outer s H E hr=>u3
 |succ n ih=>
  exact a9R P w base (Nat.le_add_right _ _) P7 M t5 ih
theorem a9S{k:Nat}(hk0:33≤k){P9:List PV→Option f6}(D:Df K mg "_law_weaving" a04)(M:MoB K mg)(o9:E4 P w K mg base)(y8:a0T P w K mg base)(U8:i8 P w K mg base "_law_weaving" ["_law_cells","_law_at","_law_room","_law_deep","_law_lines_here"] k P9):i8 P w K mg base "_law_weaving" ["_law_cells","_law_at","_law_room","_law_deep","_law_lines_here"] (k+1) (k9 7 (a0X P9)):=by
 refine k6 (k:=k) D a2k (fun _ _ _ _ _ _=>el5 (fun _ _ _ _ _=>rfl)) fun f cdv A outer s H E hr=> ?_
 have S:=a2k
 have hu:=hr.units
 refine d5 ?_ ?_
 ·exact(j6 (i:=5) S.nd (G7 d9))
 refine d5 ?_ ?_
 ·exact(j6 (i:=6) S.nd (a8 2 (pv 2)))
 refine d5 ?_ ?_
 ·refine j6 (i:=7) ?_ ?_
  ·exact S.nd
  exact(f9 i9 b8 (f9 x8 (i7 o9 hr (by lia) rfl (b9 g9) (a9 (f9 i9 (i6 (a8 0 (pv 0)) (f9 x8 (a8 1 (pv 1)) (N5 C8 rfl M.z_len (by rfl) (a8 0 (pv 0))))) (f9 J3 b8 (a8 1 (pv 1)))) d9)) b8))
 refine d5 ?_ ?_
 ·refine a4D PassesOwn.never ?_ ?_ M.z_range ?_ ?_ (v3 8) ?_
  ·exact rfl
  ·exact rfl
  ·exact(a9 (a8 7 (pv 7)) d9)
  ·exact(u6 (i:=8) S.nd rfl (Or.inl rfl))
  refine e9 ?_
  refine p8 ?_ ?_ ?_
  ·exact(j9 a2Z (a8 6 (pv 6)) b8 (by first|rfl|exact j5 _))
  ·refine d5 ?_ ?_
   ·exact(j6 (i:=1) S.nd (f9 i9 (a8 1 (pv 1)) b8))
   refine d5 ?_ ?_
   ·exact(j6 (i:=9) S.nd (i7 o9 hr (by lia) rfl (b9 g9) (a9 (f9 i9 (i6 (a8 0 (pv 0)) (f9 x8 (a8 1 (pv 1)) (N5 C8 rfl M.z_len (by rfl) (a8 0 (pv 0))))) (f9 J3 b8 (a8 1 (pv 1)))) d9)))
   refine e9 ?_
   refine p8 (PW.pt (a59 (j9 a2Z (a8 3 (pv 3)) b8 (by first|rfl|exact j5 _)) (a59 (j9 a2Z (a8 6 (pv 6)) b8 (by first|rfl|exact j5 _)) (a6E (j9 (w8 hu) (f9 x8 (a8 9 (pv 9)) b8) b8 (by first|rfl|exact j5 _)))))) ?_ ?_
   ·refine d5 ?_ ?_
    ·exact(j6 (i:=10) S.nd (f9 i9 b8 (f9 x8 (f9 D6 (a8 9 (pv 9)) b8) (b4K (b1p rfl) rfl M.z_min (by rfl) b8 (f9 a00 (a8 6 (pv 6)) b8)))))
    refine d5 ?_ ?_
    ·refine b6V (is:=[11,1]) ?_ ?_ ?_
     ·exact rfl
     ·refine i7 U8 hr ?_ ?_ ?_ ?_
      ·lia
      ·exact rfl
      ·exact(b9 (b9 (b9 (b9 (b9 g9)))))
      exact(a9 (a8 0 (pv 0)) (a9 (f9 i9 (a8 1 (pv 1)) b8) (a9 (f9 D6 (a8 6 (pv 6)) (a8 10 (pv 10))) (a9 (f9 a00 (a8 3 (pv 3)) b8) (a9 (a8 4 (pv 4)) d9)))))
     exact(a6Z (u6 (i:=11) S.nd rfl (Or.inl rfl)) (a6Z (u6 (i:=1) S.nd rfl (Or.inl rfl)) b5j))
    refine d5 ?_ ?_
    ·exact(C0 5 (pv 5) (C9 (a9 j2 (a9 (a8 10 (pv 10)) (a9 (a8 11 (pv 11)) d9)))))
    exact(e9 (j6 (i:=6) S.nd (f9 a00 (a8 6 (pv 6)) (f9 J3 (a8 10 (pv 10)) (N5 C8 rfl M.z_len (by rfl) (i7 y8 hr (by lia) rfl (b9 g9) (a9 (a8 11 (pv 11)) d9)))))))
   refine d5 ?_ ?_
   ·refine j6 (i:=10) ?_ ?_
    ·exact S.nd
    exact(f9 i9 b8 (f9 x8 (f9 D6 (a8 9 (pv 9)) b8) (b4K (b1p rfl) rfl M.z_min (by rfl) (a8 6 (pv 6)) (f9 i9 b8 (f9 J3 b8 (f9 D6 (f9 x8 (f9 D6 (a8 9 (pv 9)) b8) b8) b8))))))
   refine d5 ?_ ?_
   ·exact(C0 5 (pv 5) (C9 (a9 j2 (a9 (a8 10 (pv 10)) (a9 (i6 (i6 (a8 4 (pv 4)) (f9 x8 (f9 D6 (a8 9 (pv 9)) b8) (N5 C8 rfl M.z_len (by rfl) (a8 4 (pv 4))))) b8) d9)))))
   exact(e9 (j6 (i:=6) S.nd (f9 a00 (a8 6 (pv 6)) (a8 10 (pv 10)))))
  exact n6
 exact(e9 (a7C 5 (j1 (C9 (a9 (a8 5 (pv 5)) (a9 (a8 1 (pv 1)) d9))))))
theorem a8x(a0R:Df K mg "_law_weaving" a04)(M:MoB K mg)(o9:E4 P w K mg base)(y8:a0T P w K mg base):∀n:Nat,i8 P w K mg base "_law_weaving" ["_law_cells","_law_at","_law_room","_law_deep","_law_lines_here"] (33+n) (D3 n):=by
 intro n
 induction n with
 |zero=>exact k6 (k:=32) a0R a2k (fun _ _ _ _ _ _=>el5 (fun _ _ _ _ _=>rfl)) fun f cdv A outer s H E hr=>u3
 |succ n ih=>
  exact a9S P w base (Nat.le_add_right _ _) a0R M o9 y8 ih
theorem b13(D:Df K mg "_law_woven" a46)(a4x:a7Y P w K mg base)(U8:b0j P w K mg base)(o9:E4 P w K mg base)(K7:a0S P w K mg base):a71 P w K mg base:=by
 refine k6 (k:=39) D a7a (fun _ _ _ _ _ _=>el2 (fun _ _=>rfl)) fun f cdv A outer s H E hr=> ?_
 have S:=a7a
 have hu:=hr.units
 refine d5 ?_ ?_
 ·exact(j6 (i:=2) S.nd (i7 a4x hr (by decide) rfl (b9 (b9 g9)) (a9 (a8 0 (pv 0)) (a9 (a8 1 (pv 1)) d9))))
 refine d5 ?_ ?_
 ·refine j6 (i:=3) ?_ ?_
  ·exact S.nd
  refine i6 ?_ ?_
  ·exact(G7 (a9 b8 (a9 b8 (a9 b8 (a9 b8 d9)))))
  exact(f9 x8 (f9 D6 (i7 o9 hr (by decide) rfl (b9 g9) (a9 (i7 K7 hr (by decide) rfl (b9 (b9 g9)) (a9 (a8 0 (pv 0)) (a9 (f9 i9 (a8 1 (pv 1)) b8) d9))) d9)) b8) b8)
 refine e9 ?_
 refine a7C 2 ?_
 refine j1 ?_
 refine i6 ?_ ?_
 ·refine i7 U8 hr ?_ ?_ ?_ ?_
  ·decide
  ·exact rfl
  ·exact(b9 (b9 (b9 (b9 (b9 g9)))))
  exact(a9 (f9 i9 (O9 (a8 0 (pv 0)) (O1 (a8 1 (pv 1))) a1G) (G7 (a9 b8 d9))) (a9 b8 (a9 (a8 3 (pv 3)) (a9 b8 (a9 (a8 2 (pv 2)) d9)))))
 exact b8
theorem b12{k:Nat}(hk0:1≤k){X7:List PV→Option f6}(D:Df K mg "_law_shown" a2F)(M:MoB K mg)(S5:i8 P w K mg base "_law_shown" ["_law_fold_here"] k X7):i8 P w K mg base "_law_shown" ["_law_fold_here"] (k+1) (k9 2 (a2s X7)):=by
 refine k6 (k:=k) D a34 (fun _ _ _ _ _ _=>el1 (fun _=>rfl)) fun f cdv A outer s H E hr=> ?_
 have S:=a34
 have hu:=hr.units
 refine d5 ?_ ?_
 ·exact(j6 (i:=1) S.nd (G7 d9))
 refine d5 ?_ ?_
 ·refine X0 PassesOwn.never ?_ ?_ ?_ (v3 2) ?_
  ·exact rfl
  ·exact(a8 0 (pv 0))
  ·exact(u6 (i:=2) S.nd rfl (Or.inl rfl))
  refine e9 ?_
  refine p8 ?_ ?_ ?_
  ·exact(j9 (w8 hu) (i6 (a8 2 (pv 2)) b8) j2 (by first|rfl|exact j5 _))
  ·exact(e9 (C0 1 (pv 1) (f9 i9 (f9 i9 (f9 i9 j2 (i7 S5 hr (by lia) rfl (b9 g9) (a9 (i6 (a8 2 (pv 2)) b8) d9))) j2) (a6C a7z rfl M.z_str (by rfl) (i6 (a8 2 (pv 2)) b8)))))
  refine e9 ?_
  refine p8 ?_ ?_ ?_
  ·exact(j9 (w8 hu) (i6 (a8 2 (pv 2)) b8) b8 (by first|rfl|exact j5 _))
  ·exact(e9 (C0 1 (pv 1) (i6 (a8 2 (pv 2)) b8)))
  exact(e9 (C0 1 (pv 1) (f9 i9 (i6 (a8 2 (pv 2)) b8) (a6C a7z rfl M.z_str (by rfl) (i6 (a8 2 (pv 2)) b8)))))
 exact(e9 (j1 (a1F j2 (a8 1 (pv 1)))))
theorem b0s(a2n:Df K mg "_law_shown" a2F)(M:MoB K mg):∀n:Nat,i8 P w K mg base "_law_shown" ["_law_fold_here"] (1+n) (a0b n):=by
 intro n
 induction n with
 |zero=>exact k6 (k:=0) a2n a34 (fun _ _ _ _ _ _=>el1 (fun _=>rfl)) fun f cdv A outer s H E hr=>u3
 |succ n ih=>
  exact b12 P w base (Nat.le_add_right _ _) a2n M ih
theorem b3c{k:Nat}(hk0:17≤k){a0A:List PV→Option f6}(D:Df K mg "_law_text" a3Z)(M:MoB K mg)(S5:a70 P w K mg base)(W9:i8 P w K mg base "_law_text" ["_law_weaving_here"] k a0A):i8 P w K mg base "_law_text" ["_law_weaving_here"] (k+1) (k9 3 (a3C a0A)):=by
 refine k6 (k:=k) D a5h (fun _ _ _ _ _ _=>el1 (fun _=>rfl)) fun f cdv A outer s H E hr=> ?_
 have S:=a5h
 have hu:=hr.units
 refine d5 ?_ ?_
 ·exact(j6 (i:=1) S.nd (G7 d9))
 refine d5 ?_ ?_
 ·refine X0 PassesOwn.never ?_ ?_ ?_ (v3 2) ?_
  ·exact rfl
  ·exact(a8 0 (pv 0))
  ·exact(u6 (i:=2) S.nd rfl (Or.inl rfl))
  refine d5 ?_ ?_
  ·refine j6 (i:=3) ?_ ?_
   ·exact S.nd
   refine c1S ?_ ?_ ?_
   ·exact(j9 (w8 hu) (i6 (a8 2 (pv 2)) b8) j2 (by first|rfl|exact j5 _))
   ·exact(f9 i9 (f9 i9 j2 (i7 S5 hr (by lia) rfl (b9 g9) (a9 (i6 (a8 2 (pv 2)) b8) d9))) j2)
   exact(f9 i9 (f9 i9 j2 (i7 W9 hr (by lia) rfl (b9 g9) (a9 (i6 (a8 2 (pv 2)) b8) d9))) j2)
  exact(d5 (p8 (j9 a2Z (i6 (a8 2 (pv 2)) b8) b8 (by first|rfl|exact j5 _)) (e9 (j6 (i:=3) S.nd (f9 i9 (a8 3 (pv 3)) (a6C a7z rfl M.z_str (by rfl) (i6 (a8 2 (pv 2)) b8))))) n6) (e9 (C0 1 (pv 1) (a8 3 (pv 3)))))
 exact(e9 (j1 (a1F j2 (a8 1 (pv 1)))))
theorem b1V(a1V:Df K mg "_law_text" a3Z)(M:MoB K mg)(S5:a70 P w K mg base):∀n:Nat,i8 P w K mg base "_law_text" ["_law_weaving_here"] (17+n) (Y0 n):=by
 intro n
 induction n with
 |zero=>exact k6 (k:=16) a1V a5h (fun _ _ _ _ _ _=>el1 (fun _=>rfl)) fun f cdv A outer s H E hr=>u3
 |succ n ih=>
  exact b3c P w base (Nat.le_add_right _ _) a1V M S5 ih
theorem b4l(D:Df K mg "run_end" a7V)(M:MoB K mg):b0B P w K mg base:=by
 refine k6 (k:=0) D a96 (fun _ _ _ _ _ _=>el4 (fun _ _ _ _=>rfl)) fun f cdv A outer s H E hr=> ?_
 have S:=a96
 have hu:=hr.units
 refine d5 ?_ ?_
 ·exact(j6 (i:=4) S.nd (a8 1 (pv 1)))
 refine d5 ?_ ?_
 ·refine a9a 4000 PassesOwn.never (PW.pt (a59 (j9 b17 (a8 4 (pv 4)) (N5 C8 rfl M.z_len (by rfl) (a8 0 (pv 0))) (by first|rfl|exact j5 _)) (a6E (a6D a0Z a0Z (a8 2 (pv 2)) (i6 (a8 0 (pv 0)) (a8 4 (pv 4))) (a8 3 (pv 3)))))) ?_
  exact(e9 (a1n (i:=4) S.nd b8 V4))
 exact(e9 (W0 4 (pv 4)))
theorem a9M(D:Df K mg "figures_end" a20)(a7B:b0B P w K mg base):a2J P w K mg base:=by
 refine k6 (k:=1) D a5a (fun _ _ _ _ _ _=>el2 (fun _ _=>rfl)) fun f cdv A outer s H E hr=> ?_
 have S:=a5a
 have hu:=hr.units
 exact(e9 (j1 (i7 a7B hr (by decide) rfl (b9 (b9 (b9 (b9 g9)))) (a9 (a8 0 (pv 0)) (a9 (a8 1 (pv 1)) (a9 j2 (a9 j2 d9)))))))
theorem b14(D:Df K mg "number_in" a47)(M:MoB K mg){u_MOST_FIGURES:AA}{n_MOST_FIGURES:Nat}(m_MOST_FIGURES:mg "MOST_FIGURES"=some u_MOST_FIGURES)(c_MOST_FIGURES:a2K K n_MOST_FIGURES u_MOST_FIGURES=some a0t)(U7:a2J P w K mg base):a72 P w K mg base:=by
 refine k6 (k:=2) D a7b (fun _ _ _ _ _ _=>el1 (fun _=>rfl)) fun f cdv A outer s H E hr=> ?_
 have S:=a7b
 have hu:=hr.units
 refine d5 ?_ ?_
 ·refine p8 (PW.pt (R5 (E6 (a6D a0Z a0Z b8 (N5 C8 rfl M.z_len (by rfl) (a8 0 (pv 0))) (a5t rfl m_MOST_FIGURES c_MOST_FIGURES))) (M3 (j9 (X2 hu) (i7 U7 hr (by decide) rfl (b9 (b9 g9)) (a9 (a8 0 (pv 0)) (a9 b8 d9))) (N5 C8 rfl M.z_len (by rfl) (a8 0 (pv 0))) (by first|rfl|exact j5 _))))) ?_ ?_
  ·exact(e9 (j1 y9))
  exact n6
 refine d5 ?_ ?_
 ·exact(p8 (PW.pt (a59 (j9 (w8 hu) (i6 (a8 0 (pv 0)) b8) j2 (by first|rfl|exact j5 _)) (a6E (j9 a2Z (N5 C8 rfl M.z_len (by rfl) (a8 0 (pv 0))) b8 (by first|rfl|exact j5 _))))) (e9 (j1 y9)) n6)
 exact(e9 (j1 (a6C b8G rfl M.z_int (by rfl) (a8 0 (pv 0)))))
theorem a6Y(D:Df K mg "number_between" a0L)(a4A:a72 P w K mg base):a28 P w K mg base:=by
 refine k6 (k:=3) D a2H (fun _ _ _ _ _ _=>el3 (fun _ _ _=>rfl)) fun f cdv A outer s H E hr=> ?_
 have S:=a2H
 have hu:=hr.units
 refine d5 ?_ ?_
 ·exact(j6 (i:=3) S.nd (i7 a4A hr (by decide) rfl (b9 g9) (a9 (a8 0 (pv 0)) d9)))
 exact(d5 (p8 (PW.pt (R5 (j9 W3 (a8 3 (pv 3)) y9 (by first|rfl|exact j5 _)) (M3 (E6 (a6D a0Z a0Z (a8 1 (pv 1)) (a8 3 (pv 3)) (a8 2 (pv 2))))))) (e9 (j1 y9)) n6) (e9 (W0 3 (pv 3))))
theorem b3e(D:Df K mg "times_at" a6o){u_LONGEST:AA}{n_LONGEST:Nat}(m_LONGEST:mg "LONGEST"=some u_LONGEST)(c_LONGEST:a2K K n_LONGEST u_LONGEST=some Q8)(U7:a2J P w K mg base)(a0D:a28 P w K mg base):W6 P w K mg base:=by
 refine k6 (k:=4) D a8k (fun _ _ _ _ _ _=>el2 (fun _ _=>rfl)) fun f cdv A outer s H E hr=> ?_
 have S:=a8k
 have hu:=hr.units
 refine d5 ?_ ?_
 ·exact(j6 (i:=2) S.nd (i7 U7 hr (by decide) rfl (b9 (b9 g9)) (a9 (a8 0 (pv 0)) (a9 (a8 1 (pv 1)) d9))))
 refine d5 ?_ ?_
 ·exact(p8 (j9 (w8 hu) (a8 2 (pv 2)) (a8 1 (pv 1)) (by first|rfl|exact j5 _)) (e9 (j1 (C9 (a9 b8 (a9 (a8 2 (pv 2)) d9))))) n6)
 refine d5 ?_ ?_
 ·exact(j6 (i:=3) S.nd (i7 a0D hr (by decide) rfl (b9 (b9 (b9 g9))) (a9 (O9 (a8 0 (pv 0)) (O1 (a8 1 (pv 1))) (O1 (a8 2 (pv 2)))) (a9 b8 (a9 (a5t rfl m_LONGEST c_LONGEST) d9)))))
 exact(d5 (p8 (j9 W3 (a8 3 (pv 3)) y9 (by first|rfl|exact j5 _)) (e9 (j1 y9)) n6) (e9 (j1 (C9 (a9 (a8 3 (pv 3)) (a9 (a8 2 (pv 2)) d9))))))
theorem b6c(D:Df K mg "run_of" a93):a83 P w K mg base:=by
 refine k6 (k:=0) D b1e (fun _ _ _ _ _ _=>el2 (fun _ _=>rfl)) fun f cdv A outer s H E hr=> ?_
 have S:=b1e
 have hu:=hr.units
 exact(e9 (j1 (C9 (a9 j2 (a9 (a8 0 (pv 0)) (a9 (a8 1 (pv 1)) d9))))))
theorem b28{k:Nat}(hk0:5≤k){R_again_at o8 w6:List PV→Option f6}(D:Df K mg "again_at" a3U)(B2:W6 P w K mg base)(g:a3w P w K mg base k R_again_at o8 w6):i8 P w K mg base "again_at" ["text","at","left","part_at","closing"] (k+1) (k9 2 (a0C R_again_at o8 w6)):=by
 refine k6 (k:=k) D a49 (fun _ _ _ _ _ _=>el5 (fun _ _ _ _ _=>rfl)) fun f cdv A outer s H E hr=> ?_
 have S:=a49
 have hu:=hr.units
 refine d5 ?_ ?_
 ·exact(p8 (j9 (w8 hu) (a8 2 (pv 2)) b8 (by first|rfl|exact j5 _)) (e9 (j1 y9)) n6)
 refine d5 ?_ ?_
 ·exact(j6 (i:=5) S.nd (i7 g.d_parts_at hr (by lia) rfl (b9 (b9 (b9 (b9 g9)))) (a9 (a8 0 (pv 0)) (a9 (a8 1 (pv 1)) (a9 (f9 a00 (a8 2 (pv 2)) b8) (a9 (a8 3 (pv 3)) d9))))))
 refine d5 ?_ ?_
 ·exact(p8 (PW.pt (R5 (j9 W3 (a8 5 (pv 5)) y9 (by first|rfl|exact j5 _)) (M3 (E6 (D0 (a0E (a8 0 (pv 0)) (a8 4 (pv 4)) (i6 (a8 5 (pv 5)) b8))))))) (e9 (j1 y9)) n6)
 refine d5 ?_ ?_
 ·exact(j6 (i:=6) S.nd (i7 B2 hr (by lia) rfl (b9 (b9 g9)) (a9 (a8 0 (pv 0)) (a9 (f9 i9 (i6 (a8 5 (pv 5)) b8) b8) d9))))
 refine d5 ?_ ?_
 ·exact(p8 (PW.pt (R5 (j9 W3 (a8 6 (pv 6)) y9 (by first|rfl|exact j5 _)) (M3 (j9 (w8 hu) (i6 (a8 6 (pv 6)) b8) b8 (by first|rfl|exact j5 _))))) (e9 (j1 y9)) n6)
 exact(e9 (j1 (C9 (a9 (C9 (a9 j2 (a9 (i6 (a8 6 (pv 6)) b8) (a9 (i6 (a8 5 (pv 5)) b8) d9)))) (a9 (i6 (a8 6 (pv 6)) b8) d9)))))
theorem a8y{k:Nat}(hk0:5≤k){R_again_at o8 w6:List PV→Option f6}(D:Df K mg "fold_part_at" J5){D9:AB}(u9:FnV K mg "fold_part_at" D9)(B2:W6 P w K mg base)(a4C:a83 P w K mg base)(g:a3w P w K mg base k R_again_at o8 w6):i8 P w K mg base "fold_part_at" ["text","at","left"] (k+1) (k9 1 (Z3 R_again_at o8 w6)):=by
 refine k6 (k:=k) D a1u (fun _ _ _ _ _ _=>el3 (fun _ _ _=>rfl)) fun f cdv A outer s H E hr=> ?_
 have S:=a1u
 have hu:=hr.units
 refine d5 ?_ ?_
 ·refine p8 ?_ ?_ ?_
  ·exact(D0 (a0E (a8 0 (pv 0)) j2 (a8 1 (pv 1))))
  ·exact(e9 (j1 (i7 g.d_again_at hr (by lia) rfl (b9 (b9 (b9 (b9 (b9 g9))))) (a9 (a8 0 (pv 0)) (a9 (f9 i9 (a8 1 (pv 1)) b8) (a9 (a8 2 (pv 2)) (a9 (b4L u9) (a9 j2 d9))))))))
  exact n6
 refine d5 ?_ ?_
 ·exact(p8 (E6 (a6D a0Z a0Z j2 (O9 (a8 0 (pv 0)) (O1 (a8 1 (pv 1))) (O1 (f9 i9 (a8 1 (pv 1)) b8))) j2)) (e9 (j1 y9)) n6)
 refine d5 ?_ ?_
 ·exact(j6 (i:=3) S.nd (i7 B2 hr (by lia) rfl (b9 (b9 g9)) (a9 (a8 0 (pv 0)) (a9 (f9 i9 (a8 1 (pv 1)) b8) d9))))
 refine d5 ?_ ?_
 ·exact(p8 (j9 W3 (a8 3 (pv 3)) y9 (by first|rfl|exact j5 _)) (e9 (j1 y9)) n6)
 exact(e9 (j1 (C9 (a9 (i7 a4C hr (by lia) rfl (b9 (b9 g9)) (a9 (i6 (a8 0 (pv 0)) (a8 1 (pv 1))) (a9 (i6 (a8 3 (pv 3)) b8) d9))) (a9 (i6 (a8 3 (pv 3)) b8) d9)))))
theorem b3d{k:Nat}(hk0:5≤k){R_again_at o8 w6:List PV→Option f6}(D:Df K mg "parts_at" a30){D9:AB}(u9:FnV K mg "fold_part_at" D9)(g:a3w P w K mg base k R_again_at o8 w6):i8 P w K mg base "parts_at" ["text","at","left","part_at"] (k+1) (k9 2 (a3D R_again_at o8 w6)):=by
 refine k6 (k:=k) D a5i (fun _ _ _ _ _ _=>el4 (fun _ _ _ _=>rfl)) fun f cdv A outer s H E hr=> ?_
 have S:=a5i
 have hu:=hr.units
 refine d5 ?_ ?_
 ·exact(j6 (i:=4) S.nd (G7 d9))
 refine e9 ?_
 refine a9a 4000 PassesOwn.never ?_ ?_
 ·exact(D0 U9)
 refine d5 ?_ ?_
 ·exact(j6 (i:=5) S.nd (b2H 3 (a9e g.d_fold_part_at u9 (by lia) rfl b0O) hr (pv 3) (b9 (b9 (b9 g9))) (a9 (a8 0 (pv 0)) (a9 (a8 1 (pv 1)) (a9 (a8 2 (pv 2)) d9)))))
 refine d5 ?_ ?_
 ·exact(p8 (j9 W3 (a8 5 (pv 5)) y9 (by first|rfl|exact j5 _)) (e9 (j1 y9)) n6)
 refine d5 ?_ ?_
 ·exact(C0 4 (pv 4) (i6 (a8 5 (pv 5)) b8))
 refine d5 ?_ ?_
 ·exact(p8 (E6 (D0 (a0E (a8 0 (pv 0)) j2 (i6 (a8 5 (pv 5)) b8)))) (e9 (a7C 4 (j1 (C9 (a9 (a8 4 (pv 4)) (a9 (i6 (a8 5 (pv 5)) b8) d9)))))) n6)
 exact(e9 (j6 (i:=1) S.nd (f9 i9 (i6 (a8 5 (pv 5)) b8) b8)))
theorem b1R(D_again_at:Df K mg "again_at" a3U)(Y8:Df K mg "fold_part_at" J5)(a3v:Df K mg "parts_at" a30){D9:AB}(u9:FnV K mg "fold_part_at" D9)(B2:W6 P w K mg base)(a4C:a83 P w K mg base):∀n:Nat,a3w P w K mg base (5+n) (S9 n) (A0 n) (N9 n):=by
 intro n
 induction n with
 |zero=>exact⟨k6 (k:=4) D_again_at a49 (fun _ _ _ _ _ _=>el5 (fun _ _ _ _ _=>rfl)) fun f cdv A outer s H E hr=>u3,k6 (k:=4) Y8 a1u (fun _ _ _ _ _ _=>el3 (fun _ _ _=>rfl)) fun f cdv A outer s H E hr=>u3,k6 (k:=4) a3v a5i (fun _ _ _ _ _ _=>el4 (fun _ _ _ _=>rfl)) fun f cdv A outer s H E hr=>u3⟩
 |succ n ih=>
  exact⟨b28 P w base (Nat.le_add_right _ _) D_again_at B2 ih,a8y P w base (Nat.le_add_right _ _) Y8 u9 B2 a4C ih,b3d P w base (Nat.le_add_right _ _) a3v u9 ih⟩
theorem b29{k:Nat}(hk0:1≤k){a0x:List PV→Option f6}(D:Df K mg "knots_in" a3V)(a12:i8 P w K mg base "knots_in" ["fold"] k a0x):i8 P w K mg base "knots_in" ["fold"] (k+1) (k9 2 (a3z a0x)):=by
 refine k6 (k:=k) D a5b (fun _ _ _ _ _ _=>el1 (fun _=>rfl)) fun f cdv A outer s H E hr=> ?_
 have S:=a5b
 have hu:=hr.units
 refine d5 ?_ ?_
 ·exact(j6 (i:=1) S.nd b8)
 refine d5 ?_ ?_
 ·refine X0 PassesOwn.never ?_ ?_ ?_ (v3 2) ?_
  ·exact rfl
  ·exact(a8 0 (pv 0))
  ·exact(u6 (i:=2) S.nd rfl (Or.inl rfl))
  refine e9 ?_
  refine p8 ?_ ?_ ?_
  ·exact(j9 (w8 hu) (i6 (a8 2 (pv 2)) b8) j2 (by first|rfl|exact j5 _))
  ·exact(e9 (a1n (i:=1) S.nd (i6 (a8 2 (pv 2)) b8) V4))
  exact(e9 (a1n (i:=1) S.nd (f9 J3 (i6 (a8 2 (pv 2)) b8) (i7 a12 hr (by lia) rfl (b9 g9) (a9 (i6 (a8 2 (pv 2)) b8) d9))) V4))
 exact(e9 (W0 1 (pv 1)))
theorem b1S(a3s:Df K mg "knots_in" a3V):∀n:Nat,i8 P w K mg base "knots_in" ["fold"] (1+n) (a1c n):=by
 intro n
 induction n with
 |zero=>exact k6 (k:=0) a3s a5b (fun _ _ _ _ _ _=>el1 (fun _=>rfl)) fun f cdv A outer s H E hr=>u3
 |succ n ih=>
  exact b29 P w base (Nat.le_add_right _ _) a3s ih
theorem b16(D:Df K mg "read_fold" a48)(M:MoB K mg)(kb:K.In base){C_NoFold:AB}(x_NoFold:XC K mg "NoFold" C_NoFold){D9:AB}(u9:FnV K mg "fold_part_at" D9)(xe_NoFold:PySem.W.excIn K C_NoFold a9x "ValueError.__new__"=true){u_LONGEST:AA}{n_LONGEST:Nat}(m_LONGEST:mg "LONGEST"=some u_LONGEST)(c_LONGEST:a2K K n_LONGEST u_LONGEST=some Q8){u_MOST_WITHIN:AA}{n_MOST_WITHIN:Nat}(m_MOST_WITHIN:mg "MOST_WITHIN"=some u_MOST_WITHIN)(c_MOST_WITHIN:a2K K n_MOST_WITHIN u_MOST_WITHIN=some L6)(d_parts_at:b3P P w K mg base)(d_fold_part_at:a80 P w K mg base)(a12:b3N P w K mg base):a73 P w K mg base:=by
 refine b4Q (k:=47) D a7c (fun _ _ _ _ _ _=>el1 (fun _=>rfl)) fun f cdv A outer s H E hr hx=> ?_
 have S:=a7c
 have hu:=hr.units
 refine a14 ?_ ?_
 ·exact(b2K (E6 (D0 (a3H (.inr (.inr (.inl rfl))) rfl M.z_isinstance (a8 0 (pv 0)) (a01 rfl M.z_str (by rfl) rfl)))) (a2v (a4E rfl rfl rfl x_NoFold.mg (a7m kb xe_NoFold) (a9 j2 d9) (fun pins σ H s a I x h0 hn e=>a1e I x h0 hn e))) (a3I n6))
 refine a14 ?_ ?_
 ·exact(b6W (j6 (i:=1) S.nd (i7 d_parts_at hr (by decide) rfl (b9 (b9 (b9 (b9 g9)))) (a9 (a8 0 (pv 0)) (a9 b8 (a9 (a5t rfl m_MOST_WITHIN c_MOST_WITHIN) (a9 (b4L u9) d9)))))))
 refine a14 ?_ ?_
 ·refine b2K (PW.pt (R5 (j9 W3 (a8 1 (pv 1)) y9 (by first|rfl|exact j5 _)) (R5 (j9 (X2 hu) (i6 (a8 1 (pv 1)) b8) (N5 C8 rfl M.z_len (by rfl) (a8 0 (pv 0))) (by first|rfl|exact j5 _)) (M3 (j9 a2Z (i7 a12 hr (by decide) rfl (b9 g9) (a9 (i6 (a8 1 (pv 1)) b8) d9)) (a5t rfl m_LONGEST c_LONGEST) (by first|rfl|exact j5 _)))))) ?_ ?_
  ·exact(a2v (a4E rfl rfl rfl x_NoFold.mg (a7m kb xe_NoFold) (a9 j2 d9) (fun pins σ H s a I x h0 hn e=>a1e I x h0 hn e)))
  exact(a3I n6)
 exact(a3I (e9 (j1 (i6 (a8 1 (pv 1)) b8))))
theorem b4j(D:Df K mg "rows_at" a7U){C_NoFold:AB}(x_NoFold:XC K mg "NoFold" C_NoFold)(im_NoFold_NoFold:a4K K C_NoFold C_NoFold=true)(B2:W6 P w K mg base)(a4B:a73 P w K mg base):a7u P w K mg base:=by
 refine k6 (k:=48) D a95 (fun _ _ _ _ _ _=>el2 (fun _ _=>rfl)) fun f cdv A outer s H E hr=> ?_
 have S:=a95
 have hu:=hr.units
 refine d5 ?_ ?_
 ·exact(j6 (i:=2) S.nd (b8N (a8 0 (pv 0)) j2 (a8 1 (pv 1))))
 refine d5 ?_ ?_
 ·exact(p8 (j9 b17 (a8 2 (pv 2)) b8 (by first|rfl|exact j5 _)) (e9 (j1 y9)) n6)
 refine d5 ?_ ?_
 ·refine b4M x_NoFold (a6K x_NoFold x_NoFold im_NoFold_NoFold b1F) ?_ ?_
  ·intro Y pn E hx
   exact(a2v (b4N (i:=3) S.nd a4B hr (by decide) rfl hx (b9 g9) (a9 (O9 (a8 0 (pv 0)) (O1 (a8 1 (pv 1))) (O1 (a8 2 (pv 2)))) d9)))
  intro a Y
  exact(e9 (j1 y9))
 refine d5 ?_ ?_
 ·exact(j6 (i:=4) S.nd (i7 B2 hr (by decide) rfl (b9 (b9 g9)) (a9 (a8 0 (pv 0)) (a9 (f9 i9 (a8 2 (pv 2)) b8) d9))))
 refine d5 ?_ ?_
 ·exact(p8 (j9 W3 (a8 4 (pv 4)) y9 (by first|rfl|exact j5 _)) (e9 (j1 y9)) n6)
 exact(e9 (j1 (C9 (a9 (C9 (a9 j2 (a9 (i6 (a8 4 (pv 4)) b8) (a9 (a8 3 (pv 3)) d9)))) (a9 (i6 (a8 4 (pv 4)) b8) d9)))))
theorem b1X{k:Nat}(hk0:49≤k){R_again_atW v4 m5:List PV→Option f6}(D:Df K mg "again_at" a2D)(B2:W6 P w K mg base)(g:a2p P w K mg base k R_again_atW v4 m5):i8 P w K mg base "again_at" ["text","at","left","part_at","closing"] (k+1) (k9 2 (X8 R_again_atW v4 m5)):=by
 refine k6 (k:=k) D a32 (fun _ _ _ _ _ _=>el5 (fun _ _ _ _ _=>rfl)) fun f cdv A outer s H E hr=> ?_
 have S:=a32
 have hu:=hr.units
 refine d5 ?_ ?_
 ·exact(p8 (j9 (w8 hu) (a8 2 (pv 2)) b8 (by first|rfl|exact j5 _)) (e9 (j1 y9)) n6)
 refine d5 ?_ ?_
 ·exact(j6 (i:=5) S.nd (i7 g.d_parts_atW hr (by lia) rfl (b9 (b9 (b9 (b9 g9)))) (a9 (a8 0 (pv 0)) (a9 (a8 1 (pv 1)) (a9 (f9 a00 (a8 2 (pv 2)) b8) (a9 (a8 3 (pv 3)) d9))))))
 refine d5 ?_ ?_
 ·exact(p8 (PW.pt (R5 (j9 W3 (a8 5 (pv 5)) y9 (by first|rfl|exact j5 _)) (M3 (E6 (D0 (a0E (a8 0 (pv 0)) (a8 4 (pv 4)) (i6 (a8 5 (pv 5)) b8))))))) (e9 (j1 y9)) n6)
 refine d5 ?_ ?_
 ·exact(j6 (i:=6) S.nd (i7 B2 hr (by lia) rfl (b9 (b9 g9)) (a9 (a8 0 (pv 0)) (a9 (f9 i9 (i6 (a8 5 (pv 5)) b8) b8) d9))))
 refine d5 ?_ ?_
 ·exact(p8 (PW.pt (R5 (j9 W3 (a8 6 (pv 6)) y9 (by first|rfl|exact j5 _)) (M3 (j9 (w8 hu) (i6 (a8 6 (pv 6)) b8) b8 (by first|rfl|exact j5 _))))) (e9 (j1 y9)) n6)
 exact(e9 (j1 (C9 (a9 (C9 (a9 j2 (a9 (i6 (a8 6 (pv 6)) b8) (a9 (i6 (a8 5 (pv 5)) b8) d9)))) (a9 (i6 (a8 6 (pv 6)) b8) d9)))))
theorem b15{k:Nat}(hk0:49≤k){R_again_atW v4 m5:List PV→Option f6}(D:Df K mg "parts_at" a2G){A5:AB}(p6:FnV K mg "weaving_part_at" A5)(g:a2p P w K mg base k R_again_atW v4 m5):i8 P w K mg base "parts_at" ["text","at","left","part_at"] (k+1) (k9 2 (a2t R_again_atW v4 m5)):=by
 refine k6 (k:=k) D a35 (fun _ _ _ _ _ _=>el4 (fun _ _ _ _=>rfl)) fun f cdv A outer s H E hr=> ?_
 have S:=a35
 have hu:=hr.units
 refine d5 ?_ ?_
 ·exact(j6 (i:=4) S.nd (G7 d9))
 refine e9 ?_
 refine a9a 4000 PassesOwn.never ?_ ?_
 ·exact(D0 U9)
 refine d5 ?_ ?_
 ·exact(j6 (i:=5) S.nd (b2H 3 (a9e g.d_weaving_part_at p6 (by lia) rfl b0O) hr (pv 3) (b9 (b9 (b9 g9))) (a9 (a8 0 (pv 0)) (a9 (a8 1 (pv 1)) (a9 (a8 2 (pv 2)) d9)))))
 refine d5 ?_ ?_
 ·exact(p8 (j9 W3 (a8 5 (pv 5)) y9 (by first|rfl|exact j5 _)) (e9 (j1 y9)) n6)
 refine d5 ?_ ?_
 ·exact(C0 4 (pv 4) (i6 (a8 5 (pv 5)) b8))
 refine d5 ?_ ?_
 ·exact(p8 (E6 (D0 (a0E (a8 0 (pv 0)) j2 (i6 (a8 5 (pv 5)) b8)))) (e9 (a7C 4 (j1 (C9 (a9 (a8 4 (pv 4)) (a9 (i6 (a8 5 (pv 5)) b8) d9)))))) n6)
 exact(e9 (j6 (i:=1) S.nd (f9 i9 (i6 (a8 5 (pv 5)) b8) b8)))
theorem a6m{k:Nat}(hk0:49≤k){R_again_atW v4 m5:List PV→Option f6}(D:Df K mg "weaving_part_at" B9){A5:AB}(p6:FnV K mg "weaving_part_at" A5)(a3a:a7u P w K mg base)(g:a2p P w K mg base k R_again_atW v4 m5):i8 P w K mg base "weaving_part_at" ["text","at","left"] (k+1) (k9 0 (R4 R_again_atW v4 m5)):=by
 refine k6 (k:=k) D X3 (fun _ _ _ _ _ _=>el3 (fun _ _ _=>rfl)) fun f cdv A outer s H E hr=> ?_
 have S:=X3
 have hu:=hr.units
 refine d5 ?_ ?_
 ·refine p8 ?_ ?_ ?_
  ·exact(D0 (a0E (a8 0 (pv 0)) j2 (a8 1 (pv 1))))
  ·exact(e9 (j1 (i7 g.d_again_atW hr (by lia) rfl (b9 (b9 (b9 (b9 (b9 g9))))) (a9 (a8 0 (pv 0)) (a9 (f9 i9 (a8 1 (pv 1)) b8) (a9 (a8 2 (pv 2)) (a9 (b4L p6) (a9 j2 d9))))))))
  exact n6
 exact(d5 (p8 (D0 (a0E (a8 0 (pv 0)) j2 (a8 1 (pv 1)))) (e9 (j1 (i7 a3a hr (by lia) rfl (b9 (b9 g9)) (a9 (a8 0 (pv 0)) (a9 (f9 i9 (a8 1 (pv 1)) b8) d9))))) n6) (e9 (j1 y9)))
theorem b0q(D_again_atW:Df K mg "again_at" a2D)(a2o:Df K mg "parts_at" a2G)(R1:Df K mg "weaving_part_at" B9){A5:AB}(p6:FnV K mg "weaving_part_at" A5)(B2:W6 P w K mg base)(a3a:a7u P w K mg base):∀n:Nat,a2p P w K mg base (49+n) (O2 n) (K3 n) (u8 n):=by
 intro n
 induction n with
 |zero=>exact⟨k6 (k:=48) D_again_atW a32 (fun _ _ _ _ _ _=>el5 (fun _ _ _ _ _=>rfl)) fun f cdv A outer s H E hr=>u3,k6 (k:=48) a2o a35 (fun _ _ _ _ _ _=>el4 (fun _ _ _ _=>rfl)) fun f cdv A outer s H E hr=>u3,k6 (k:=48) R1 X3 (fun _ _ _ _ _ _=>el3 (fun _ _ _=>rfl)) fun f cdv A outer s H E hr=>u3⟩
 |succ n ih=>
  exact⟨b1X P w base (Nat.le_add_right _ _) D_again_atW B2 ih,b15 P w base (Nat.le_add_right _ _) a2o p6 ih,a6m P w base (Nat.le_add_right _ _) R1 p6 a3a ih⟩
theorem b4k{k:Nat}(hk0:1≤k){a1S:List PV→Option f6}(D:Df K mg "rows_in" a5x)(a3b:i8 P w K mg base "rows_in" ["weaving"] k a1S):i8 P w K mg base "rows_in" ["weaving"] (k+1) (k9 2 (a5p a1S)):=by
 refine k6 (k:=k) D a6p (fun _ _ _ _ _ _=>el1 (fun _=>rfl)) fun f cdv A outer s H E hr=> ?_
 have S:=a6p
 have hu:=hr.units
 refine d5 ?_ ?_
 ·exact(j6 (i:=1) S.nd b8)
 refine d5 ?_ ?_
 ·refine X0 PassesOwn.never ?_ ?_ ?_ (v3 2) ?_
  ·exact rfl
  ·exact(a8 0 (pv 0))
  ·exact(u6 (i:=2) S.nd rfl (Or.inl rfl))
  refine e9 ?_
  refine p8 ?_ ?_ ?_
  ·exact(j9 (w8 hu) (i6 (a8 2 (pv 2)) b8) j2 (by first|rfl|exact j5 _))
  ·exact(e9 (a1n (i:=1) S.nd (i6 (a8 2 (pv 2)) b8) V4))
  exact(e9 (a1n (i:=1) S.nd (f9 J3 (i6 (a8 2 (pv 2)) b8) (i7 a3b hr (by lia) rfl (b9 g9) (a9 (i6 (a8 2 (pv 2)) b8) d9))) V4))
 exact(e9 (W0 1 (pv 1)))
theorem b26(a5m:Df K mg "rows_in" a5x):∀n:Nat,i8 P w K mg base "rows_in" ["weaving"] (1+n) (a2a n):=by
 intro n
 induction n with
 |zero=>exact k6 (k:=0) a5m a6p (fun _ _ _ _ _ _=>el1 (fun _=>rfl)) fun f cdv A outer s H E hr=>u3
 |succ n ih=>
  exact b4k P w base (Nat.le_add_right _ _) a5m ih
theorem b3f{k:Nat}(hk0:1≤k){D8 R_unfolded_part:List PV→Option f6}(D:Df K mg "unfolded" a31)(g:a50 P w K mg base k D8 R_unfolded_part):i8 P w K mg base "unfolded" ["fold"] (k+1) (k9 0 (a3E D8 R_unfolded_part)):=by
 refine k6 (k:=k) D a5j (fun _ _ _ _ _ _=>el1 (fun _=>rfl)) fun f cdv A outer s H E hr=> ?_
 have S:=a5j
 have hu:=hr.units
 refine e9 ?_
 refine j1 ?_
 refine a1F ?_ ?_
 ·exact j2
 refine a3G (ys:=["part"]) (N0:=["fold"]) (fun _ _ h=>h) ?_ ⟨by kernel_rfl,rfl,of_decide_eq_true rfl,of_decide_eq_true rfl,of_decide_eq_true rfl⟩ ?_ (fun C fp pins s H=>u6 (i:=1) b0o rfl (Or.inl rfl)) (fun n h=>X5 (i:=1) (Nat.le_of_eq h)) (fun C fp pins s H=>a58) ?_
 ·exact rfl
 ·exact(b1t (a8 0 (pv 0)))
 intro C fp pins s H
 exact(i7 g.d_unfolded_part hr (by lia) rfl (b9 g9) (a9 (a8 1 (pv 1)) d9))
theorem a7N{k:Nat}(hk0:1≤k){D8 R_unfolded_part:List PV→Option f6}(D:Df K mg "unfolded_part" W5)(g:a50 P w K mg base k D8 R_unfolded_part):i8 P w K mg base "unfolded_part" ["part"] (k+1) (k9 0 (V9 D8 R_unfolded_part)):=by
 refine k6 (k:=k) D a0N (fun _ _ _ _ _ _=>el1 (fun _=>rfl)) fun f cdv A outer s H E hr=> ?_
 have S:=a0N
 have hu:=hr.units
 refine d5 ?_ ?_
 ·exact(p8 (j9 (w8 hu) (i6 (a8 0 (pv 0)) b8) j2 (by first|rfl|exact j5 _)) (e9 (j1 (f9 J3 (i6 (a8 0 (pv 0)) b8) (i6 (a8 0 (pv 0)) b8)))) n6)
 exact(e9 (j1 (f9 J3 (i7 g.d_unfolded hr (by lia) rfl (b9 g9) (a9 (i6 (a8 0 (pv 0)) b8) d9)) (i6 (a8 0 (pv 0)) b8))))
theorem b1W(a1X:Df K mg "unfolded" a31)(D_unfolded_part:Df K mg "unfolded_part" W5):∀n:Nat,a50 P w K mg base (1+n) (Y1 n) (M8 n):=by
 intro n
 induction n with
 |zero=>exact⟨k6 (k:=0) a1X a5j (fun _ _ _ _ _ _=>el1 (fun _=>rfl)) fun f cdv A outer s H E hr=>u3,k6 (k:=0) D_unfolded_part a0N (fun _ _ _ _ _ _=>el1 (fun _=>rfl)) fun f cdv A outer s H E hr=>u3⟩
 |succ n ih=>
  exact⟨b3f P w base (Nat.le_add_right _ _) a1X ih,a7N P w base (Nat.le_add_right _ _) D_unfolded_part ih⟩
theorem b0u{k:Nat}(hk0:31≤k){T8:List PV→Option f6}(D:Df K mg "lengths_in" a1O)(M:MoB K mg)(d_unfolded:a3y P w K mg base)(Z7:i8 P w K mg base "lengths_in" ["weaving"] k T8):i8 P w K mg base "lengths_in" ["weaving"] (k+1) (k9 2 (a1D T8)):=by
 refine k6 (k:=k) D a24 (fun _ _ _ _ _ _=>el1 (fun _=>rfl)) fun f cdv A outer s H E hr=> ?_
 have S:=a24
 have hu:=hr.units
 refine d5 ?_ ?_
 ·exact(j6 (i:=1) S.nd (G7 d9))
 refine d5 ?_ ?_
 ·refine X0 PassesOwn.never ?_ ?_ ?_ (v3 2) ?_
  ·exact rfl
  ·exact(a8 0 (pv 0))
  ·exact(u6 (i:=2) S.nd rfl (Or.inl rfl))
  refine e9 ?_
  refine p8 ?_ ?_ ?_
  ·exact(j9 (w8 hu) (i6 (a8 2 (pv 2)) b8) j2 (by first|rfl|exact j5 _))
  ·exact(e9 (C0 1 (pv 1) (N5 C8 rfl M.z_len (by rfl) (i7 d_unfolded hr (by lia) rfl (b9 g9) (a9 (i6 (a8 2 (pv 2)) b8) d9)))))
  exact(e9 (b5R 1 (pv 1) (i7 Z7 hr (by lia) rfl (b9 g9) (a9 (i6 (a8 2 (pv 2)) b8) d9))))
 exact(e9 (W0 1 (pv 1)))
theorem a9K(a1B:Df K mg "lengths_in" a1O)(M:MoB K mg)(d_unfolded:a3y P w K mg base):∀n:Nat,i8 P w K mg base "lengths_in" ["weaving"] (31+n) (Q4 n):=by
 intro n
 induction n with
 |zero=>exact k6 (k:=30) a1B a24 (fun _ _ _ _ _ _=>el1 (fun _=>rfl)) fun f cdv A outer s H E hr=>u3
 |succ n ih=>
  exact b0u P w base (Nat.le_add_right _ _) a1B M d_unfolded ih
theorem a8B(D:Df K mg "read_weaving" a2g)(M:MoB K mg)(kb:K.In base){C_NoWeaving:AB}(x_NoWeaving:XC K mg "NoWeaving" C_NoWeaving){A5:AB}(p6:FnV K mg "weaving_part_at" A5)(xe_NoWeaving:PySem.W.excIn K C_NoWeaving a9x "ValueError.__new__"=true){u_LONGEST:AA}{n_LONGEST:Nat}(m_LONGEST:mg "LONGEST"=some u_LONGEST)(c_LONGEST:a2K K n_LONGEST u_LONGEST=some Q8){u_MOST_WITHIN:AA}{n_MOST_WITHIN:Nat}(m_MOST_WITHIN:mg "MOST_WITHIN"=some u_MOST_WITHIN)(c_MOST_WITHIN:a2K K n_MOST_WITHIN u_MOST_WITHIN=some L6)(d_parts_atW:b2z P w K mg base)(d_weaving_part_at:a6v P w K mg base)(a3b:b5C P w K mg base)(Z7:b1j P w K mg base):Z2 P w K mg base:=by
 refine b4Q (k:=91) D a4n (fun _ _ _ _ _ _=>el1 (fun _=>rfl)) fun f cdv A outer s H E hr hx=> ?_
 have S:=a4n
 have hu:=hr.units
 refine a14 ?_ ?_
 ·refine b2K ?_ ?_ ?_
  ·exact(E6 (D0 (a3H (.inr (.inr (.inl rfl))) rfl M.z_isinstance (a8 0 (pv 0)) (a01 rfl M.z_str (by rfl) rfl))))
  ·exact(a2v (a4E rfl rfl rfl x_NoWeaving.mg (a7m kb xe_NoWeaving) (a9 j2 d9) (fun pins σ H s a I x h0 hn e=>a1e I x h0 hn e)))
  exact(a3I n6)
 refine a14 ?_ ?_
 ·exact(b6W (j6 (i:=1) S.nd (i7 d_parts_atW hr (by decide) rfl (b9 (b9 (b9 (b9 g9)))) (a9 (a8 0 (pv 0)) (a9 b8 (a9 (a5t rfl m_MOST_WITHIN c_MOST_WITHIN) (a9 (b4L p6) d9)))))))
 refine a14 ?_ ?_
 ·refine b2K (PW.pt (R5 (j9 W3 (a8 1 (pv 1)) y9 (by first|rfl|exact j5 _)) (M3 (j9 (X2 hu) (i6 (a8 1 (pv 1)) b8) (N5 C8 rfl M.z_len (by rfl) (a8 0 (pv 0))) (by first|rfl|exact j5 _))))) ?_ ?_
  ·exact(a2v (a4E rfl rfl rfl x_NoWeaving.mg (a7m kb xe_NoWeaving) (a9 j2 d9) (fun pins σ H s a I x h0 hn e=>a1e I x h0 hn e)))
  exact(a3I n6)
 refine a14 ?_ ?_
 ·refine b2K (PW.pt (R5 (j9 a2Z (i7 a3b hr (by decide) rfl (b9 g9) (a9 (i6 (a8 1 (pv 1)) b8) d9)) (a5t rfl m_LONGEST c_LONGEST) (by first|rfl|exact j5 _)) (M3 (j9 (X2 hu) (a89 rfl rfl M.z_len rfl M.z_set (i7 Z7 hr (by decide) rfl (b9 g9) (a9 (i6 (a8 1 (pv 1)) b8) d9))) b8 (by first|rfl|exact j5 _))))) ?_ ?_
  ·exact(a2v (a4E rfl rfl rfl x_NoWeaving.mg (a7m kb xe_NoWeaving) (a9 j2 d9) (fun pins σ H s a I x h0 hn e=>a1e I x h0 hn e)))
  exact(a3I n6)
 exact(a3I (e9 (j1 (i6 (a8 1 (pv 1)) b8))))
theorem a8z(D:Df K mg "_law_is_count" a2f)(M:MoB K mg):S2 P w K mg base:=by
 refine k6 (k:=0) D a4m (fun _ _ _ _ _ _=>el2 (fun _ _=>rfl)) fun f cdv A outer s H E hr=> ?_
 have S:=a4m
 have hu:=hr.units
 refine e9 ?_
 refine j1 ?_
 refine a88 ?_ ?_
 ·exact(a3H (.inl rfl) rfl M.z_isinstance (a8 0 (pv 0)) (a01 rfl M.z_int (by rfl) rfl))
 exact(a88 (c0u (a3H (.inr (.inl rfl)) rfl M.z_isinstance (a8 0 (pv 0)) (a01 rfl M.z_bool (by rfl) rfl))) (b3V (b1r c06 (a8 0 (pv 0)) (a8 1 (pv 1)) (by first|rfl|exact j5 _))))
theorem a9O{k:Nat}(hk0:1≤k){P8:List PV→Option f6}(D:Df K mg "_law_is_fold" a02)(M:MoB K mg)(v5:S2 P w K mg base)(K8:i8 P w K mg base "_law_is_fold" ["_law_fold_here"] k P8):i8 P w K mg base "_law_is_fold" ["_law_fold_here"] (k+1) (k9 1 (a0U P8)):=by
 refine k6 (k:=k) D a2i (fun _ _ _ _ _ _=>el1 (fun _=>rfl)) fun f cdv A outer s H E hr=> ?_
 have S:=a2i
 have hu:=hr.units
 refine d5 ?_ ?_
 ·exact(p8 (PW.pt (R5 (E6 (D0 (a3H (.inr (.inr (.inr (.inl rfl)))) rfl M.z_isinstance (a8 0 (pv 0)) (a01 rfl M.z_list (by rfl) rfl)))) (M3 (j9 (w8 hu) (a8 0 (pv 0)) (G7 d9) (by first|rfl|exact j5 _))))) (e9 (j1 U9)) n6)
 refine d5 ?_ ?_
 ·refine X0 PassesOwn.never ?_ ?_ ?_ (v3 1) ?_
  ·exact rfl
  ·exact(a8 0 (pv 0))
  ·exact(u6 (i:=1) S.nd rfl (Or.inl rfl))
  refine d5 ?_ ?_
  ·refine p8 (PW.pt (R5 (E6 (D0 (a3H (.inr (.inr (.inr (.inr (.inl rfl))))) rfl M.z_isinstance (a8 1 (pv 1)) (a01 rfl M.z_tuple (by rfl) rfl)))) (M3 (j9 (X2 hu) (N5 C8 rfl M.z_len (by rfl) (a8 1 (pv 1))) b8 (by first|rfl|exact j5 _))))) ?_ ?_
   ·exact(e9 (j1 U9))
   exact n6
  refine e9 ?_
  refine p8 ?_ ?_ ?_
  ·exact(j9 (w8 hu) (i6 (a8 1 (pv 1)) b8) j2 (by first|rfl|exact j5 _))
  ·refine e9 ?_
   refine p8 (PW.pt (R5 (E6 (D0 (a3H (.inr (.inr (.inl rfl))) rfl M.z_isinstance (i6 (a8 1 (pv 1)) b8) (a01 rfl M.z_str (by rfl) rfl)))) (R5 (j9 (X2 hu) (N5 C8 rfl M.z_len (by rfl) (i6 (a8 1 (pv 1)) b8)) b8 (by first|rfl|exact j5 _)) (M3 (E6 (D0 (i7 v5 hr (by lia) rfl (b9 (b9 g9)) (a9 (i6 (a8 1 (pv 1)) b8) (a9 b8 d9))))))))) ?_ ?_
   ·exact(e9 (j1 U9))
   exact n6
  refine e9 ?_
  refine p8 (PW.pt (R5 (j9 (X2 hu) (i6 (a8 1 (pv 1)) b8) j2 (by first|rfl|exact j5 _)) (R5 (E6 (D0 (i7 v5 hr (by lia) rfl (b9 (b9 g9)) (a9 (i6 (a8 1 (pv 1)) b8) (a9 b8 d9))))) (M3 (E6 (D0 (i7 K8 hr (by lia) rfl (b9 g9) (a9 (i6 (a8 1 (pv 1)) b8) d9)))))))) ?_ ?_
  ·exact(e9 (j1 U9))
  exact n6
 exact(e9 (j1 U9))
theorem a8v(a0Q:Df K mg "_law_is_fold" a02)(M:MoB K mg)(v5:S2 P w K mg base):∀n:Nat,i8 P w K mg base "_law_is_fold" ["_law_fold_here"] (1+n) (T1 n):=by
 intro n
 induction n with
 |zero=>exact k6 (k:=0) a0Q a2i (fun _ _ _ _ _ _=>el1 (fun _=>rfl)) fun f cdv A outer s H E hr=>u3
 |succ n ih=>
  exact a9O P w base (Nat.le_add_right _ _) a0Q M v5 ih
theorem a6X{k:Nat}(hk0:17≤k){G2:List PV→Option f6}(D:Df K mg "_law_is_weaving" U3)(M:MoB K mg)(v5:S2 P w K mg base)(K8:a5N P w K mg base)(M2:i8 P w K mg base "_law_is_weaving" ["_law_weaving_here"] k G2):i8 P w K mg base "_law_is_weaving" ["_law_weaving_here"] (k+1) (k9 1 (T9 G2)):=by
 refine k6 (k:=k) D a0p (fun _ _ _ _ _ _=>el1 (fun _=>rfl)) fun f cdv A outer s H E hr=> ?_
 have S:=a0p
 have hu:=hr.units
 refine d5 ?_ ?_
 ·exact(p8 (PW.pt (R5 (E6 (D0 (a3H (.inr (.inr (.inr (.inl rfl)))) rfl M.z_isinstance (a8 0 (pv 0)) (a01 rfl M.z_list (by rfl) rfl)))) (M3 (j9 (w8 hu) (a8 0 (pv 0)) (G7 d9) (by first|rfl|exact j5 _))))) (e9 (j1 U9)) n6)
 refine d5 ?_ ?_
 ·refine X0 PassesOwn.never ?_ ?_ ?_ (v3 1) ?_
  ·exact rfl
  ·exact(a8 0 (pv 0))
  ·exact(u6 (i:=1) S.nd rfl (Or.inl rfl))
  refine d5 ?_ ?_
  ·refine p8 (PW.pt (R5 (E6 (D0 (a3H (.inr (.inr (.inr (.inr (.inl rfl))))) rfl M.z_isinstance (a8 1 (pv 1)) (a01 rfl M.z_tuple (by rfl) rfl)))) (M3 (j9 (X2 hu) (N5 C8 rfl M.z_len (by rfl) (a8 1 (pv 1))) b8 (by first|rfl|exact j5 _))))) ?_ ?_
   ·exact(e9 (j1 U9))
   exact n6
  refine e9 ?_
  refine p8 ?_ ?_ ?_
  ·exact(j9 (w8 hu) (i6 (a8 1 (pv 1)) b8) j2 (by first|rfl|exact j5 _))
  ·refine e9 ?_
   refine p8 (PW.pt (R5 (E6 (D0 (i7 v5 hr (by lia) rfl (b9 (b9 g9)) (a9 (i6 (a8 1 (pv 1)) b8) (a9 b8 d9))))) (M3 (E6 (D0 (i7 K8 hr (by lia) rfl (b9 g9) (a9 (i6 (a8 1 (pv 1)) b8) d9))))))) ?_ ?_
   ·exact(e9 (j1 U9))
   exact n6
  refine e9 ?_
  refine p8 (PW.pt (R5 (j9 (X2 hu) (i6 (a8 1 (pv 1)) b8) j2 (by first|rfl|exact j5 _)) (R5 (E6 (D0 (i7 v5 hr (by lia) rfl (b9 (b9 g9)) (a9 (i6 (a8 1 (pv 1)) b8) (a9 b8 d9))))) (M3 (E6 (D0 (i7 M2 hr (by lia) rfl (b9 g9) (a9 (i6 (a8 1 (pv 1)) b8) d9)))))))) ?_ ?_
  ·exact(e9 (j1 U9))
  exact n6
 exact(e9 (j1 U9))
theorem a6l(T6:Df K mg "_law_is_weaving" U3)(M:MoB K mg)(v5:S2 P w K mg base)(K8:a5N P w K mg base):∀n:Nat,i8 P w K mg base "_law_is_weaving" ["_law_weaving_here"] (17+n) (K2 n):=by
 intro n
 induction n with
 |zero=>exact k6 (k:=16) T6 a0p (fun _ _ _ _ _ _=>el1 (fun _=>rfl)) fun f cdv A outer s H E hr=>u3
 |succ n ih=>
  exact a6X P w base (Nat.le_add_right _ _) T6 M v5 K8 ih
theorem b11(D:Df K mg "_law_right" a45)(M:MoB K mg){C_CarpetError:AB}(x_CarpetError:XC K mg "CarpetError" C_CarpetError){C_NoFold:AB}(x_NoFold:XC K mg "NoFold" C_NoFold){C_NoWeaving:AB}(x_NoWeaving:XC K mg "NoWeaving" C_NoWeaving)(ks_NoFold_NoWeaving:PySem.W.kitOne K (.ref C_NoFold) (.ref C_NoWeaving)=some false)(ks_NoFold_ValueError:PySem.W.kitOne K (.ref C_NoFold) (.type "ValueError")=some true)(ks_NoWeaving_NoWeaving:PySem.W.kitOne K (.ref C_NoWeaving) (.ref C_NoWeaving)=some true)(ks_NoWeaving_ValueError:PySem.W.kitOne K (.ref C_NoWeaving) (.type "ValueError")=some true)(xf_NoFold:b4C K C_NoFold=true)(xf_NoWeaving:b4C K C_NoWeaving=true)(im_NoFold_CarpetError:a4K K C_NoFold C_CarpetError=true)(im_NoWeaving_CarpetError:a4K K C_NoWeaving C_CarpetError=true)(y8:a0T P w K mg base)(G6:Z2 P w K mg base)(M2:a7t P w K mg base)(W9:a82 P w K mg base):a7Z P w K mg base:=by
 refine k6 (k:=92) D a69 (fun _ _ _ _ _ _=>el1 (fun _=>rfl)) fun f cdv A outer s H E hr=> ?_
 have S:=a69
 have hu:=hr.units
 refine d5 ?_ ?_
 ·exact(j6 (i:=1) S.nd y9)
 refine d5 ?_ ?_
 ·refine b5S (i:=2) ?_ x_CarpetError (a6K x_CarpetError x_NoFold im_NoFold_CarpetError (a6K x_CarpetError x_NoWeaving im_NoWeaving_CarpetError b1F)) ?_ ?_
  ·exact S.nd
  ·intro Y pn E hx
   exact(a2v (b4N (i:=1) S.nd G6 hr (by decide) rfl hx (b9 g9) (a9 (a8 0 (pv 0)) d9)))
  intro a Y
  refine e9 ?_
  refine j1 ?_
  refine a88 ?_ ?_
  ·exact(b6P (cV:= .ref _) (a5z x_NoFold xf_NoFold ks_NoFold_NoWeaving (a5z x_NoWeaving xf_NoWeaving ks_NoWeaving_NoWeaving b3E)) (fun u h=>h) rfl M.z_isinstance (a8 2 (pv 2)) (b18 rfl x_NoWeaving.mg rfl))
  exact(b3V (b6P (cV:= .ty "ValueError") (a5z x_NoFold xf_NoFold ks_NoFold_ValueError (a5z x_NoWeaving xf_NoWeaving ks_NoWeaving_ValueError b3E)) (fun u h=>h) rfl M.z_isinstance (a8 2 (pv 2)) (a01 rfl M.z_ValueError (by rfl) rfl)))
 refine d5 ?_ ?_
 ·refine p8 (PW.pt (R5 (E6 (D0 (i7 M2 hr (by decide) rfl (b9 g9) (a9 (a8 1 (pv 1)) d9)))) (M3 (j9 (X2 hu) (i7 W9 hr (by decide) rfl (b9 g9) (a9 (a8 1 (pv 1)) d9)) (a8 0 (pv 0)) (by first|rfl|exact j5 _))))) ?_ ?_
  ·exact(e9 (j1 U9))
  exact n6
 refine d5 ?_ ?_
 ·exact(j6 (i:=3) S.nd (i7 y8 hr (by decide) rfl (b9 g9) (a9 (a8 1 (pv 1)) d9)))
 refine e9 ?_
 refine j1 ?_
 refine a88 ?_ ?_
 ·exact(b1r a0Z (N5 C8 rfl M.z_len (by rfl) (a8 3 (pv 3))) b8 (by first|rfl|exact j5 _))
 refine a88 ?_ ?_
 ·refine b1r (w8 hu) ?_ ?_ ?_
  ·refine a89 ?_ ?_ M.z_len ?_ M.z_set ?_
   ·exact rfl
   ·exact rfl
   ·exact rfl
   refine a3G (ys:=["_law_row"]) (N0:=["_law_text_here","_law_found","e","_law_cloth"]) (fun _ _ h=>h) ?_ ⟨by kernel_rfl,rfl,of_decide_eq_true rfl,of_decide_eq_true rfl,of_decide_eq_true rfl⟩ ?_ (fun C fp pins s H=>u6 (i:=4) a9A rfl (Or.inl rfl)) (fun n h=>X5 (i:=4) (Nat.le_of_eq h)) (fun C fp pins s H=>a58) ?_
   ·exact rfl
   ·exact(b1t (a8 3 (pv 3)))
   intro C fp pins s H
   exact(N5 C8 rfl M.z_len (by rfl) (a8 4 (pv 4)))
  ·exact b8
  first|rfl|exact j5 _
 exact(b3V (b1r a0Z (N5 C8 rfl M.z_len (by rfl) (i6 (a8 3 (pv 3)) b8)) b8 (by first|rfl|exact j5 _)))
theorem a9P(D:Df K mg "_law_no_text" a22){C_NoWeaving:AB}(x_NoWeaving:XC K mg "NoWeaving" C_NoWeaving)(im_NoWeaving_NoWeaving:a4K K C_NoWeaving C_NoWeaving=true)(G6:Z2 P w K mg base):a5O P w K mg base:=by
 refine k6 (k:=92) D a5f (fun _ _ _ _ _ _=>el1 (fun _=>rfl)) fun f cdv A outer s H E hr=> ?_
 have S:=a5f
 have hu:=hr.units
 exact(d5 (b4M x_NoWeaving (a6K x_NoWeaving x_NoWeaving im_NoWeaving_NoWeaving b1F) (fun Y pn E hx=>(a2v (b8S G6 hr (by decide) rfl hx (b9 g9) (a9 (a8 0 (pv 0)) d9)))) (fun a Y=>(e9 (j1 U9)))) (e9 (j1 U9)))
theorem b4m{k:Nat}(hk0:31≤k){a1T:List PV→Option f6}(D:Df K mg "unwoven" a5y)(d_unfolded:a3y P w K mg base)(a3c:i8 P w K mg base "unwoven" ["weaving"] k a1T):i8 P w K mg base "unwoven" ["weaving"] (k+1) (k9 2 (a5q a1T)):=by
 refine k6 (k:=k) D a6q (fun _ _ _ _ _ _=>el1 (fun _=>rfl)) fun f cdv A outer s H E hr=> ?_
 have S:=a6q
 have hu:=hr.units
 refine d5 ?_ ?_
 ·exact(j6 (i:=1) S.nd (C9 d9))
 refine d5 ?_ ?_
 ·refine X0 PassesOwn.never ?_ ?_ ?_ (v3 2) ?_
  ·exact rfl
  ·exact(a8 0 (pv 0))
  ·exact(u6 (i:=2) S.nd rfl (Or.inl rfl))
  refine e9 ?_
  refine p8 ?_ ?_ ?_
  ·exact(j9 (w8 hu) (i6 (a8 2 (pv 2)) b8) j2 (by first|rfl|exact j5 _))
  ·exact(e9 (a1n (i:=1) S.nd (f9 b3g (C9 (a9 (i7 d_unfolded hr (by lia) rfl (b9 g9) (a9 (i6 (a8 2 (pv 2)) b8) d9)) d9)) (i6 (a8 2 (pv 2)) b8)) b09))
  exact(e9 (a1n (i:=1) S.nd (f9 b3g (i7 a3c hr (by lia) rfl (b9 g9) (a9 (i6 (a8 2 (pv 2)) b8) d9)) (i6 (a8 2 (pv 2)) b8)) b09))
 exact(e9 (W0 1 (pv 1)))
theorem b27(a5n:Df K mg "unwoven" a5y)(d_unfolded:a3y P w K mg base):∀n:Nat,i8 P w K mg base "unwoven" ["weaving"] (31+n) (a0H n):=by
 intro n
 induction n with
 |zero=>exact k6 (k:=30) a5n a6q (fun _ _ _ _ _ _=>el1 (fun _=>rfl)) fun f cdv A outer s H E hr=>u3
 |succ n ih=>
  exact b4m P w base (Nat.le_add_right _ _) a5n d_unfolded ih
theorem b9d{k:Nat}(hk0:1≤k){a7s:List PV→Option f6}(D:Df K mg "cost" b2d)(a55:i8 P w K mg base "cost" ["fold"] k a7s):i8 P w K mg base "cost" ["fold"] (k+1) (k9 2 (b1l a7s)):=by
 refine k6 (k:=k) D b2e (fun _ _ _ _ _ _=>el1 (fun _=>rfl)) fun f cdv A outer s H E hr=> ?_
 have S:=b2e
 have hu:=hr.units
 refine d5 ?_ ?_
 ·exact(j6 (i:=1) S.nd b8)
 refine d5 ?_ ?_
 ·refine X0 PassesOwn.never ?_ ?_ ?_ (v3 2) ?_
  ·exact rfl
  ·exact(a8 0 (pv 0))
  ·exact(u6 (i:=2) S.nd rfl (Or.inl rfl))
  refine d5 ?_ ?_
  ·exact(a1n (i:=1) S.nd b8 V4)
  exact(e9 (p8 (j9 (w8 hu) (i6 (a8 2 (pv 2)) b8) j2 (by first|rfl|exact j5 _)) (e9 (a1n (i:=1) S.nd (i7 a55 hr (by lia) rfl (b9 g9) (a9 (i6 (a8 2 (pv 2)) b8) d9)) V4)) n6))
 exact(e9 (W0 1 (pv 1)))
theorem b7y(b1i:Df K mg "cost" b2d):∀n:Nat,i8 P w K mg base "cost" ["fold"] (1+n) (a6J n):=by
 intro n
 induction n with
 |zero=>exact k6 (k:=0) b1i b2e (fun _ _ _ _ _ _=>el1 (fun _=>rfl)) fun f cdv A outer s H E hr=>u3
 |succ n ih=>
  exact b9d P w base (Nat.le_add_right _ _) b1i ih
theorem a8C{k:Nat}(hk0:7≤k){M1:List PV→Option f6}(D:Df K mg "weaving_cost" a0n)(a55:b6w P w K mg base)(S6:i8 P w K mg base "weaving_cost" ["weaving"] k M1):i8 P w K mg base "weaving_cost" ["weaving"] (k+1) (k9 2 (Z5 M1)):=by
 refine k6 (k:=k) D a1w (fun _ _ _ _ _ _=>el1 (fun _=>rfl)) fun f cdv A outer s H E hr=> ?_
 have S:=a1w
 have hu:=hr.units
 refine d5 ?_ ?_
 ·exact(j6 (i:=1) S.nd b8)
 refine d5 ?_ ?_
 ·refine X0 PassesOwn.never ?_ ?_ ?_ (v3 2) ?_
  ·exact rfl
  ·exact(a8 0 (pv 0))
  ·exact(u6 (i:=2) S.nd rfl (Or.inl rfl))
  refine d5 ?_ ?_
  ·exact(a1n (i:=1) S.nd b8 V4)
  refine e9 ?_
  refine p8 ?_ ?_ ?_
  ·exact(j9 (w8 hu) (i6 (a8 2 (pv 2)) b8) j2 (by first|rfl|exact j5 _))
  ·exact(e9 (a1n (i:=1) S.nd (i7 a55 hr (by lia) rfl (b9 g9) (a9 (i6 (a8 2 (pv 2)) b8) d9)) V4))
  exact(e9 (a1n (i:=1) S.nd (i7 S6 hr (by lia) rfl (b9 g9) (a9 (i6 (a8 2 (pv 2)) b8) d9)) V4))
 exact(e9 (W0 1 (pv 1)))
theorem a7L(Y9:Df K mg "weaving_cost" a0n)(a55:b6w P w K mg base):∀n:Nat,i8 P w K mg base "weaving_cost" ["weaving"] (7+n) (P5 n):=by
 intro n
 induction n with
 |zero=>exact k6 (k:=6) Y9 a1w (fun _ _ _ _ _ _=>el1 (fun _=>rfl)) fun f cdv A outer s H E hr=>u3
 |succ n ih=>
  exact a8C P w base (Nat.le_add_right _ _) Y9 a55 ih
theorem b3a{k:Nat}(hk0:1≤k){a0y:List PV→Option f6}(D:Df K mg "_law_cost" a3W)(M:MoB K mg)(W8:i8 P w K mg base "_law_cost" ["_law_fold_here"] k a0y):i8 P w K mg base "_law_cost" ["_law_fold_here"] (k+1) (k9 2 (a3A a0y)):=by
 refine k6 (k:=k) D a5d (fun _ _ _ _ _ _=>el1 (fun _=>rfl)) fun f cdv A outer s H E hr=> ?_
 have S:=a5d
 have hu:=hr.units
 refine d5 ?_ ?_
 ·exact(j6 (i:=1) S.nd (N5 C8 rfl M.z_len (by rfl) (a8 0 (pv 0))))
 refine d5 ?_ ?_
 ·refine X0 PassesOwn.never ?_ ?_ ?_ (v3 2) ?_
  ·exact rfl
  ·exact(a8 0 (pv 0))
  ·exact(u6 (i:=2) S.nd rfl (Or.inl rfl))
  exact(e9 (p8 (j9 (w8 hu) (i6 (a8 2 (pv 2)) b8) j2 (by first|rfl|exact j5 _)) (e9 (j6 (i:=1) S.nd (f9 i9 (a8 1 (pv 1)) (i7 W8 hr (by lia) rfl (b9 g9) (a9 (i6 (a8 2 (pv 2)) b8) d9))))) n6))
 exact(e9 (W0 1 (pv 1)))
theorem b1T(a3t:Df K mg "_law_cost" a3W)(M:MoB K mg):∀n:Nat,i8 P w K mg base "_law_cost" ["_law_fold_here"] (1+n) (a1d n):=by
 intro n
 induction n with
 |zero=>exact k6 (k:=0) a3t a5d (fun _ _ _ _ _ _=>el1 (fun _=>rfl)) fun f cdv A outer s H E hr=>u3
 |succ n ih=>
  exact b3a P w base (Nat.le_add_right _ _) a3t M ih
theorem b10{k:Nat}(hk0:7≤k){X6:List PV→Option f6}(D:Df K mg "_law_price" a2E)(M:MoB K mg)(W8:a81 P w K mg base)(a06:i8 P w K mg base "_law_price" ["_law_weaving_here"] k X6):i8 P w K mg base "_law_price" ["_law_weaving_here"] (k+1) (k9 2 (a2r X6)):=by
 refine k6 (k:=k) D a33 (fun _ _ _ _ _ _=>el1 (fun _=>rfl)) fun f cdv A outer s H E hr=> ?_
 have S:=a33
 have hu:=hr.units
 refine d5 ?_ ?_
 ·exact(j6 (i:=1) S.nd (N5 C8 rfl M.z_len (by rfl) (a8 0 (pv 0))))
 refine d5 ?_ ?_
 ·refine X0 PassesOwn.never ?_ ?_ ?_ (v3 2) ?_
  ·exact rfl
  ·exact(a8 0 (pv 0))
  ·exact(u6 (i:=2) S.nd rfl (Or.inl rfl))
  refine e9 ?_
  refine p8 ?_ ?_ ?_
  ·exact(j9 (w8 hu) (i6 (a8 2 (pv 2)) b8) j2 (by first|rfl|exact j5 _))
  ·exact(e9 (j6 (i:=1) S.nd (f9 i9 (a8 1 (pv 1)) (i7 W8 hr (by lia) rfl (b9 g9) (a9 (i6 (a8 2 (pv 2)) b8) d9)))))
  exact(e9 (j6 (i:=1) S.nd (f9 i9 (a8 1 (pv 1)) (i7 a06 hr (by lia) rfl (b9 g9) (a9 (i6 (a8 2 (pv 2)) b8) d9)))))
 exact(e9 (W0 1 (pv 1)))
theorem b0r(a2m:Df K mg "_law_price" a2E)(M:MoB K mg)(W8:a81 P w K mg base):∀n:Nat,i8 P w K mg base "_law_price" ["_law_weaving_here"] (7+n) (a0a n):=by
 intro n
 induction n with
 |zero=>exact k6 (k:=6) a2m a33 (fun _ _ _ _ _ _=>el1 (fun _=>rfl)) fun f cdv A outer s H E hr=>u3
 |succ n ih=>
  exact b10 P w base (Nat.le_add_right _ _) a2m M W8 ih
theorem a7O(D:Df K mg "written_times" a1t)(M:MoB K mg):O8 P w K mg base:=by
 refine k6 (k:=0) D a3p (fun _ _ _ _ _ _=>el1 (fun _=>rfl)) fun f cdv A outer s H E hr=> ?_
 have S:=a3p
 have hu:=hr.units
 exact(d5 (p8 (j9 (w8 hu) (a8 0 (pv 0)) b8 (by first|rfl|exact j5 _)) (e9 (j1 j2)) n6) (e9 (j1 (a6C a7z rfl M.z_str (by rfl) (a8 0 (pv 0))))))
theorem b0v{k:Nat}(hk0:1≤k){z8 R_shown_part_folds:List PV→Option f6}(D:Df K mg "shown_fold" a1P)(g:a3x P w K mg base k z8 R_shown_part_folds):i8 P w K mg base "shown_fold" ["fold"] (k+1) (k9 0 (a1E z8 R_shown_part_folds)):=by
 refine k6 (k:=k) D a25 (fun _ _ _ _ _ _=>el1 (fun _=>rfl)) fun f cdv A outer s H E hr=> ?_
 have S:=a25
 have hu:=hr.units
 refine e9 ?_
 refine j1 ?_
 refine a1F ?_ ?_
 ·exact j2
 refine a3G (ys:=["part"]) (N0:=["fold"]) (fun _ _ h=>h) ?_ ⟨by kernel_rfl,rfl,of_decide_eq_true rfl,of_decide_eq_true rfl,of_decide_eq_true rfl⟩ ?_ (fun C fp pins s H=>u6 (i:=1) a8s rfl (Or.inl rfl)) (fun n h=>X5 (i:=1) (Nat.le_of_eq h)) (fun C fp pins s H=>a58) ?_
 ·exact rfl
 ·exact(b1t (a8 0 (pv 0)))
 intro C fp pins s H
 exact(i7 g.d_shown_part_folds hr (by lia) rfl (b9 g9) (a9 (a8 1 (pv 1)) d9))
theorem a5L{k:Nat}(hk0:1≤k){z8 R_shown_part_folds:List PV→Option f6}(D:DfA K mg "shown_part_folds" "shown_part" O3)(M:MoB K mg)(z9:O8 P w K mg base)(g:a3x P w K mg base k z8 R_shown_part_folds):i8 P w K mg base "shown_part_folds" ["part"] (k+1) (k9 0 (O0 z8 R_shown_part_folds)):=by
 refine a8L (k:=k) D U4 (fun _ _ _ _ _ _=>el1 (fun _=>rfl)) fun f cdv A outer s H E hr=> ?_
 have S:=U4
 have hu:=hr.units
 refine d5 ?_ ?_
 ·exact(p8 (j9 (w8 hu) (i6 (a8 0 (pv 0)) b8) j2 (by first|rfl|exact j5 _)) (e9 (j1 (f9 i9 (i6 (a8 0 (pv 0)) b8) (i7 z9 hr (by lia) rfl (b9 g9) (a9 (i6 (a8 0 (pv 0)) b8) d9))))) n6)
 exact(e9 (j1 (f9 i9 (f9 i9 (f9 i9 j2 (i7 g.d_shown_fold hr (by lia) rfl (b9 g9) (a9 (i6 (a8 0 (pv 0)) b8) d9))) j2) (a6C a7z rfl M.z_str (by rfl) (i6 (a8 0 (pv 0)) b8)))))
theorem a9L(a1C:Df K mg "shown_fold" a1P)(D_shown_part_folds:DfA K mg "shown_part_folds" "shown_part" O3)(M:MoB K mg)(z9:O8 P w K mg base):∀n:Nat,a3x P w K mg base (1+n) (Q5 n) (E3 n):=by
 intro n
 induction n with
 |zero=>exact⟨k6 (k:=0) a1C a25 (fun _ _ _ _ _ _=>el1 (fun _=>rfl)) fun f cdv A outer s H E hr=>u3,a8L (k:=0) D_shown_part_folds U4 (fun _ _ _ _ _ _=>el1 (fun _=>rfl)) fun f cdv A outer s H E hr=>u3⟩
 |succ n ih=>
  exact⟨b0v P w base (Nat.le_add_right _ _) a1C ih,a5L P w base (Nat.le_add_right _ _) D_shown_part_folds M z9 ih⟩
theorem a3Q{k:Nat}(hk0:31≤k){R_shown_part_weavings u4:List PV→Option f6}(D:DfA K mg "shown_part_weavings" "shown_part" J8)(M:MoB K mg)(z9:O8 P w K mg base)(d_shown_fold:a6u P w K mg base)(g:Q9 P w K mg base k R_shown_part_weavings u4):i8 P w K mg base "shown_part_weavings" ["part"] (k+1) (k9 0 (J6 R_shown_part_weavings u4)):=by
 refine a8L (k:=k) D O4 (fun _ _ _ _ _ _=>el1 (fun _=>rfl)) fun f cdv A outer s H E hr=> ?_
 have S:=O4
 have hu:=hr.units
 refine d5 ?_ ?_
 ·refine p8 ?_ ?_ ?_
  ·exact(j9 (w8 hu) (i6 (a8 0 (pv 0)) b8) j2 (by first|rfl|exact j5 _))
  ·refine e9 ?_
   exact(j1 (f9 i9 (f9 i9 (f9 i9 j2 (i7 d_shown_fold hr (by lia) rfl (b9 g9) (a9 (i6 (a8 0 (pv 0)) b8) d9))) j2) (i7 z9 hr (by lia) rfl (b9 g9) (a9 (i6 (a8 0 (pv 0)) b8) d9))))
  exact n6
 exact(e9 (j1 (f9 i9 (f9 i9 (f9 i9 j2 (i7 g.d_shown_weaving hr (by lia) rfl (b9 g9) (a9 (i6 (a8 0 (pv 0)) b8) d9))) j2) (a6C a7z rfl M.z_str (by rfl) (i6 (a8 0 (pv 0)) b8)))))
theorem a7M{k:Nat}(hk0:31≤k){R_shown_part_weavings u4:List PV→Option f6}(D:Df K mg "shown_weaving" W4)(g:Q9 P w K mg base k R_shown_part_weavings u4):i8 P w K mg base "shown_weaving" ["weaving"] (k+1) (k9 0 (V8 R_shown_part_weavings u4)):=by
 refine k6 (k:=k) D a0M (fun _ _ _ _ _ _=>el1 (fun _=>rfl)) fun f cdv A outer s H E hr=> ?_
 have S:=a0M
 have hu:=hr.units
 refine e9 ?_
 refine j1 ?_
 refine a1F ?_ ?_
 ·exact j2
 refine a3G (ys:=["part"]) (N0:=["weaving"]) (fun _ _ h=>h) ?_ ⟨by kernel_rfl,rfl,of_decide_eq_true rfl,of_decide_eq_true rfl,of_decide_eq_true rfl⟩ ?_ (fun C fp pins s H=>u6 (i:=1) a6i rfl (Or.inl rfl)) (fun n h=>X5 (i:=1) (Nat.le_of_eq h)) (fun C fp pins s H=>a58) ?_
 ·exact rfl
 ·exact(b1t (a8 0 (pv 0)))
 intro C fp pins s H
 exact(i7 g.d_shown_part_weavings hr (by lia) rfl (b9 g9) (a9 (a8 1 (pv 1)) d9))
theorem a3m(D_shown_part_weavings:DfA K mg "shown_part_weavings" "shown_part" J8)(V7:Df K mg "shown_weaving" W4)(M:MoB K mg)(z9:O8 P w K mg base)(d_shown_fold:a6u P w K mg base):∀n:Nat,Q9 P w K mg base (31+n) (B6 n) (G5 n):=by
 intro n
 induction n with
 |zero=>exact⟨a8L (k:=30) D_shown_part_weavings O4 (fun _ _ _ _ _ _=>el1 (fun _=>rfl)) fun f cdv A outer s H E hr=>u3,k6 (k:=30) V7 a0M (fun _ _ _ _ _ _=>el1 (fun _=>rfl)) fun f cdv A outer s H E hr=>u3⟩
 |succ n ih=>
  exact⟨a3Q P w base (Nat.le_add_right _ _) D_shown_part_weavings M z9 d_shown_fold ih,a7M P w base (Nat.le_add_right _ _) V7 ih⟩
theorem a9Q(D:Df K mg "_law_spoiled" a23)(M:MoB K mg):a5P P w K mg base:=by
 refine k6 (k:=0) D a5g (fun _ _ _ _ _ _=>el2 (fun _ _=>rfl)) fun f cdv A outer s H E hr=> ?_
 have S:=a5g
 have hu:=hr.units
 refine d5 ?_ ?_
 ·exact(j6 (i:=2) S.nd (f9 x8 (a8 1 (pv 1)) b8))
 refine d5 ?_ ?_
 ·exact(j6 (i:=3) S.nd (f9 x8 (f9 D6 (a8 1 (pv 1)) b8) (f9 i9 (N5 C8 rfl M.z_len (by rfl) (a8 0 (pv 0))) b8)))
 refine d5 ?_ ?_
 ·exact(j6 (i:=4) S.nd (i6 j2 (f9 x8 (f9 D6 (a8 1 (pv 1)) b8) b8)))
 refine d5 ?_ ?_
 ·exact(p8 (j9 (w8 hu) (a8 2 (pv 2)) b8 (by first|rfl|exact j5 _)) (e9 (j1 (f9 i9 (O9 (a8 0 (pv 0)) a1G (O1 (a8 3 (pv 3)))) (O9 (a8 0 (pv 0)) (O1 (f9 i9 (a8 3 (pv 3)) b8)) a1G)))) n6)
 refine d5 ?_ ?_
 ·refine p8 ?_ ?_ ?_
  ·exact(j9 (w8 hu) (a8 2 (pv 2)) b8 (by first|rfl|exact j5 _))
  ·exact(e9 (j1 (f9 i9 (f9 i9 (O9 (a8 0 (pv 0)) a1G (O1 (a8 3 (pv 3)))) (a8 4 (pv 4))) (O9 (a8 0 (pv 0)) (O1 (f9 i9 (a8 3 (pv 3)) b8)) a1G))))
  exact n6
 exact(e9 (j1 (f9 i9 (f9 i9 (O9 (a8 0 (pv 0)) a1G (O1 (a8 3 (pv 3)))) (a8 4 (pv 4))) (O9 (a8 0 (pv 0)) (O1 (a8 3 (pv 3))) a1G))))
theorem c0X{f:AB}{fd:FuncData}(F:Fun K "law" "law" b74 f fd)(M:MoB K mg)(a4z:a71 P w K mg base)(W9:a82 P w K mg base)(o9:E4 P w K mg base)(a4y:a7Z P w K mg base)(a2N:a5O P w K mg base)(a3c:b5D P w K mg base)(y8:a0T P w K mg base)(S6:a84 P w K mg base)(a06:b2y P w K mg base)(d_shown_weaving:a8l P w K mg base)(G6:Z2 P w K mg base)(a2O:a5P P w K mg base):a05 P w K mg base CX0 94 f fd ["_law_script"] (spP K 1 b7a):=by
 refine b6Y (k:=93) F b75 fun cdv A outer s H E hr=> ?_
 have S:=b75
 have hu:=hr.units
 refine d5 ?_ ?_
 ·exact(j6 (i:=1) S.nd j2)
 refine d5 ?_ ?_
 ·refine a4D PassesOwn.never ?_ ?_ M.z_range ?_ ?_ (v3 2) ?_
  ·exact rfl
  ·exact rfl
  ·exact(a9 b8 d9)
  ·exact(u6 (i:=2) S.nd rfl (Or.inl rfl))
  refine d5 ?_ ?_
  ·exact(j6 (i:=3) S.nd (i7 a4z hr (by decide) rfl (b9 (b9 g9)) (a9 (a8 0 (pv 0)) (a9 (f9 J3 b8 (a8 2 (pv 2))) d9))))
  refine d5 ?_ ?_
  ·exact(j6 (i:=1) S.nd (i7 W9 hr (by decide) rfl (b9 g9) (a9 (a8 3 (pv 3)) d9)))
  refine d5 ?_ ?_
  ·refine p8 (PW.pt (R5 (j9 (X2 hu) (i7 a3c hr (by decide) rfl (b9 g9) (a9 (a8 3 (pv 3)) d9)) (i7 y8 hr (by decide) rfl (b9 g9) (a9 (a8 3 (pv 3)) d9)) (by first|rfl|exact j5 _)) (M3 (j9 (X2 hu) (i7 S6 hr (by decide) rfl (b9 g9) (a9 (a8 3 (pv 3)) d9)) (i7 a06 hr (by decide) rfl (b9 g9) (a9 (a8 3 (pv 3)) d9)) (by first|rfl|exact j5 _))))) ?_ ?_
   ·exact(e9 (j1 U9))
   exact n6
  refine e9 ?_
  refine p8 (PW.pt (R5 (j9 (X2 hu) (i7 d_shown_weaving hr (by decide) rfl (b9 g9) (a9 (a8 3 (pv 3)) d9)) (a8 1 (pv 1)) (by first|rfl|exact j5 _)) (M3 (j9 (X2 hu) (b8M G6 hr (by decide) rfl (b9 g9) (a9 (a8 1 (pv 1)) d9)) (a8 3 (pv 3)) (by first|rfl|exact j5 _))))) ?_ ?_
  ·exact(e9 (j1 U9))
  exact n6
 refine d5 ?_ ?_
 ·refine X0 PassesOwn.never ?_ ?_ ?_ (v3 4) ?_
  ·exact rfl
  ·exact(f9 i9 (O9 (a8 0 (pv 0)) a1G (O1 b8)) (G7 (a9 b8 d9)))
  ·exact(u6 (i:=4) S.nd rfl (Or.inl rfl))
  refine d5 ?_ ?_
  ·exact(j6 (i:=5) S.nd (i7 o9 hr (by decide) rfl (b9 g9) (a9 (a8 4 (pv 4)) d9)))
  refine d5 ?_ ?_
  ·exact(p8 (E6 (D0 (i7 a4y hr (by decide) rfl (b9 g9) (a9 (i7 a2O hr (by decide) rfl (b9 (b9 g9)) (a9 (a8 1 (pv 1)) (a9 (a8 5 (pv 5)) d9))) d9)))) (e9 (j1 U9)) n6)
  refine d5 ?_ ?_
  ·refine j6 (i:=6) ?_ ?_
   ·exact S.nd
   refine G7 ?_
   refine a9 ?_ ?_
   ·exact y9
   refine a9 ?_ ?_
   ·exact b8
   refine a9 ?_ ?_
   ·exact(G7 (a9 j2 d9))
   exact(a9 (G7 (a9 (C9 (a9 j2 (a9 b8 (a9 (G7 (a9 (C9 (a9 j2 (a9 j2 (a9 b8 d9)))) d9)) d9)))) d9)) (a9 U9 (a9 j2 (a9 j2 (a9 j2 d9)))))
  exact(e9 (p8 (E6 (D0 (i7 a2N hr (by decide) rfl (b9 g9) (a9 (i6 (a8 6 (pv 6)) (f9 x8 (a8 5 (pv 5)) b8)) d9)))) (e9 (j1 U9)) n6))
 exact(e9 (j1 U9))
end
theorem c0n{l:PySem.W.OpenLaw}{w:AJ}{K:AE}{h:Heap}{mg:Str→Option AA}{fa:AB}(X:K.In h)(G:h.Ns mainGlobals mg)(hfa:mg "law"=some (.ref fa))
 {S7:AB} {a8u a8m:Option AB} {a8G:Array (Option AA)} {a8t a8r a8o a8D a4d a8n:AA}
 {K0:AB} {a6k a51:Option AB} {a6r:Array (Option AA)} {a6j a6g a56 a6n a1Z a53:AA}
 {C_CarpetError:AB}
 {C_NoFold:AB}
 {C_NoWeaving:AB}
 {uu_LONGEST:AA}
 {uu_MOST_FIGURES:AA}
 {uu_MOST_WITHIN:AA}
 (o9:Df0 K "_law_number" a3Y)
 (t5:Df0 K "_law_unfolded" a0m)
 (a13:Df0 K "_law_fold" a3X)
 (K7:Df0 K "_law_cell_at" a21)
 (a2u:Df0 K "_law_drawn" a43)
 (a7A:Df0 K "_law_run" a7T)
 (a4x:Df0 K "_law_lines" a44)
 (y8:Df0 K "_law_unwoven" a03)
 (U8:Df0 K "_law_weaving" a04)
 (a4z:Df0 K "_law_woven" a46)
 (S5:Df0 K "_law_shown" a2F)
 (W9:Df0 K "_law_text" a3Z)
 (a7B:Df0 K "run_end" a7V)
 (U7:Df0 K "figures_end" a20)
 (a4A:Df0 K "number_in" a47)
 (a0D:Df0 K "number_between" a0L)
 (B2:Df0 K "times_at" a6o)
 (a4C:Df0 K "run_of" a93)
 (d_again_at:Df0 K "again_at" a3U)
 (a4s:PySem.W.nsIn K mainGlobals "fold_part_at"=some (some (.ref S7))) (a4Q:K.lookup S7=some ⟨a8t,a8u,.func (PySem.W.fnOf "fold_part_at" "fold_part_at" (U0 J5) (E5 J5) (g8 J5) .none a8r a8o a8D a8m a4d a8n),a8G⟩) (a86:PySem.W.codeIn K a4d "fold_part_at"=true) (a9n:PySem.W.keepIn K (.ref S7)=true) (a8p:b4n K "fold_part_at" S7=true)
 (d_parts_at:Df0 K "parts_at" a30)
 (a12:Df0 K "knots_in" a3V)
 (a4B:Df0 K "read_fold" a48)
 (a3a:Df0 K "rows_at" a7U)
 (d_again_atW:Df0 K "again_at" a2D)
 (d_parts_atW:Df0 K "parts_at" a2G)
 (a2q:PySem.W.nsIn K mainGlobals "weaving_part_at"=some (some (.ref K0))) (a2z:K.lookup K0=some ⟨a6j,a6k,.func (PySem.W.fnOf "weaving_part_at" "weaving_part_at" (U0 B9) (E5 B9) (g8 B9) .none a6g a56 a6n a51 a1Z a53),a6r⟩) (a6y:PySem.W.codeIn K a1Z "weaving_part_at"=true) (a6L:PySem.W.keepIn K (.ref K0)=true) (a6a:b4n K "weaving_part_at" K0=true)
 (a3b:Df0 K "rows_in" a5x)
 (d_unfolded:Df0 K "unfolded" a31)
 (d_unfolded_part:Df0 K "unfolded_part" W5)
 (Z7:Df0 K "lengths_in" a1O)
 (G6:Df0 K "read_weaving" a2g)
 (v5:Df0 K "_law_is_count" a2f)
 (K8:Df0 K "_law_is_fold" a02)
 (M2:Df0 K "_law_is_weaving" U3)
 (a4y:Df0 K "_law_right" a45)
 (a2N:Df0 K "_law_no_text" a22)
 (a3c:Df0 K "unwoven" a5y)
 (a55:Df0 K "cost" b2d)
 (S6:Df0 K "weaving_cost" a0n)
 (W8:Df0 K "_law_cost" a3W)
 (a06:Df0 K "_law_price" a2E)
 (z9:Df0 K "written_times" a1t)
 (d_shown_fold:Df0 K "shown_fold" a1P)
 (d_shown_part_folds:b6o K "shown_part_folds" "shown_part" O3)
 (d_shown_part_weavings:b6o K "shown_part_weavings" "shown_part" J8)
 (d_shown_weaving:Df0 K "shown_weaving" W4)
 (a2O:Df0 K "_law_spoiled" a23)
 (c1Q:Df0 K "law" b74)
 (xa_CarpetError:PySem.W.nsIn K mainGlobals "CarpetError"=some (some (.ref C_CarpetError))) (xq_CarpetError:(a9y K C_CarpetError "CarpetError" && a9b K C_CarpetError)=true)
 (xa_NoFold:PySem.W.nsIn K mainGlobals "NoFold"=some (some (.ref C_NoFold))) (xq_NoFold:(a9y K C_NoFold "NoFold" && a9b K C_NoFold)=true)
 (xa_NoWeaving:PySem.W.nsIn K mainGlobals "NoWeaving"=some (some (.ref C_NoWeaving))) (xq_NoWeaving:(a9y K C_NoWeaving "NoWeaving" && a9b K C_NoWeaving)=true)
 (xf_NoFold:b4C K C_NoFold=true)
 (xf_NoWeaving:b4C K C_NoWeaving=true)
 (xe_NoFold:PySem.W.excIn K C_NoFold a9x "ValueError.__new__"=true)
 (xe_NoWeaving:PySem.W.excIn K C_NoWeaving a9x "ValueError.__new__"=true)
 (ks_NoFold_NoWeaving:PySem.W.kitOne K (.ref C_NoFold) (.ref C_NoWeaving)=some false)
 (ks_NoFold_ValueError:PySem.W.kitOne K (.ref C_NoFold) (.type "ValueError")=some true)
 (ks_NoWeaving_NoWeaving:PySem.W.kitOne K (.ref C_NoWeaving) (.ref C_NoWeaving)=some true)
 (ks_NoWeaving_ValueError:PySem.W.kitOne K (.ref C_NoWeaving) (.type "ValueError")=some true)
 (im_NoFold_CarpetError:a4K K C_NoFold C_CarpetError=true)
 (im_NoFold_NoFold:a4K K C_NoFold C_NoFold=true)
 (im_NoWeaving_CarpetError:a4K K C_NoWeaving C_CarpetError=true)
 (im_NoWeaving_NoWeaving:a4K K C_NoWeaving C_NoWeaving=true)
 (z_ValueError:PySem.W.nsIn K mainGlobals "ValueError"=some none)
 (z_bool:PySem.W.nsIn K mainGlobals "bool"=some none)
 (z_int:PySem.W.nsIn K mainGlobals "int"=some none)
 (z_isinstance:PySem.W.nsIn K mainGlobals "isinstance"=some none)
 (z_len:PySem.W.nsIn K mainGlobals "len"=some none)
 (z_list:PySem.W.nsIn K mainGlobals "list"=some none)
 (z_min:PySem.W.nsIn K mainGlobals "min"=some none)
 (z_range:PySem.W.nsIn K mainGlobals "range"=some none)
 (z_set:PySem.W.nsIn K mainGlobals "set"=some none)
 (z_str:PySem.W.nsIn K mainGlobals "str"=some none)
 (z_tuple:PySem.W.nsIn K mainGlobals "tuple"=some none)
 (e_LONGEST:PySem.W.nsIn K mainGlobals "LONGEST"=some (some uu_LONGEST)) (q_LONGEST:a2K K 40 uu_LONGEST=some Q8)
 (e_MOST_FIGURES:PySem.W.nsIn K mainGlobals "MOST_FIGURES"=some (some uu_MOST_FIGURES)) (q_MOST_FIGURES:a2K K 40 uu_MOST_FIGURES=some a0t)
 (e_MOST_WITHIN:PySem.W.nsIn K mainGlobals "MOST_WITHIN"=some (some uu_MOST_WITHIN)) (q_MOST_WITHIN:a2K K 40 uu_MOST_WITHIN=some L6)
 :∃fd:FuncData,(∀(s:AC) (v:AA),BindsTo s fd ⟨[v],[]⟩ [("_law_script",v)])∧∀base:Heap,K.In base→base.Ns mainGlobals mg→a05 l.prog w K mg base CX0 94 fa fd ["_law_script"] (b3y K):=by
 have u9:FnV K mg "fold_part_at" S7:=b6Z (PySem.W.mg_of X G a4s) a4Q rfl a8p
 have d_fold_part_at:Df0 K "fold_part_at" J5:=b6M a4s a4Q a86 a9n
 have p6:FnV K mg "weaving_part_at" K0:=b6Z (PySem.W.mg_of X G a2q) a2z rfl a6a
 have d_weaving_part_at:Df0 K "weaving_part_at" B9:=b6M a2q a2z a6y a6L
 have x_CarpetError:XC K mg "CarpetError" C_CarpetError:=b8v X G xa_CarpetError xq_CarpetError
 have x_NoFold:XC K mg "NoFold" C_NoFold:=b8v X G xa_NoFold xq_NoFold
 have x_NoWeaving:XC K mg "NoWeaving" C_NoWeaving:=b8v X G xa_NoWeaving xq_NoWeaving
 have M:MoB K mg:=⟨PySem.W.mg_none_of X G z_ValueError,PySem.W.mg_none_of X G z_bool,PySem.W.mg_none_of X G z_int,PySem.W.mg_none_of X G z_isinstance,PySem.W.mg_none_of X G z_len,PySem.W.mg_none_of X G z_list,PySem.W.mg_none_of X G z_min,PySem.W.mg_none_of X G z_range,PySem.W.mg_none_of X G z_set,PySem.W.mg_none_of X G z_str,PySem.W.mg_none_of X G z_tuple⟩
 have mm_LONGEST:=PySem.W.mg_of X G e_LONGEST
 have mm_MOST_FIGURES:=PySem.W.mg_of X G e_MOST_FIGURES
 have mm_MOST_WITHIN:=PySem.W.mg_of X G e_MOST_WITHIN
 refine b83 (c1Q.to X G) hfa (fun _ _ _ _ _ _ _=>rfl) main fun base f fd kb F=> ?_
 have T7:=b0t l.prog w base (o9.to X G)
 obtain M0:=a7K l.prog w base (t5.to X G) M 16
 obtain a3u:=b1U l.prog w base (a13.to X G) M T7 M0 6
 have a2I:=a9N l.prog w base (K7.to X G) M
 have b2q:=b1Y l.prog w base (a2u.to X G) a3u T7 a2I
 have b5y:=b4i l.prog w base (a7A.to X G)
 have b2r:=b1Z l.prog w base (a4x.to X G) M b2q M0 T7 b5y a2I
 obtain P7:=a8w l.prog w base (y8.to X G) M M0 16
 obtain a0R:=a8x l.prog w base (U8.to X G) M T7 P7 6
 have b2t:=b13 l.prog w base (a4z.to X G) b2r a0R T7 a2I
 obtain a2n:=b0s l.prog w base (S5.to X G) M 16
 obtain a1V:=b1V l.prog w base (W9.to X G) M a2n 16
 have b5A:=b4l l.prog w base (a7B.to X G) M
 have a5M:=a9M l.prog w base (U7.to X G) b5A
 have b2u:=b14 l.prog w base (a4A.to X G) M mm_MOST_FIGURES q_MOST_FIGURES a5M
 have a7o:=a6Y l.prog w base (a0D.to X G) b2u
 have a5Z:=b3e l.prog w base (B2.to X G) mm_LONGEST q_LONGEST a5M a7o
 have b6n:=b6c l.prog w base (a4C.to X G)
 obtain⟨D_again_at,Y8,a3v⟩:=b1R l.prog w base (d_again_at.to X G) (d_fold_part_at.to X G) (d_parts_at.to X G) u9 a5Z b6n 42
 obtain a3s:=b1S l.prog w base (a12.to X G) 16
 have b2v:=b16 l.prog w base (a4B.to X G) M kb x_NoFold u9 xe_NoFold mm_LONGEST q_LONGEST mm_MOST_WITHIN q_MOST_WITHIN a3v Y8 a3s
 have b5z:=b4j l.prog w base (a3a.to X G) x_NoFold im_NoFold_NoFold a5Z b2v
 obtain⟨D_again_atW,a2o,R1⟩:=b0q l.prog w base (d_again_atW.to X G) (d_parts_atW.to X G) (d_weaving_part_at.to X G) p6 a5Z b5z 42
 obtain a5m:=b26 l.prog w base (a3b.to X G) 16
 obtain⟨a1X,D_unfolded_part⟩:=b1W l.prog w base (d_unfolded.to X G) (d_unfolded_part.to X G) 30
 obtain a1B:=a9K l.prog w base (Z7.to X G) M a1X 16
 have a1W:=a8B l.prog w base (G6.to X G) M kb x_NoWeaving p6 xe_NoWeaving mm_LONGEST q_LONGEST mm_MOST_WITHIN q_MOST_WITHIN a2o R1 a5m a1B
 have a4p:=a8z l.prog w base (v5.to X G) M
 obtain a0Q:=a8v l.prog w base (K8.to X G) M a4p 16
 obtain T6:=a6l l.prog w base (M2.to X G) M a4p a0Q 16
 have b2s:=b11 l.prog w base (a4y.to X G) M x_CarpetError x_NoFold x_NoWeaving ks_NoFold_NoWeaving ks_NoFold_ValueError ks_NoWeaving_NoWeaving ks_NoWeaving_ValueError xf_NoFold xf_NoWeaving im_NoFold_CarpetError im_NoWeaving_CarpetError P7 a1W T6 a1V
 have b0g:=a9P l.prog w base (a2N.to X G) x_NoWeaving im_NoWeaving_NoWeaving a1W
 obtain a5n:=b27 l.prog w base (a3c.to X G) a1X 6
 obtain b1i:=b7y l.prog w base (a55.to X G) 6
 obtain Y9:=a7L l.prog w base (S6.to X G) b1i 6
 obtain a3t:=b1T l.prog w base (W8.to X G) M 6
 obtain a2m:=b0r l.prog w base (a06.to X G) M a3t 6
 have a4a:=a7O l.prog w base (z9.to X G) M
 obtain⟨a1C,D_shown_part_folds⟩:=a9L l.prog w base (d_shown_fold.to X G) (d_shown_part_folds.to X G) M a4a 30
 obtain⟨D_shown_part_weavings,V7⟩:=a3m l.prog w base (d_shown_part_weavings.to X G) (d_shown_weaving.to X G) M a4a a1C 30
 have b0h:=a9Q l.prog w base (a2O.to X G) M
 exact c0X l.prog w base F M b2t a1V T7 b2s b0g a5n P7 Y9 a2m V7 a1W b0h
end LW
namespace PySem.W.Fast
def tw12415843257821670668:=()
def tw11148012135313323834:=()
def tw17167296772997109951:=()
def tw4713135714285308582:=()
def tw10707969815762405151:=()
def tw10456761788838010630:=()
def tw5915759385441116440:=()
def tw12235741533472989939:=()
def tw6737755129076616008:=()
def tw16389434579265170028:=()
def tw6105465357482209157:=()
def tw7549733093013732209:=()
def tw13001726293592229904:=()
def tw8938457774649285006:=()
def tw17582489684330180027:=()
def tw13431189631947792973:=()
def tw5506363679513238682:=()
def tw1795592517677633655:=()
def tw7278120581799271025:=()
def tw4914085671196169333:=()
def tw8661373955335334927:=()
def tw14818154014693427247:=()
def tw14397248097413753277:=()
def tw16098851973713196551:=()
def tw13361703483692090110:=()
end PySem.W.Fast
open PySem PySem.W PyProof.Rows
set_option maxRecDepth 100000 in
set_option maxHeartbeats 0 in
theorem PySem.Challenge.cw_carpetkin_k34_weavings_written_holds : PySem.Challenge.rw_carpetkin_k34_weavings_written.Holds := by
 w_on;o_law;k_head;(case hw=>w_witness2)
 k_fill
 refine PU.c2A (k:=94) (x:="_law_script") (l:=PySem.Challenge.rw_carpetkin_k34_weavings_written) (by decide) rfl rfl (fun w h Y=>PySem.W.kIn_of Y) ?F
 case F=>
  intro w mg fa h KX G hmg
  refine' LW.c0n KX G hmg ?_ ?_ ?_ ?_ ?_ ?_ ?_ ?_ ?_ ?_ ?_ ?_ ?_ ?_ ?_ ?_ ?_ ?_ ?_ ?_ ?_ ?_ ?_ ?_ ?_ ?_ ?_ ?_ ?_ ?_ ?_ ?_ ?_ ?_ ?_ ?_ ?_ ?_ ?_ ?_ ?_ ?_ ?_ ?_ ?_ ?_ ?_ ?_ ?_ ?_ ?_ ?_ ?_ ?_ ?_ ?_ ?_ ?_ ?_ ?_ ?_ ?_ ?_ ?_ ?_ ?_ ?_ ?_ ?_ ?_ ?_ ?_ ?_ ?_ ?_ ?_ ?_ ?_ ?_ ?_ ?_ ?_ ?_ ?_ ?_ ?_ ?_ ?_ ?_ ?_ ?_ ?_
  all_goals first|(apply PU.b6M<;>k_is)|(apply PU.c0t<;>k_is)|(apply PU.c1R<;>first|k_is|kernel_rfl)|k_is|kernel_rfl|skip
